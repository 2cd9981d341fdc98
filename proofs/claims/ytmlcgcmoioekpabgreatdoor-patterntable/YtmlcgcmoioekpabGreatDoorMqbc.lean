import Derived.Test.YtmlcgcmoioekpabGreatDoorMqaz
import Derived.Test.YtmlcgcmoioekpabGreatDoorMqbb
import Derived.Test.YtmlcgcmoioekpabGreatDoorMqaf
import Derived.Test.YtmlcgcmoioekpabGreatDoorMqab
namespace Go.Proofs.YtmlcgcmoioekpabGreatDoor
set_option linter.unusedSimpArgs false
set_option linter.unusedVariables false
set_option maxRecDepth 100000
open Go.ChangeShapes Go.WideShapes Go.ChangeAt Go.RowKit Go.Pin Go.Pat Go.Deep
def nnP : Pt := ⟨⟨#[78, 78]⟩, [], [], [(0, [1]), (1, [1, 3])]⟩
def nnM : Pt := ⟨⟨#[78, 78, 112, 115, 107, 48]⟩, [], [], [(0, [7, 1]), (1, [1, 3])]⟩
theorem kn_prs : prs ⟨#[78, 78, 58, 10, 32, 32, 45, 62, 32, 101, 10, 32, 32, 60, 45, 32, 101, 44, 32, 101, 101, 10]⟩ = (nnP, 0) := by kernel_rfl
theorem kn_fnd : tbI ⟨#[78, 78]⟩ = some nnP := by kernel_rfl
theorem kn_non : tbI ⟨#[78, 78, 49]⟩ = none := by kernel_rfl
theorem kn_prn : prn nnP = (⟨#[78, 78, 58, 10, 32, 32, 45, 62, 32, 101, 10, 32, 32, 60, 45, 32, 101, 44, 32, 101, 101, 10]⟩, 0) := by kernel_rfl
theorem kn_mdf : mdf nnP [⟨#[112, 115, 107, 48]⟩] = (nnM, 0) := by kernel_rfl
theorem kn_chk : chk nnM = 0 := by kernel_rfl
theorem kn_zer : chk zPt = 9 := by kernel_rfl
/-- the counter's box -/
structure KC (q nb : Nat) (w : World) (k : Int) (wr : World) : Prop where
  old : Below nb w wr
  row : wr.heap[nb]? = some (.cells #[.int .i64 k] 3)
theorem KC.lt {q nb : Nat} {w wr : World} {k : Int} (h : KC q nb w k wr) : nb < wr.heap.size := (Array.getElem?_eq_some_iff.1 h.row).1
theorem KC.below {q nb : Nat} {w wr w' : World} {k : Int} (h : KC q nb w k wr) (hb : Below wr.heap.size wr w') : KC q nb w k w' := ⟨h.old.trans (hb.mono (Nat.le_of_lt h.lt)), (hb.block nb h.lt).trans h.row⟩
theorem known1_any (nb : Nat) (k : Nat) (hk : k ≤ 100) (a b c d : Value) (W : World) (h : W.heap[nb]? = some (.cells #[.int .i64 k] 3)) :
    Calls Tryz.prog 24 #[.agg #[a, b, c, d], .pointer (some ⟨nb, 0, none⟩)] W fun e W' => e = .returned (.bool (decide (k + 1 < 5))) ∧ W' = (W.alloc (.cells #[a, b, c, d] 26)).setCell ⟨nb, 0, none⟩ (.int .i64 ((k : Int) + 1)) := by
  have hlt := (Array.getElem?_eq_some_iff.1 h).1
  have hr : (W.alloc (.cells #[a, b, c, d] 26)).heap[nb]? = some (.cells #[.int .i64 k] 3) := (Below.heap_alloc _ _ _ hlt).trans h
  have c0 : (W.alloc (.cells #[a, b, c, d] 26)).cell? ⟨nb, 0, none⟩ = some (.int .i64 k) := by rw [cell_of_row _ _ _ _ _ _ hr]; rfl
  have f0 : (W.alloc (.cells #[a, b, c, d] 26)).frozen? ⟨nb, 0, none⟩ = false := frozen_of_row _ _ _ _ _ hr
  obtain ⟨W1, hW1⟩ : ∃ W1, W.alloc (.cells #[a, b, c, d] 26) = W1 := ⟨_, rfl⟩
  rw [hW1] at c0 f0 ⊢
  have b0 : (k : Int) ≤ 100 := by omega
  have b1 : (0 : Int) ≤ (k : Int) := by omega
  have HD : Hid (decide (k + 1 < 5) = decide ((k : Int) + 1 < 5)) := by
    show _ = _
    rw [Bool.eq_iff_iff]
    simp only [decide_eq_true_eq]
    omega
  clear h hr hlt
  go_enter Tryz.func24, Tryz.ntmps24
  go_wp2
  go_ret
  exact ⟨by rw [HD.out]; rfl, rfl⟩
/-- All, whose yield counts up to five -/
theorem all_five {ea : Int → Addr} (q nb : Nat) (w0 w : World) (hn : nb < w.heap.size) (h : KC q nb w0 0 w) (hE : ∀ y, Below nb w0 y → Errs ea y) :
    Calls Tryz.prog 41 #[.func (.func 24) #[] #[.pointer (some ⟨nb, 0, none⟩)]] w fun e w' => e = .returned (.tuple #[]) ∧ KC q nb w0 5 w' := by
  refine (all1_any (ea := ea) w.heap.size 24 #[.pointer (some ⟨nb, 0, none⟩)] (fun j W => j ≤ 4 ∧ KC q nb w0 j W) (fun W => KC q nb w0 5 W) w rfl (fun _ _ => rfl) ?_ (fun j W hW => hE _ hW.2.old) ⟨Nat.zero_le _, h⟩).mono ?_
  · intro j W1 W v0 v1 vl hj hI hb hft
    have hK := hI.2.below hb
    refine Calls.mono (known1_any nb j (by omega) _ _ _ _ W hK.row) ?_
    rintro e W' ⟨rfl, rfl⟩
    have hal := (Below.refl W.heap.size W).alloc (Nat.le_refl _) (.cells #[.string (tab.getD j zPt).nm, v0, v1, vl] 26)
    have hK2 := hK.below hal
    have hset : KC q nb w0 ((j : Int) + 1) ((W.alloc (.cells #[.string (tab.getD j zPt).nm, v0, v1, vl] 26)).setCell ⟨nb, 0, none⟩ (.int .i64 ((j : Int) + 1))) :=
      ⟨hK2.old.setCell (p := ⟨nb, 0, none⟩) (Nat.le_refl _) _, by rw [Go.heap_setCell_same _ _ _ _ _ _ hK2.row]; rfl⟩
    refine ⟨decide (j + 1 < 5), rfl, fun k hk1 hk2 => ?_, ?_, ?_⟩
    · exact (heap_setCell_other _ _ _ _ (by show k ≠ nb; omega)).trans (hal.block k hk2)
    · rw [World.size_setCell]; exact hal.size
    · by_cases h5 : j + 1 < 5
      · rw [if_pos (by simpa using h5)]
        exact ⟨by omega, hset⟩
      · rw [if_neg (by simpa using h5)]
        have : j = 4 := by have := hI.1; omega
        subst this
        exact hset
  · rintro e w' ⟨rfl, h5 | h5⟩
    · exact ⟨rfl, h5⟩
    · exact absurd h5.1 (by decide)

/-- a pattern in a box of its own -/
structure BX (b : Nat) (v0 v1 vl : Value) (p : Pt) (wr : World) : Prop where
  row : wr.heap[b]? = some (.cells #[.string p.nm, v0, v1, vl] 26)
  rd : RdP wr (.agg #[.string p.nm, v0, v1, vl]) p
section
variable {b : Nat} {v0 v1 vl : Value} {p : Pt} {wr w' : World}
theorem BX.lt (h : BX b v0 v1 vl p wr) : b < wr.heap.size := (Array.getElem?_eq_some_iff.1 h.row).1
theorem BX.below (h : BX b v0 v1 vl p wr) (hb : Below wr.heap.size wr w') : BX b v0 v1 vl p w' := ⟨(hb.block b h.lt).trans h.row, h.rd.below hb⟩
theorem BX.c0 (h : BX b v0 v1 vl p wr) : wr.cell? ⟨b, 0, none⟩ = some (.string p.nm) := by rw [cell_of_row _ _ _ _ _ _ h.row]; rfl
theorem BX.c1 (h : BX b v0 v1 vl p wr) : wr.cell? ⟨b, 1, none⟩ = some v0 := by rw [cell_of_row _ _ _ _ _ _ h.row]; rfl
theorem BX.c2 (h : BX b v0 v1 vl p wr) : wr.cell? ⟨b, 2, none⟩ = some v1 := by rw [cell_of_row _ _ _ _ _ _ h.row]; rfl
theorem BX.c3 (h : BX b v0 v1 vl p wr) : wr.cell? ⟨b, 3, none⟩ = some vl := by rw [cell_of_row _ _ _ _ _ _ h.row]; rfl
theorem bx_new (w : World) (h : RdP w (.agg #[.string p.nm, v0, v1, vl]) p) : BX w.heap.size v0 v1 vl p (w.alloc (.cells #[.string p.nm, v0, v1, vl] 26)) :=
  ⟨heap_alloc_new _ _, h.below ((Below.refl _ _).alloc (Nat.le_refl _) _)⟩
end
theorem ft_sl {S : Nat → Prop} {w : World} {v0 v1 vl : Value} {p : Pt} (h : FtP S w v0 v1 vl p) : ∃ a0 k0 a1 k1 al kl, v0 = .slice a0 p.b0.length k0 ∧ v1 = .slice a1 p.b1.length k1 ∧ vl = .slice al p.ln.length kl := by
  obtain ⟨⟨a0, k0, e0, _⟩, ⟨a1, k1, e1, _⟩, ⟨al, kl, el, _⟩⟩ := h
  exact ⟨a0, k0, a1, k1, al, kl, e0, e1, el⟩
theorem nnP_sl {S : Nat → Prop} {w : World} {v0 v1 vl : Value} (h : FtP S w v0 v1 vl nnP) : ∃ a0 k0 a1 k1 al kl, v0 = .slice a0 0 k0 ∧ v1 = .slice a1 0 k1 ∧ vl = .slice al 2 kl := ft_sl h
theorem nnM_sl {S : Nat → Prop} {w : World} {v0 v1 vl : Value} (h : FtP S w v0 v1 vl nnM) : ∃ a0 k0 a1 k1 b o kl b2 o2 c2, v0 = .slice a0 0 k0 ∧ v1 = .slice a1 0 k1 ∧ vl = .slice (some ⟨b, o, none⟩) 2 kl ∧ ∀ W, Below w.heap.size w W → W.cell? ⟨b, o + 1, none⟩ = some (.slice (some ⟨b2, o2, none⟩) 2 c2) ∧ W.cell? ⟨b2, o2, none⟩ = some (.int .i64 7) := by
  have hr := h.2.2.rd
  obtain ⟨a0, k0, a1, k1, al, kl, rfl, rfl, rfl⟩ := ft_sl h
  obtain ⟨b, o, a2, n2, c2, rfl, hc, hn, rfl⟩ := hr.at (j := 0) (by decide)
  obtain ⟨_, _, hat⟩ := hn.at
  obtain ⟨b2, o2, rfl, hc2⟩ := hat 0 (by decide)
  exact ⟨_, _, _, _, b, o, kl, b2, o2, c2, rfl, rfl, rfl, fun W hW => ⟨(hc W hW).2, hc2 W hW⟩⟩
theorem all0_any (W : World) : Calls Tryz.prog 15 #[] W fun e w' => e = .returned (.func (.func 41) #[] #[]) ∧ w' = W := by
  go_enter Tryz.func15, Tryz.ntmps15
  go_wp2
  go_ret
  exact ⟨rfl, rfl⟩
theorem sub_le {n : Nat} {a b c : World} (h : Below n a b) (k : Below b.heap.size b c) (hn : n ≤ b.heap.size) : Below n a c := h.trans (k.mono hn)
set_option maxHeartbeats 8000000 in
theorem known_any {ea : Int → Addr} (W : World) (hE : Errs ea W) :
    Calls Tryz.prog 8 #[] W fun e w' => e = .returned (.bool true) ∧ Below W.heap.size W w' := by
  obtain ⟨q, hq⟩ : ∃ q, W.heap.size = q := ⟨_, rfl⟩
  rw [hq]
  have HE : Hid (∀ y, Below q W y → Errs ea y ∧ q ≤ y.heap.size) := fun y hy => ⟨hE.below (by rw [hq]; exact hy), by have := hy.size; omega⟩
  have HW : Hid (Below q W W) := Below.refl _ _
  have CP := parse_any' (ea := ea) ⟨#[78, 78, 58, 10, 32, 32, 45, 62, 32, 101, 10, 32, 32, 60, 45, 32, 101, 44, 32, 101, 101, 10]⟩ W hE (by decide)
  unfold PsP at CP
  rw [kn_prs] at CP
  simp only [EV_0] at CP
  clear hE hq
  go_enter Tryz.func8, Tryz.ntmps8
  go_upto_region 2 with (go_at_call 10; refine CP.mono ?_; rintro e w1 ⟨hb, v0, v1, vl, rfl, hf⟩; obtain ⟨a0, k0, a1, k1, al, kl, rfl, rfl, rfl⟩ := nnP_sl hf; have H1 : Hid (Below q W w1 ∧ RdP w1 (.agg #[.string nnP.nm, .slice a0 0 k0, .slice a1 0 k1, .slice al 2 kl]) nnP) := ⟨sub_le HW.out hb (HE.out _ HW.out).2, hf.rd⟩; clear hb hf CP)
  have hbx := bx_new w1 H1.out.2
  obtain ⟨g1, hg1⟩ : ∃ g1, w1.heap.size = g1 := ⟨_, rfl⟩
  obtain ⟨W2, hW2⟩ : ∃ W2, w1.alloc (.cells #[.string nnP.nm, .slice a0 0 k0, .slice a1 0 k1, .slice al 2 kl] 26) = W2 := ⟨_, rfl⟩
  have hB2 : Below q W W2 := by rw [← hW2]; exact H1.out.1.alloc (HE.out _ H1.out.1).2 _
  simp only [hg1, hW2] at hbx ⊢
  have H2 : Hid (Below q W W2 ∧ BX g1 (.slice a0 0 k0) (.slice a1 0 k1) (.slice al 2 kl) nnP W2) := ⟨hB2, hbx⟩
  have CF := find_any' (ea := ea) ⟨#[78, 78]⟩ W2 (HE.out _ hB2).1
  unfold FnP at CF
  rw [kn_fnd] at CF
  simp only [Option.getD_some, Option.isSome_some] at CF
  clear hbx hW2 hg1 hB2 H1
  go_upto_region 3 with (go_at_call 17; refine CF.mono ?_; rintro e w3 ⟨hb, v0, v1, vl, rfl, hf⟩; obtain ⟨c0, l0, c1, l1, cl, ll, rfl, rfl, rfl⟩ := nnP_sl hf; have H3 : Hid (Below q W w3 ∧ BX g1 (.slice a0 0 k0) (.slice a1 0 k1) (.slice al 2 kl) nnP w3 ∧ RdP w3 (.agg #[.string nnP.nm, .slice c0 0 l0, .slice c1 0 l1, .slice cl 2 ll]) nnP) := ⟨sub_le H2.out.1 hb (HE.out _ H2.out.1).2, H2.out.2.below hb, hf.rd⟩; clear hb hf CF)
  have hbx := bx_new w3 H3.out.2.2
  have hal := H3.out.2.1.below ((Below.refl _ _).alloc (Nat.le_refl _) (.cells #[.string nnP.nm, .slice c0 0 l0, .slice c1 0 l1, .slice cl 2 ll] 26))
  obtain ⟨g2, hg2⟩ : ∃ g2, w3.heap.size = g2 := ⟨_, rfl⟩
  obtain ⟨W4, hW4⟩ : ∃ W4, w3.alloc (.cells #[.string nnP.nm, .slice c0 0 l0, .slice c1 0 l1, .slice cl 2 ll] 26) = W4 := ⟨_, rfl⟩
  have hB4 : Below q W W4 := by rw [← hW4]; exact H3.out.1.alloc (HE.out _ H3.out.1).2 _
  simp only [hg2, hW4] at hbx hal ⊢
  have H4 : Hid (Below q W W4 ∧ BX g1 (.slice a0 0 k0) (.slice a1 0 k1) (.slice al 2 kl) nnP W4 ∧ BX g2 (.slice c0 0 l0) (.slice c1 0 l1) (.slice cl 2 ll) nnP W4) := ⟨hB4, hal, hbx⟩
  have CR := pprint_any (ea := ea) _ nnP W4 (HE.out _ hB4).1 hbx.rd (by decide)
  rw [kn_prn] at CR
  simp only [EV_0] at CR
  have y0 := hbx.c0
  have y1 := hbx.c1
  have y2 := hbx.c2
  have y3 := hbx.c3
  clear hbx hal hW4 hg2 hB4 H3
  go_upto_region 4 with (go_at_call 9; refine CR.mono ?_; rintro e w5 ⟨rfl, hb⟩; have H5 : Hid (Below q W w5 ∧ BX g1 (.slice a0 0 k0) (.slice a1 0 k1) (.slice al 2 kl) nnP w5 ∧ BX g2 (.slice c0 0 l0) (.slice c1 0 l1) (.slice cl 2 ll) nnP w5) := ⟨sub_le H4.out.1 hb (HE.out _ H4.out.1).2, H4.out.2.1.below hb, H4.out.2.2.below hb⟩; clear hb CR y0 y1 y2 y3)
  have y0 := H5.out.2.2.c0
  have y1 := H5.out.2.2.c1
  have y2 := H5.out.2.2.c2
  have y3 := H5.out.2.2.c3
  have hal : Below w5.heap.size w5 (w5.alloc (.cells #[.string ⟨#[112, 115, 107, 48]⟩] 9)) := (Below.refl _ _).alloc (Nat.le_refl _) _
  have H6 : Hid (Below q W (w5.alloc (.cells #[.string ⟨#[112, 115, 107, 48]⟩] 9)) ∧ BX g1 (.slice a0 0 k0) (.slice a1 0 k1) (.slice al 2 kl) nnP (w5.alloc (.cells #[.string ⟨#[112, 115, 107, 48]⟩] 9)) ∧ BX g2 (.slice c0 0 l0) (.slice c1 0 l1) (.slice cl 2 ll) nnP (w5.alloc (.cells #[.string ⟨#[112, 115, 107, 48]⟩] 9))) := ⟨sub_le H5.out.1 hal (HE.out _ H5.out.1).2, H5.out.2.1.below hal, H5.out.2.2.below hal⟩
  have CM := modify_any' (ea := ea) (.agg #[.string nnP.nm, .slice c0 0 l0, .slice c1 0 l1, .slice cl 2 ll]) (.slice (some ⟨w5.heap.size, 0, none⟩) 1 1) nnP [⟨#[112, 115, 107, 48]⟩] (w5.alloc (.cells #[.string ⟨#[112, 115, 107, 48]⟩] 9)) (HE.out _ H6.out.1).1 H6.out.2.2.rd ⟨_, 1, rfl, fun j hj => ⟨w5.heap.size, 0, rfl, by
    obtain rfl : j = 0 := by simp at hj; exact hj
    rw [cell_of_row _ _ _ _ _ _ (heap_alloc_new _ _)]; rfl⟩⟩ (by decide) (by decide) (by decide) (fun a n c h => by injection h with h1 h2 h3; omega)
  unfold MoP at CM
  rw [kn_mdf] at CM
  simp only [EV_0] at CM
  clear hal H4
  go_upto_region 5 with (go_at_call 13; refine CM.mono ?_; rintro e w7 ⟨hb, v0, v1, vl, rfl, hf⟩; obtain ⟨d0, m0, d1, m1, bl, ol, ml, b2, o2, m2, rfl, rfl, rfl, hM⟩ := nnM_sl hf; have H7 : Hid ((Below q W w7 ∧ BX g1 (.slice a0 0 k0) (.slice a1 0 k1) (.slice al 2 kl) nnP w7) ∧ RdP w7 (.agg #[.string nnM.nm, .slice d0 0 m0, .slice d1 0 m1, .slice (some ⟨bl, ol, none⟩) 2 ml]) nnM ∧ BX g2 (.slice c0 0 l0) (.slice c1 0 l1) (.slice cl 2 ll) nnP w7) := ⟨⟨sub_le H6.out.1 hb (HE.out _ H6.out.1).2, H6.out.2.1.below hb⟩, hf.rd, H6.out.2.2.below hb⟩; have HM : Hid (∀ W, Below w7.heap.size w7 W → W.cell? ⟨bl, ol + 1, none⟩ = some (.slice (some ⟨b2, o2, none⟩) 2 m2) ∧ W.cell? ⟨b2, o2, none⟩ = some (.int .i64 7)) := hM; clear hb hf CM y0 y1 y2 y3 hM)
  have hbx := bx_new w7 H7.out.2.1
  have ha0 : Below w7.heap.size w7 (w7.alloc (.cells #[.string nnM.nm, .slice d0 0 m0, .slice d1 0 m1, .slice (some ⟨bl, ol, none⟩) 2 ml] 26)) := (Below.refl _ _).alloc (Nat.le_refl _) _
  have ha1 := H7.out.1.2.below ha0
  have ha2 := H7.out.2.2.below ha0
  have ha3 := sub_le H7.out.1.1 ha0 (HE.out _ H7.out.1.1).2
  obtain ⟨g3, hg3⟩ : ∃ g3, w7.heap.size = g3 := ⟨_, rfl⟩
  obtain ⟨W8, hW8⟩ : ∃ W8, w7.alloc (.cells #[.string nnM.nm, .slice d0 0 m0, .slice d1 0 m1, .slice (some ⟨bl, ol, none⟩) 2 ml] 26) = W8 := ⟨_, rfl⟩
  simp only [hg3, hW8] at hbx ha0 ha1 ha2 ha3 ⊢
  have H8 : Hid (Below q W W8 ∧ BX g1 (.slice a0 0 k0) (.slice a1 0 k1) (.slice al 2 kl) nnP W8 ∧ BX g2 (.slice c0 0 l0) (.slice c1 0 l1) (.slice cl 2 ll) nnP W8 ∧ BX g3 (.slice d0 0 m0) (.slice d1 0 m1) (.slice (some ⟨bl, ol, none⟩) 2 ml) nnM W8 ∧ Below w7.heap.size w7 W8) := ⟨ha3, ha1, ha2, hbx, by rw [hg3]; exact ha0⟩
  have CF := find_any' (ea := ea) ⟨#[78, 78, 49]⟩ W8 (HE.out _ ha3).1
  unfold FnP at CF
  rw [kn_non] at CF
  simp only [Option.getD_none, Option.isSome_none] at CF
  clear hbx hW8 hg3 ha0 ha1 ha2 ha3 H7
  go_upto_region 6 with (go_at_call 17; refine CF.mono ?_; rintro e w9 ⟨hb, v0, v1, vl, rfl, hf⟩; obtain ⟨e0, x0, e1, x1, el, xl, rfl, rfl, rfl⟩ := ft_sl hf; have H9 : Hid (Below q W w9 ∧ BX g1 (.slice a0 0 k0) (.slice a1 0 k1) (.slice al 2 kl) nnP w9 ∧ BX g2 (.slice c0 0 l0) (.slice c1 0 l1) (.slice cl 2 ll) nnP w9 ∧ BX g3 (.slice d0 0 m0) (.slice d1 0 m1) (.slice (some ⟨bl, ol, none⟩) 2 ml) nnM w9 ∧ Below w7.heap.size w7 w9) := ⟨sub_le H8.out.1 hb (HE.out _ H8.out.1).2, H8.out.2.1.below hb, H8.out.2.2.1.below hb, H8.out.2.2.2.1.below hb, sub_le H8.out.2.2.2.2 hb H8.out.2.2.2.2.size⟩; clear hb hf CF)
  have ha0 : Below w9.heap.size w9 (w9.alloc (.cells #[.string zPt.nm, .slice e0 zPt.b0.length x0, .slice e1 zPt.b1.length x1, .slice el zPt.ln.length xl] 26)) := (Below.refl _ _).alloc (Nat.le_refl _) _
  have H10 := H9.out
  have h1 := sub_le H10.1 ha0 (HE.out _ H10.1).2
  have h2 := H10.2.1.below ha0
  have h3 := H10.2.2.1.below ha0
  have h4 := H10.2.2.2.1.below ha0
  have h5 := sub_le H10.2.2.2.2 ha0 H10.2.2.2.2.size
  obtain ⟨W10, hW10⟩ : ∃ W10, w9.alloc (.cells #[.string zPt.nm, .slice e0 zPt.b0.length x0, .slice e1 zPt.b1.length x1, .slice el zPt.ln.length xl] 26) = W10 := ⟨_, rfl⟩
  simp only [hW10] at h1 h2 h3 h4 h5 ⊢
  have HT : Hid (Below q W W10 ∧ BX g1 (.slice a0 0 k0) (.slice a1 0 k1) (.slice al 2 kl) nnP W10 ∧ BX g2 (.slice c0 0 l0) (.slice c1 0 l1) (.slice cl 2 ll) nnP W10 ∧ BX g3 (.slice d0 0 m0) (.slice d1 0 m1) (.slice (some ⟨bl, ol, none⟩) 2 ml) nnM W10 ∧ Below w7.heap.size w7 W10) := ⟨h1, h2, h3, h4, h5⟩
  clear h1 h2 h3 h4 h5 hW10 ha0 H10 H9 H8
  have CA := all0_any
  have CI := all_five (ea := ea) q W10.heap.size W10 (W10.alloc (.cells #[.int .i64 0] 3)) (by rw [size_alloc]; omega) ⟨(Below.refl _ _).alloc (Nat.le_refl _) _, heap_alloc_new _ _⟩ (fun y hy => (HE.out _ HT.out.1).1.below hy)
  go_upto_region 7 with (fail)
  obtain ⟨nb, hnb⟩ : ∃ nb, W10.heap.size = nb := ⟨_, rfl⟩
  have HNB : Hid (W10.heap.size = nb) := hnb
  rw [hnb] at CI
  obtain ⟨W11, hW11⟩ : ∃ W11, W10.alloc (.cells #[.int .i64 0] 3) = W11 := ⟨_, rfl⟩
  rw [hW11] at CI
  simp only [hnb, hW11]
  clear hW11 hnb
  go_upto_region 8 with (go_at_call 15; refine (CA _).mono ?_; rintro e wa ⟨rfl, rfl⟩)
  clear CA
  have hnf : ∀ (w : World), (binOp BinOp.eql 42 (.func (.func 41) #[] #[]) Value.nilFunc).run Tryz.prog w = .ok (.bool false) w := fun _ => rfl
  go_upto_region 11 with (go_at_call 41; refine CI.mono ?_; rintro e w12 ⟨rfl, hk⟩; have HKC : Hid (KC q nb W10 5 w12) := hk; clear hk CI)
  have hold : Below W10.heap.size W10 w12 := by rw [HNB.out]; exact HKC.out.old
  have H12 : Hid (Below q W w12 ∧ BX g1 (.slice a0 0 k0) (.slice a1 0 k1) (.slice al 2 kl) nnP w12 ∧ BX g2 (.slice c0 0 l0) (.slice c1 0 l1) (.slice cl 2 ll) nnP w12 ∧ BX g3 (.slice d0 0 m0) (.slice d1 0 m1) (.slice (some ⟨bl, ol, none⟩) 2 ml) nnM w12 ∧ Below w7.heap.size w7 w12) := ⟨sub_le HT.out.1 hold (HE.out _ HT.out.1).2, HT.out.2.1.below hold, HT.out.2.2.1.below hold, HT.out.2.2.2.1.below hold, sub_le HT.out.2.2.2.2 hold HT.out.2.2.2.2.size⟩
  clear hnf hold HT
  have hnm : (nnM.nm.toList == [78, 78, 112, 115, 107, 48]) = true := by decide +kernel
  have HS : Hid (∀ y, Below w12.heap.size w12 y → Calls Tryz.prog 11 #[.agg #[.string nnP.nm, .slice a0 0 k0, .slice a1 0 k1, .slice al 2 kl], .agg #[.string nnP.nm, .slice c0 0 l0, .slice c1 0 l1, .slice cl 2 ll]] y fun e w' => e = .returned (.bool true) ∧ Below y.heap.size y w') := fun y hy => same_true (H12.out.2.1.below hy).rd (H12.out.2.2.1.below hy).rd
  have HZ : Hid (∀ y, Below w12.heap.size w12 y → Calls Tryz.prog 12 #[.agg #[.string ⟨#[]⟩, .slice none 0 0, .slice none 0 0, .slice none 0 0]] y fun e w' => e = .returned (.iface 169 (.pointer (some (ea 9)))) ∧ Below y.heap.size y w') := fun y hy => by
    have := pcheck_any (ea := ea) (.agg zPR) zPt y ((HE.out _ H12.out.1).1.below hy) (ftp_zero (fun _ => True) y).rd
    rw [kn_zer] at this
    exact this
  have HC : Hid (∀ y, Below w12.heap.size w12 y → Calls Tryz.prog 12 #[.agg #[.string nnM.nm, .slice d0 0 m0, .slice d1 0 m1, .slice (some ⟨bl, ol, none⟩) 2 ml]] y fun e w' => e = .returned .nilIface ∧ Below y.heap.size y w') := fun y hy => by
    have := pcheck_any (ea := ea) _ nnM y ((HE.out _ H12.out.1).1.below hy) (H12.out.2.2.2.1.below hy).rd
    rw [kn_chk] at this
    exact this
  have HCN : Hid (∀ y, Below w12.heap.size w12 y → y.cell? ⟨nb, 0, none⟩ = some (.int .i64 5)) := fun y hy => by
    rw [cell_of_row _ _ _ _ _ _ (HKC.out.below hy).row]; rfl
  have hE9 : (9 : Int) ∈ ecs := by decide
  refine Go.Pin.wp_region_clb (fun Y => Below w12.heap.size w12 Y) (by kernel_rfl) (by kernel_rfl) ((Below.refl _ _).drew) ?_
  intro Sq fq hNq hRq hSq
  dsimp only [List.append_eq, List.cons_append, List.nil_append, List.map, Go.Pin.bare]
  have x0 := fun x => (H12.out.2.1.below (hRq x)).c0
  have x1 := fun x => (H12.out.2.1.below (hRq x)).c1
  have x2 := fun x => (H12.out.2.1.below (hRq x)).c2
  have x3 := fun x => (H12.out.2.1.below (hRq x)).c3
  have y0 := fun x => (H12.out.2.2.1.below (hRq x)).c0
  have y1 := fun x => (H12.out.2.2.1.below (hRq x)).c1
  have y2 := fun x => (H12.out.2.2.1.below (hRq x)).c2
  have y3 := fun x => (H12.out.2.2.1.below (hRq x)).c3
  have z0 := fun x => (H12.out.2.2.2.1.below (hRq x)).c0
  have z1 := fun x => (H12.out.2.2.2.1.below (hRq x)).c1
  have z2 := fun x => (H12.out.2.2.2.1.below (hRq x)).c2
  have z3 := fun x => (H12.out.2.2.2.1.below (hRq x)).c3
  have u1 := fun x => (HM.out _ (sub_le H12.out.2.2.2.2 (hRq x) H12.out.2.2.2.2.size)).1
  have u2 := fun x => (HM.out _ (sub_le H12.out.2.2.2.2 (hRq x) H12.out.2.2.2.2.size)).2
  have cn := fun x => HCN.out _ (hRq x)
  have ce := fun x => (((HE.out _ H12.out.1).1.below (hRq x)).1 9 hE9).1
  have ee := fun x => eq_err ((HE.out _ H12.out.1).1.below (hRq x)) hE9 hE9
  simp only [eblk] at ce
  simp only [decide_true] at ee
  have C1 := fun x => HS.out (fq x) (hRq x)
  have C2 := fun x => HZ.out (fq x) (hRq x)
  have C3 := fun x => HC.out (fq x) (hRq x)
  repeat (go_big_quiet_step (first
      | (with_reducible refine Calls.mono (C1 _) ?_; intro e w' h; exact ⟨h.1, hSq _ ((hRq _).trans (h.2.mono (hRq _).size))⟩)
      | (with_reducible refine Calls.mono (C2 _) ?_; intro e w' h; exact ⟨h.1, hSq _ ((hRq _).trans (h.2.mono (hRq _).size))⟩)
      | (with_reducible refine Calls.mono (C3 _) ?_; intro e w' h; exact ⟨h.1, hSq _ ((hRq _).trans (h.2.mono (hRq _).size))⟩)))
  refine wpQuiet_nil ?_
  intro _ hw'
  obtain ⟨xq, hw''⟩ := hw'
  subst hw''
  have HYq := hRq xq
  generalize fq xq = Y at HYq ⊢
  clear hRq hSq hNq xq fq Sq x0 x1 x2 x3 y0 y1 y2 y3 z0 z1 z2 z3 u1 u2 cn ce ee C1 C2 C3
  have HY : Hid (Below q W Y) := sub_le H12.out.1 HYq (HE.out _ H12.out.1).2
  clear HYq
  go_wp2
  go_ret
  exact ⟨rfl, HY.out⟩
end Go.Proofs.YtmlcgcmoioekpabGreatDoor
namespace Go.Proofs.YtmlcgcmoioekpabGreatDoor
set_option linter.unusedSimpArgs false
set_option linter.unusedVariables false
open Go.ChangeShapes Go.WideShapes Go.ChangeAt Go.RowKit Go.Pin Go.Pat Go.Deep
/-- a text that came in -/
theorem open_text {H : Type} {enc : TypeId × Value → H} {W : World} {v : Value} {d : DataW H} {ps : List MemPlace} (hval : ∃ s, v = .string s)
    (h : DataW.Trod enc Tryz.prog W 0 (fun _ => true) true 9 v d ps) (hs : ∀ k ∈ d.weights Tryz.prog 9, k ≤ reachBytes) : ∃ s : ByteArray, v = .string s ∧ s.size ≤ 140737488355328 := by
  obtain ⟨s, rfl⟩ := hval
  obtain ⟨fuel, hf⟩ := h
  obtain ⟨s', h1, h2, _⟩ := DataW.trod_string Tryz.underlying9 hf
  simp only [Value.cells, List.cons.injEq, and_true, Value.string.injEq] at h1
  subst h1
  simp only [Prod.mk.injEq] at h2
  refine ⟨s, rfl, ?_⟩
  have := hs s.data.toList.length (by rw [h2.1]; simp [DataW.weights])
  unfold reachBytes at this
  have e : s.data.toList.length = s.size := by simp
  omega
theorem bytes_string : Tryz.prog.bytesOf 9 = 16 := by kernel_rfl
/-- words that came in -/
theorem open_words {H : Type} {enc : TypeId × Value → H} {W : World} {v : Value} {d : DataW H} {ps : List MemPlace} (hv : ∃ a n c, v = .slice a n c)
    (h : DataW.Trod enc Tryz.prog W 0 (fun _ => true) true 38 v d ps) (hs : ∀ k ∈ d.weights Tryz.prog 38, k ≤ reachBytes) :
    ∃ ws : List ByteArray, RdS W v ws ∧ (∀ x ∈ ws, x.size ≤ 140737488355328) ∧ (∀ a n c, v = .slice a n c → n ≤ c) ∧ ws.length ≤ 140737488355328 := by
  obtain ⟨a, n, c, rfl⟩ := hv
  obtain ⟨fuel, hf⟩ := h
  rcases open_strs Tryz.underlying38 Tryz.underlying9 (by kernel_rfl) hf with ⟨hcs, _⟩ | ⟨y, len, cap, m, Sx, hcs, _, hl, hm, hmm, hx, hc⟩
  · simp only [Value.cells, List.cons.injEq, and_true, Value.slice.injEq] at hcs
    obtain ⟨rfl, rfl, rfl⟩ := hcs
    exact ⟨[], ⟨none, 0, rfl, fun j hj => nomatch hj⟩, (fun x hx => nomatch hx), fun a n c h => by injection h with h1 h2 h3; omega, by simp⟩
  · simp only [Value.cells, List.cons.injEq, and_true, Value.slice.injEq] at hcs
    obtain ⟨rfl, rfl, rfl⟩ := hcs
    simp only [Prod.mk.injEq] at hx
    have hlm : n ≤ m := by rw [hmm]; split <;> omega
    refine ⟨(List.range n).map Sx, ⟨some y, c, by simp, fun j hj => ?_⟩, fun x hx' => ?_, fun a n c h => by injection h with h1 h2 h3; omega, ?_⟩
    · have hj' : j < n := by simpa using hj
      have h0 := (hc 0 (by omega)).1
      obtain ⟨b, o, rfl⟩ := add_spot h0
      have h1 := (hc j (by omega)).1
      rw [add_mid] at h1
      refine ⟨b, o, rfl, ?_⟩
      rw [h1]
      simp [List.getD, hj']
    · obtain ⟨i, hi, rfl⟩ := List.mem_map.1 hx'
      have := hs (Sx i).data.toList.length (by
        rw [hx.1]
        simp only [DataW.weights, Tryz.underlying38]
        exact List.mem_cons_of_mem _ (List.mem_append_left _ (weightsAll_mem (List.mem_map.2 ⟨i, hi, rfl⟩) (by simp [DataW.weights]))))
      unfold reachBytes at this
      have e : (Sx i).data.toList.length = (Sx i).size := by simp
      omega
    · have := hs ((n + (m - n)) * 16) (by
        rw [hx.1]
        simp only [DataW.weights, Tryz.underlying38]
        refine List.mem_cons.2 (.inl ?_)
        rw [bytes_string]
        simp)
      unfold reachBytes at this
      simp
      omega
end Go.Proofs.YtmlcgcmoioekpabGreatDoor
namespace Go.Proofs.YtmlcgcmoioekpabGreatDoor
set_option linter.unusedSimpArgs false
set_option linter.unusedVariables false
open Go.ChangeShapes Go.WideShapes Go.ChangeAt Go.RowKit Go.Pin Go.Pat
/-- a pattern that a statement looks at -/
def Sml (p : Pt) : Prop := p.b0.length ≤ 2000 ∧ p.b1.length ≤ 2000 ∧ p.ln.length ≤ 2000 ∧ p.nm.size ≤ 8000 ∧ ∀ j, j < p.ln.length → (p.ln.getD j (0, [])).2.length ≤ 2000
/-- what much answers -/
def MuP (p : Pt) (q : Nat) (W : World) (e : Ending) (w' : World) : Prop := ∃ b, e = .returned (.bool b) ∧ (b = false → Sml p) ∧ Below q W w'
set_option maxRecDepth 100000 in
set_option maxHeartbeats 4000000 in
theorem much_any (v : Value) (p : Pt) (W : World) (hR : RdP W v p) :
    Calls Tryz.prog 7 #[v] W fun e w' => MuP p W.heap.size W e w' := by
  obtain ⟨v0, v1, vl, rfl, h0, h1, hl⟩ := hR
  obtain ⟨a0, p0, rfl, -, z0, -⟩ := id h0
  obtain ⟨a1, p1, rfl, -, z1, -⟩ := id h1
  obtain ⟨al, cl, rfl, -, zl, -⟩ := id hl
  have hst := pb_start W p.nm (.slice a0 p.b0.length p0) (.slice a1 p.b1.length p1) (.slice al p.ln.length cl)
  have hHL := fun Y (hY : Below W.heap.size W Y) => hl.below hY
  obtain ⟨q, hq⟩ : ∃ q, W.heap.size = q := ⟨_, rfl⟩
  obtain ⟨nm, hnm⟩ : ∃ nm, p.nm = nm := ⟨_, rfl⟩
  obtain ⟨n0, hn0⟩ : ∃ n0, p.b0.length = n0 := ⟨_, rfl⟩
  obtain ⟨n1, hn1⟩ : ∃ n1, p.b1.length = n1 := ⟨_, rfl⟩
  obtain ⟨L, hLn⟩ : ∃ L, p.ln.length = L := ⟨_, rfl⟩
  simp only [hq, hnm, hn0, hn1, hLn] at hst hHL z0 z1 zl ⊢
  obtain ⟨W1, hW1⟩ : ∃ W1, W.alloc (.cells #[.string nm, .slice a0 n0 p0, .slice a1 n1 p1, .slice al L cl] 26) = W1 := ⟨_, rfl⟩
  rw [hW1] at hst
  have HP : Hid (PB q W nm (.slice a0 n0 p0) (.slice a1 n1 p1) (.slice al L cl) W1) := hst
  have HHL : Hid _ := hHL
  have HEQ : Hid (p.nm = nm ∧ p.b0.length = n0 ∧ p.b1.length = n1 ∧ p.ln.length = L) := ⟨hnm, hn0, hn1, hLn⟩
  have c0 := hst.c0
  have c1 := hst.c1
  have c2 := hst.c2
  have c3 := hst.c3
  clear hst hHL h0 h1 hl hnm hn0 hn1 hLn
  by_cases s0 : n0 ≤ 2000
  case neg =>
    have t0 : (2000 : Int) < (n0 : Int) := by omega
    go_enter Tryz.func7, Tryz.ntmps7
    go_wp2
    go_ret
    exact ⟨true, rfl, fun h => (by cases h), HP.out.old⟩
  by_cases s1 : n1 ≤ 2000
  case neg =>
    have t0 : decide ((2000 : Int) < (n0 : Int)) = false := decide_eq_false (by omega)
    have t1 : (2000 : Int) < (n1 : Int) := by omega
    go_enter Tryz.func7, Tryz.ntmps7
    go_wp2
    go_ret
    exact ⟨true, rfl, fun h => (by cases h), HP.out.old⟩
  by_cases s2 : L ≤ 2000
  case neg =>
    have t0 : decide ((2000 : Int) < (n0 : Int)) = false := decide_eq_false (by omega)
    have t1 : decide ((2000 : Int) < (n1 : Int)) = false := decide_eq_false (by omega)
    have t2 : (2000 : Int) < (L : Int) := by omega
    go_enter Tryz.func7, Tryz.ntmps7
    go_wp2
    go_ret
    exact ⟨true, rfl, fun h => (by cases h), HP.out.old⟩
  by_cases s3 : nm.size ≤ 8000
  case neg =>
    have t0 : decide ((2000 : Int) < (n0 : Int)) = false := decide_eq_false (by omega)
    have t1 : decide ((2000 : Int) < (n1 : Int)) = false := decide_eq_false (by omega)
    have t2 : decide ((2000 : Int) < (L : Int)) = false := decide_eq_false (by omega)
    have t3 : (8000 : Int) < (nm.size : Int) := by omega
    go_enter Tryz.func7, Tryz.ntmps7
    go_wp2
    go_ret
    exact ⟨true, rfl, fun h => (by cases h), HP.out.old⟩
  have t0 : decide ((2000 : Int) < (n0 : Int)) = false := decide_eq_false (by omega)
  have t1 : decide ((2000 : Int) < (n1 : Int)) = false := decide_eq_false (by omega)
  have t2 : decide ((2000 : Int) < (L : Int)) = false := decide_eq_false (by omega)
  have t3 : decide ((8000 : Int) < (nm.size : Int)) = false := decide_eq_false (by omega)
  have HS : Hid (n0 ≤ 2000 ∧ n1 ≤ 2000 ∧ L ≤ 2000 ∧ nm.size ≤ 8000) := ⟨s0, s1, s2, s3⟩
  have hw1 : wrap64 ((n0 : Int) + (n1 : Int)) = (n0 : Int) + n1 := IntWalk.wrap64_in _ ⟨by omega, by omega⟩
  have hw2 : wrap64 ((n0 : Int) + (n1 : Int) + (L : Int)) = (n0 : Int) + n1 + L := IntWalk.wrap64_in _ ⟨by omega, by omega⟩
  go_enter Tryz.func7, Tryz.ntmps7
  go_wp2
  clear hw1 hw2 t0 t1 t2 t3 c0 c1 c2 c3
  go_loopw [3, 4] (fun v3 v4 wr => ∃ (i m : Nat), i ≤ L ∧ m ≤ 6000 ∧ v3 = .int .i64 m ∧ v4 = .int .i64 i ∧ (∀ j, j < i → (p.ln.getD j (0, [])).2.length ≤ 2000) ∧ PB q W nm (.slice a0 n0 p0) (.slice a1 n1 p1) (.slice al L cl) wr) (fun _ v _ => L - (intOf v).toNat)
  case atStart => exact ⟨0, n0 + n1 + L, Nat.zero_le _, by have := HS.out; omega, by simp, rfl, fun j hj => absurd hj (Nat.not_lt_zero _), HP.out⟩
  case round =>
    obtain ⟨i, m, hi, hm, rfl, rfl, ha, hp⟩ := hrel
    have HPR : Hid _ := hp
    have HA : Hid _ := ha
    have c3 := hp.c3
    by_cases hlt : i < L
    · have b1 : (i : Int) < (L : Int) := by omega
      obtain ⟨b, o, a2, n2, c2, rfl, hc, hn, hn2⟩ := (HHL.out wr hp.old).at hlt
      have k1 := (hc wr (Below.refl _ _)).2
      have HN2 : Hid (n2 = (p.ln.getD i (0, [])).2.length) := hn2
      have HM : Hid (m ≤ 6000) := hm
      clear hc hn hn2 hp ha
      by_cases hg : n2 ≤ 2000
      · have t0 : ¬ (2000 : Int) < (n2 : Int) := by omega
        by_cases hg2 : m + n2 ≤ 2000
        · have t2 : ¬ (2000 : Int) < (m : Int) + (n2 : Int) := by omega
          have t1 : wrap64 ((m : Int) + (n2 : Int)) = (m : Int) + (n2 : Int) := IntWalk.wrap64_in _ ⟨by omega, by omega⟩
          go_wp2
          refine ⟨⟨i + 1, m + n2, hlt, by omega, by simp, congrArg (Value.int .i64) (by omega), fun j hj => ?_, HPR.out⟩, by show L - ((i : Int) + 1).toNat < L - ((i : Int)).toNat; omega⟩
          by_cases hji : j = i
          · rw [hji, ← HN2.out]; exact hg
          · exact HA.out j (by omega)
        · have t2 : (2000 : Int) < (m : Int) + (n2 : Int) := by omega
          have t1 : wrap64 ((m : Int) + (n2 : Int)) = (m : Int) + (n2 : Int) := IntWalk.wrap64_in _ ⟨by omega, by omega⟩
          go_wp2
          go_ret
          exact ⟨true, rfl, fun h => (by cases h), HPR.out.old⟩
      · have t0 : (2000 : Int) < (n2 : Int) := by omega
        go_wp2
        go_ret
        exact ⟨true, rfl, fun h => (by cases h), HPR.out.old⟩
    · have b1 : ¬ (i : Int) < (L : Int) := by omega
      have HIL : Hid (L ≤ i) := by show L ≤ i; omega
      clear hp ha
      go_wp2
      go_ret
      refine ⟨_, rfl, fun _ => ?_, HPR.out.old⟩
      have e := HEQ.out
      have s := HS.out
      refine ⟨by omega, by omega, by omega, by rw [e.1]; omega, fun j hj => HA.out j ?_⟩
      have := HIL.out
      omega
end Go.Proofs.YtmlcgcmoioekpabGreatDoor
