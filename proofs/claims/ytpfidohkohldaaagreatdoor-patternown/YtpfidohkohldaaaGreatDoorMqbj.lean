import Derived.Test.YtpfidohkohldaaaGreatDoorMqaz
import Derived.Test.YtpfidohkohldaaaGreatDoorMqbh
import Derived.Test.YtpfidohkohldaaaGreatDoorMqbi
namespace Go.Proofs.YtpfidohkohldaaaGreatDoor
set_option linter.unusedSimpArgs false
set_option linter.unusedVariables false
set_option maxRecDepth 100000
open Go.ChangeShapes Go.WideShapes Go.ChangeAt Go.RowKit Go.Pin Go.Pat Go.Deep
def nnP : Pt := ⟨⟨#[78, 78]⟩, [], [], [(0, [1]), (1, [1, 3])]⟩
def nnM : Pt := ⟨⟨#[78, 78, 112, 115, 107, 48]⟩, [], [], [(0, [7, 1]), (1, [1, 3])]⟩
theorem kn_prs : prs ⟨#[78, 78, 58, 10, 32, 32, 45, 62, 32, 101, 10, 32, 32, 60, 45, 32, 101, 44, 32, 101, 101, 10]⟩ = (nnP, 0) := by kernel_rfl
theorem kn_fnd : tbI ⟨#[78, 78]⟩ = some nnP := by kernel_rfl
theorem kn_non : tbI ⟨#[78, 78, 49]⟩ = none := by kernel_rfl
theorem kn_prn : prn nnP = (⟨#[78, 78, 58, 10, 32, 32, 45, 62, 32, 101, 10, 32, 32, 60, 45, 32, 101, 44, 32, 101, 101, 10]⟩, 0) := by kernel_rfl
theorem kn_mdf : mdf nnP [⟨#[112, 115, 107, 48]⟩] = (nnM, 0) := by kernel_rfl
theorem kn_chk : chk nnM = 0 := by kernel_rfl
theorem kn_zer : chk zPt = 9 := by kernel_rfl
/-- the counter's box -/
structure KC (q nb : Nat) (w : World) (k : Int) (wr : World) : Prop where
  old : Below nb w wr
  row : wr.heap[nb]? = some (.cells #[.int .i64 k] 3)
theorem KC.lt {q nb : Nat} {w wr : World} {k : Int} (h : KC q nb w k wr) : nb < wr.heap.size := (Array.getElem?_eq_some_iff.1 h.row).1
theorem KC.below {q nb : Nat} {w wr w' : World} {k : Int} (h : KC q nb w k wr) (hb : Below wr.heap.size wr w') : KC q nb w k w' := ⟨h.old.trans (hb.mono (Nat.le_of_lt h.lt)), (hb.block nb h.lt).trans h.row⟩
theorem known1_any (nb : Nat) (k : Nat) (hk : k ≤ 100) (a b c d : Value) (W : World) (h : W.heap[nb]? = some (.cells #[.int .i64 k] 3)) :
    Calls Tryz.prog 17 #[.agg #[a, b, c, d], .pointer (some ⟨nb, 0, none⟩)] W fun e W' => e = .returned (.bool (decide (k + 1 < 5))) ∧ W' = (W.alloc (.cells #[a, b, c, d] 26)).setCell ⟨nb, 0, none⟩ (.int .i64 ((k : Int) + 1)) := by
  have hlt := (Array.getElem?_eq_some_iff.1 h).1
  have hr : (W.alloc (.cells #[a, b, c, d] 26)).heap[nb]? = some (.cells #[.int .i64 k] 3) := (Below.heap_alloc _ _ _ hlt).trans h
  have c0 : (W.alloc (.cells #[a, b, c, d] 26)).cell? ⟨nb, 0, none⟩ = some (.int .i64 k) := by rw [cell_of_row _ _ _ _ _ _ hr]; rfl
  have f0 : (W.alloc (.cells #[a, b, c, d] 26)).frozen? ⟨nb, 0, none⟩ = false := frozen_of_row _ _ _ _ _ hr
  obtain ⟨W1, hW1⟩ : ∃ W1, W.alloc (.cells #[a, b, c, d] 26) = W1 := ⟨_, rfl⟩
  rw [hW1] at c0 f0 ⊢
  have b0 : (k : Int) ≤ 100 := by omega
  have b1 : (0 : Int) ≤ (k : Int) := by omega
  have HD : Hid (decide (k + 1 < 5) = decide ((k : Int) + 1 < 5)) := by
    show _ = _
    rw [Bool.eq_iff_iff]
    simp only [decide_eq_true_eq]
    omega
  clear h hr hlt
  go_enter Tryz.func17, Tryz.ntmps17
  go_wp2
  go_ret
  exact ⟨by rw [HD.out]; rfl, rfl⟩
/-- All, whose yield counts up to five -/
theorem all_five {ea : Int → Addr} (q nb : Nat) (w0 w : World) (hn : nb < w.heap.size) (h : KC q nb w0 0 w) (hE : ∀ y, Below nb w0 y → Errs ea y) :
    Calls Tryz.prog 32 #[.func (.func 17) #[] #[.pointer (some ⟨nb, 0, none⟩)]] w fun e w' => e = .returned (.tuple #[]) ∧ KC q nb w0 5 w' := by
  refine (all1_any (ea := ea) w.heap.size 17 #[.pointer (some ⟨nb, 0, none⟩)] (fun j W => j ≤ 4 ∧ KC q nb w0 j W) (fun W => KC q nb w0 5 W) w rfl (fun _ _ => rfl) ?_ (fun j W hW => hE _ hW.2.old) ⟨Nat.zero_le _, h⟩).mono ?_
  · intro j W1 W v0 v1 vl hj hI hb hft
    have hK := hI.2.below hb
    refine Calls.mono (known1_any nb j (by omega) _ _ _ _ W hK.row) ?_
    rintro e W' ⟨rfl, rfl⟩
    have hal := (Below.refl W.heap.size W).alloc (Nat.le_refl _) (.cells #[.string (tab.getD j zPt).nm, v0, v1, vl] 26)
    have hK2 := hK.below hal
    have hset : KC q nb w0 ((j : Int) + 1) ((W.alloc (.cells #[.string (tab.getD j zPt).nm, v0, v1, vl] 26)).setCell ⟨nb, 0, none⟩ (.int .i64 ((j : Int) + 1))) :=
      ⟨hK2.old.setCell (p := ⟨nb, 0, none⟩) (Nat.le_refl _) _, by rw [Go.heap_setCell_same _ _ _ _ _ _ hK2.row]; rfl⟩
    refine ⟨decide (j + 1 < 5), rfl, fun k hk1 hk2 => ?_, ?_, ?_⟩
    · exact (heap_setCell_other _ _ _ _ (by show k ≠ nb; omega)).trans (hal.block k hk2)
    · rw [World.size_setCell]; exact hal.size
    · by_cases h5 : j + 1 < 5
      · rw [if_pos (by simpa using h5)]
        exact ⟨by omega, hset⟩
      · rw [if_neg (by simpa using h5)]
        have : j = 4 := by have := hI.1; omega
        subst this
        exact hset
  · rintro e w' ⟨rfl, h5 | h5⟩
    · exact ⟨rfl, h5⟩
    · exact absurd h5.1 (by decide)

/-- a pattern in a box of its own -/
structure BX (b : Nat) (v0 v1 vl : Value) (p : Pt) (wr : World) : Prop where
  row : wr.heap[b]? = some (.cells #[.string p.nm, v0, v1, vl] 26)
  rd : RdP wr (.agg #[.string p.nm, v0, v1, vl]) p
section
variable {b : Nat} {v0 v1 vl : Value} {p : Pt} {wr w' : World}
theorem BX.lt (h : BX b v0 v1 vl p wr) : b < wr.heap.size := (Array.getElem?_eq_some_iff.1 h.row).1
theorem BX.below (h : BX b v0 v1 vl p wr) (hb : Below wr.heap.size wr w') : BX b v0 v1 vl p w' := ⟨(hb.block b h.lt).trans h.row, h.rd.below hb⟩
theorem BX.c0 (h : BX b v0 v1 vl p wr) : wr.cell? ⟨b, 0, none⟩ = some (.string p.nm) := by rw [cell_of_row _ _ _ _ _ _ h.row]; rfl
theorem BX.c1 (h : BX b v0 v1 vl p wr) : wr.cell? ⟨b, 1, none⟩ = some v0 := by rw [cell_of_row _ _ _ _ _ _ h.row]; rfl
theorem BX.c2 (h : BX b v0 v1 vl p wr) : wr.cell? ⟨b, 2, none⟩ = some v1 := by rw [cell_of_row _ _ _ _ _ _ h.row]; rfl
theorem BX.c3 (h : BX b v0 v1 vl p wr) : wr.cell? ⟨b, 3, none⟩ = some vl := by rw [cell_of_row _ _ _ _ _ _ h.row]; rfl
theorem bx_new (w : World) (h : RdP w (.agg #[.string p.nm, v0, v1, vl]) p) : BX w.heap.size v0 v1 vl p (w.alloc (.cells #[.string p.nm, v0, v1, vl] 26)) :=
  ⟨heap_alloc_new _ _, h.below ((Below.refl _ _).alloc (Nat.le_refl _) _)⟩
end
theorem ft_sl {S : Nat → Prop} {w : World} {v0 v1 vl : Value} {p : Pt} (h : FtP S w v0 v1 vl p) : ∃ a0 k0 a1 k1 al kl, v0 = .slice a0 p.b0.length k0 ∧ v1 = .slice a1 p.b1.length k1 ∧ vl = .slice al p.ln.length kl := by
  obtain ⟨⟨a0, k0, e0, _⟩, ⟨a1, k1, e1, _⟩, ⟨al, kl, el, _⟩⟩ := h
  exact ⟨a0, k0, a1, k1, al, kl, e0, e1, el⟩
theorem nnP_sl {S : Nat → Prop} {w : World} {v0 v1 vl : Value} (h : FtP S w v0 v1 vl nnP) : ∃ a0 k0 a1 k1 al kl, v0 = .slice a0 0 k0 ∧ v1 = .slice a1 0 k1 ∧ vl = .slice al 2 kl := ft_sl h
theorem nnM_sl {S : Nat → Prop} {w : World} {v0 v1 vl : Value} (h : FtP S w v0 v1 vl nnM) : ∃ a0 k0 a1 k1 b o kl b2 o2 c2, v0 = .slice a0 0 k0 ∧ v1 = .slice a1 0 k1 ∧ vl = .slice (some ⟨b, o, none⟩) 2 kl ∧ ∀ W, Below w.heap.size w W → W.cell? ⟨b, o + 1, none⟩ = some (.slice (some ⟨b2, o2, none⟩) 2 c2) ∧ W.cell? ⟨b2, o2, none⟩ = some (.int .i64 7) := by
  have hr := h.2.2.rd
  obtain ⟨a0, k0, a1, k1, al, kl, rfl, rfl, rfl⟩ := ft_sl h
  obtain ⟨b, o, a2, n2, c2, rfl, hc, hn, rfl⟩ := hr.at (j := 0) (by decide)
  obtain ⟨_, _, hat⟩ := hn.at
  obtain ⟨b2, o2, rfl, hc2⟩ := hat 0 (by decide)
  exact ⟨_, _, _, _, b, o, kl, b2, o2, c2, rfl, rfl, rfl, fun W hW => ⟨(hc W hW).2, hc2 W hW⟩⟩
theorem all0_any (W : World) : Calls Tryz.prog 16 #[] W fun e w' => e = .returned (.func (.func 32) #[] #[]) ∧ w' = W := by
  go_enter Tryz.func16, Tryz.ntmps16
  go_wp2
  go_ret
  exact ⟨rfl, rfl⟩
theorem sub_le {n : Nat} {a b c : World} (h : Below n a b) (k : Below b.heap.size b c) (hn : n ≤ b.heap.size) : Below n a c := h.trans (k.mono hn)
set_option maxHeartbeats 8000000 in
theorem known_any {ea : Int → Addr} (W : World) (hE : Errs ea W) :
    Calls Tryz.prog 5 #[] W fun e w' => e = .returned (.bool true) ∧ Below W.heap.size W w' := by
  obtain ⟨q, hq⟩ : ∃ q, W.heap.size = q := ⟨_, rfl⟩
  rw [hq]
  have HE : Hid (∀ y, Below q W y → Errs ea y ∧ q ≤ y.heap.size) := fun y hy => ⟨hE.below (by rw [hq]; exact hy), by have := hy.size; omega⟩
  have HW : Hid (Below q W W) := Below.refl _ _
  have CP := parse_any' (ea := ea) ⟨#[78, 78, 58, 10, 32, 32, 45, 62, 32, 101, 10, 32, 32, 60, 45, 32, 101, 44, 32, 101, 101, 10]⟩ W hE (by decide)
  unfold PsP at CP
  rw [kn_prs] at CP
  simp only [EV_0] at CP
  clear hE hq
  go_enter Tryz.func5, Tryz.ntmps5
  go_upto_region 2 with (go_at_call 12; refine CP.mono ?_; rintro e w1 ⟨hb, v0, v1, vl, rfl, hf⟩; obtain ⟨a0, k0, a1, k1, al, kl, rfl, rfl, rfl⟩ := nnP_sl hf; have H1 : Hid (Below q W w1 ∧ RdP w1 (.agg #[.string nnP.nm, .slice a0 0 k0, .slice a1 0 k1, .slice al 2 kl]) nnP) := ⟨sub_le HW.out hb (HE.out _ HW.out).2, hf.rd⟩; clear hb hf CP)
  have hbx := bx_new w1 H1.out.2
  obtain ⟨g1, hg1⟩ : ∃ g1, w1.heap.size = g1 := ⟨_, rfl⟩
  obtain ⟨W2, hW2⟩ : ∃ W2, w1.alloc (.cells #[.string nnP.nm, .slice a0 0 k0, .slice a1 0 k1, .slice al 2 kl] 26) = W2 := ⟨_, rfl⟩
  have hB2 : Below q W W2 := by rw [← hW2]; exact H1.out.1.alloc (HE.out _ H1.out.1).2 _
  simp only [hg1, hW2] at hbx ⊢
  have H2 : Hid (Below q W W2 ∧ BX g1 (.slice a0 0 k0) (.slice a1 0 k1) (.slice al 2 kl) nnP W2) := ⟨hB2, hbx⟩
  have CF := find_any' (ea := ea) ⟨#[78, 78]⟩ W2 (HE.out _ hB2).1
  unfold FnP at CF
  rw [kn_fnd] at CF
  simp only [Option.getD_some, Option.isSome_some] at CF
  clear hbx hW2 hg1 hB2 H1
  go_upto_region 3 with (go_at_call 13; refine CF.mono ?_; rintro e w3 ⟨hb, v0, v1, vl, rfl, hf⟩; obtain ⟨c0, l0, c1, l1, cl, ll, rfl, rfl, rfl⟩ := nnP_sl hf; have H3 : Hid (Below q W w3 ∧ BX g1 (.slice a0 0 k0) (.slice a1 0 k1) (.slice al 2 kl) nnP w3 ∧ RdP w3 (.agg #[.string nnP.nm, .slice c0 0 l0, .slice c1 0 l1, .slice cl 2 ll]) nnP) := ⟨sub_le H2.out.1 hb (HE.out _ H2.out.1).2, H2.out.2.below hb, hf.rd⟩; clear hb hf CF)
  have hbx := bx_new w3 H3.out.2.2
  have hal := H3.out.2.1.below ((Below.refl _ _).alloc (Nat.le_refl _) (.cells #[.string nnP.nm, .slice c0 0 l0, .slice c1 0 l1, .slice cl 2 ll] 26))
  obtain ⟨g2, hg2⟩ : ∃ g2, w3.heap.size = g2 := ⟨_, rfl⟩
  obtain ⟨W4, hW4⟩ : ∃ W4, w3.alloc (.cells #[.string nnP.nm, .slice c0 0 l0, .slice c1 0 l1, .slice cl 2 ll] 26) = W4 := ⟨_, rfl⟩
  have hB4 : Below q W W4 := by rw [← hW4]; exact H3.out.1.alloc (HE.out _ H3.out.1).2 _
  simp only [hg2, hW4] at hbx hal ⊢
  have H4 : Hid (Below q W W4 ∧ BX g1 (.slice a0 0 k0) (.slice a1 0 k1) (.slice al 2 kl) nnP W4 ∧ BX g2 (.slice c0 0 l0) (.slice c1 0 l1) (.slice cl 2 ll) nnP W4) := ⟨hB4, hal, hbx⟩
  have CR := pprint_any (ea := ea) _ nnP W4 (HE.out _ hB4).1 hbx.rd (by decide)
  rw [kn_prn] at CR
  simp only [EV_0] at CR
  have y0 := hbx.c0
  have y1 := hbx.c1
  have y2 := hbx.c2
  have y3 := hbx.c3
  clear hbx hal hW4 hg2 hB4 H3
  go_upto_region 4 with (go_at_call 14; refine CR.mono ?_; rintro e w5 ⟨rfl, hb⟩; have H5 : Hid (Below q W w5 ∧ BX g1 (.slice a0 0 k0) (.slice a1 0 k1) (.slice al 2 kl) nnP w5 ∧ BX g2 (.slice c0 0 l0) (.slice c1 0 l1) (.slice cl 2 ll) nnP w5) := ⟨sub_le H4.out.1 hb (HE.out _ H4.out.1).2, H4.out.2.1.below hb, H4.out.2.2.below hb⟩; clear hb CR y0 y1 y2 y3)
  have y0 := H5.out.2.2.c0
  have y1 := H5.out.2.2.c1
  have y2 := H5.out.2.2.c2
  have y3 := H5.out.2.2.c3
  have hal : Below w5.heap.size w5 (w5.alloc (.cells #[.string ⟨#[112, 115, 107, 48]⟩] 9)) := (Below.refl _ _).alloc (Nat.le_refl _) _
  have H6 : Hid (Below q W (w5.alloc (.cells #[.string ⟨#[112, 115, 107, 48]⟩] 9)) ∧ BX g1 (.slice a0 0 k0) (.slice a1 0 k1) (.slice al 2 kl) nnP (w5.alloc (.cells #[.string ⟨#[112, 115, 107, 48]⟩] 9)) ∧ BX g2 (.slice c0 0 l0) (.slice c1 0 l1) (.slice cl 2 ll) nnP (w5.alloc (.cells #[.string ⟨#[112, 115, 107, 48]⟩] 9))) := ⟨sub_le H5.out.1 hal (HE.out _ H5.out.1).2, H5.out.2.1.below hal, H5.out.2.2.below hal⟩
  have CM := modify_any' (ea := ea) (.agg #[.string nnP.nm, .slice c0 0 l0, .slice c1 0 l1, .slice cl 2 ll]) (.slice (some ⟨w5.heap.size, 0, none⟩) 1 1) nnP [⟨#[112, 115, 107, 48]⟩] (w5.alloc (.cells #[.string ⟨#[112, 115, 107, 48]⟩] 9)) (HE.out _ H6.out.1).1 H6.out.2.2.rd ⟨_, 1, rfl, fun j hj => ⟨w5.heap.size, 0, rfl, by
    obtain rfl : j = 0 := by simp at hj; exact hj
    rw [cell_of_row _ _ _ _ _ _ (heap_alloc_new _ _)]; rfl⟩⟩ (by decide) (by decide) (by decide) (fun a n c h => by injection h with h1 h2 h3; omega)
  unfold MoP at CM
  rw [kn_mdf] at CM
  simp only [EV_0] at CM
  clear hal H4
  go_upto_region 5 with (go_at_call 15; refine CM.mono ?_; rintro e w7 ⟨hb, v0, v1, vl, rfl, hf⟩; obtain ⟨d0, m0, d1, m1, bl, ol, ml, b2, o2, m2, rfl, rfl, rfl, hM⟩ := nnM_sl hf; have H7 : Hid ((Below q W w7 ∧ BX g1 (.slice a0 0 k0) (.slice a1 0 k1) (.slice al 2 kl) nnP w7) ∧ RdP w7 (.agg #[.string nnM.nm, .slice d0 0 m0, .slice d1 0 m1, .slice (some ⟨bl, ol, none⟩) 2 ml]) nnM ∧ BX g2 (.slice c0 0 l0) (.slice c1 0 l1) (.slice cl 2 ll) nnP w7) := ⟨⟨sub_le H6.out.1 hb (HE.out _ H6.out.1).2, H6.out.2.1.below hb⟩, hf.rd, H6.out.2.2.below hb⟩; have HM : Hid (∀ W, Below w7.heap.size w7 W → W.cell? ⟨bl, ol + 1, none⟩ = some (.slice (some ⟨b2, o2, none⟩) 2 m2) ∧ W.cell? ⟨b2, o2, none⟩ = some (.int .i64 7)) := hM; clear hb hf CM y0 y1 y2 y3 hM)
  have hbx := bx_new w7 H7.out.2.1
  have ha0 : Below w7.heap.size w7 (w7.alloc (.cells #[.string nnM.nm, .slice d0 0 m0, .slice d1 0 m1, .slice (some ⟨bl, ol, none⟩) 2 ml] 26)) := (Below.refl _ _).alloc (Nat.le_refl _) _
  have ha1 := H7.out.1.2.below ha0
  have ha2 := H7.out.2.2.below ha0
  have ha3 := sub_le H7.out.1.1 ha0 (HE.out _ H7.out.1.1).2
  obtain ⟨g3, hg3⟩ : ∃ g3, w7.heap.size = g3 := ⟨_, rfl⟩
  obtain ⟨W8, hW8⟩ : ∃ W8, w7.alloc (.cells #[.string nnM.nm, .slice d0 0 m0, .slice d1 0 m1, .slice (some ⟨bl, ol, none⟩) 2 ml] 26) = W8 := ⟨_, rfl⟩
  simp only [hg3, hW8] at hbx ha0 ha1 ha2 ha3 ⊢
  have H8 : Hid (Below q W W8 ∧ BX g1 (.slice a0 0 k0) (.slice a1 0 k1) (.slice al 2 kl) nnP W8 ∧ BX g2 (.slice c0 0 l0) (.slice c1 0 l1) (.slice cl 2 ll) nnP W8 ∧ BX g3 (.slice d0 0 m0) (.slice d1 0 m1) (.slice (some ⟨bl, ol, none⟩) 2 ml) nnM W8 ∧ Below w7.heap.size w7 W8) := ⟨ha3, ha1, ha2, hbx, by rw [hg3]; exact ha0⟩
  have CF := find_any' (ea := ea) ⟨#[78, 78, 49]⟩ W8 (HE.out _ ha3).1
  unfold FnP at CF
  rw [kn_non] at CF
  simp only [Option.getD_none, Option.isSome_none] at CF
  clear hbx hW8 hg3 ha0 ha1 ha2 ha3 H7
  go_upto_region 6 with (go_at_call 13; refine CF.mono ?_; rintro e w9 ⟨hb, v0, v1, vl, rfl, hf⟩; obtain ⟨e0, x0, e1, x1, el, xl, rfl, rfl, rfl⟩ := ft_sl hf; have H9 : Hid (Below q W w9 ∧ BX g1 (.slice a0 0 k0) (.slice a1 0 k1) (.slice al 2 kl) nnP w9 ∧ BX g2 (.slice c0 0 l0) (.slice c1 0 l1) (.slice cl 2 ll) nnP w9 ∧ BX g3 (.slice d0 0 m0) (.slice d1 0 m1) (.slice (some ⟨bl, ol, none⟩) 2 ml) nnM w9 ∧ Below w7.heap.size w7 w9) := ⟨sub_le H8.out.1 hb (HE.out _ H8.out.1).2, H8.out.2.1.below hb, H8.out.2.2.1.below hb, H8.out.2.2.2.1.below hb, sub_le H8.out.2.2.2.2 hb H8.out.2.2.2.2.size⟩; clear hb hf CF)
  have ha0 : Below w9.heap.size w9 (w9.alloc (.cells #[.string zPt.nm, .slice e0 zPt.b0.length x0, .slice e1 zPt.b1.length x1, .slice el zPt.ln.length xl] 26)) := (Below.refl _ _).alloc (Nat.le_refl _) _
  have H10 := H9.out
  have h1 := sub_le H10.1 ha0 (HE.out _ H10.1).2
  have h2 := H10.2.1.below ha0
  have h3 := H10.2.2.1.below ha0
  have h4 := H10.2.2.2.1.below ha0
  have h5 := sub_le H10.2.2.2.2 ha0 H10.2.2.2.2.size
  obtain ⟨W10, hW10⟩ : ∃ W10, w9.alloc (.cells #[.string zPt.nm, .slice e0 zPt.b0.length x0, .slice e1 zPt.b1.length x1, .slice el zPt.ln.length xl] 26) = W10 := ⟨_, rfl⟩
  simp only [hW10] at h1 h2 h3 h4 h5 ⊢
  have HT : Hid (Below q W W10 ∧ BX g1 (.slice a0 0 k0) (.slice a1 0 k1) (.slice al 2 kl) nnP W10 ∧ BX g2 (.slice c0 0 l0) (.slice c1 0 l1) (.slice cl 2 ll) nnP W10 ∧ BX g3 (.slice d0 0 m0) (.slice d1 0 m1) (.slice (some ⟨bl, ol, none⟩) 2 ml) nnM W10 ∧ Below w7.heap.size w7 W10) := ⟨h1, h2, h3, h4, h5⟩
  clear h1 h2 h3 h4 h5 hW10 ha0 H10 H9 H8
  have CA := all0_any
  have CI := all_five (ea := ea) q W10.heap.size W10 (W10.alloc (.cells #[.int .i64 0] 3)) (by rw [size_alloc]; omega) ⟨(Below.refl _ _).alloc (Nat.le_refl _) _, heap_alloc_new _ _⟩ (fun y hy => (HE.out _ HT.out.1).1.below hy)
  go_upto_region 7 with (fail)
  obtain ⟨nb, hnb⟩ : ∃ nb, W10.heap.size = nb := ⟨_, rfl⟩
  have HNB : Hid (W10.heap.size = nb) := hnb
  rw [hnb] at CI
  obtain ⟨W11, hW11⟩ : ∃ W11, W10.alloc (.cells #[.int .i64 0] 3) = W11 := ⟨_, rfl⟩
  rw [hW11] at CI
  simp only [hnb, hW11]
  clear hW11 hnb
  go_upto_region 8 with (go_at_call 16; refine (CA _).mono ?_; rintro e wa ⟨rfl, rfl⟩)
  clear CA
  have hnf : ∀ (w : World), (binOp BinOp.eql 54 (.func (.func 32) #[] #[]) Value.nilFunc).run Tryz.prog w = .ok (.bool false) w := fun _ => rfl
  go_upto_region 11 with (go_at_call 32; refine CI.mono ?_; rintro e w12 ⟨rfl, hk⟩; have HKC : Hid (KC q nb W10 5 w12) := hk; clear hk CI)
  have hold : Below W10.heap.size W10 w12 := by rw [HNB.out]; exact HKC.out.old
  have H12 : Hid (Below q W w12 ∧ BX g1 (.slice a0 0 k0) (.slice a1 0 k1) (.slice al 2 kl) nnP w12 ∧ BX g2 (.slice c0 0 l0) (.slice c1 0 l1) (.slice cl 2 ll) nnP w12 ∧ BX g3 (.slice d0 0 m0) (.slice d1 0 m1) (.slice (some ⟨bl, ol, none⟩) 2 ml) nnM w12 ∧ Below w7.heap.size w7 w12) := ⟨sub_le HT.out.1 hold (HE.out _ HT.out.1).2, HT.out.2.1.below hold, HT.out.2.2.1.below hold, HT.out.2.2.2.1.below hold, sub_le HT.out.2.2.2.2 hold HT.out.2.2.2.2.size⟩
  clear hnf hold HT
  have hnm : (nnM.nm.toList == [78, 78, 112, 115, 107, 48]) = true := by decide +kernel
  have HS : Hid (∀ y, Below w12.heap.size w12 y → Calls Tryz.prog 8 #[.agg #[.string nnP.nm, .slice a0 0 k0, .slice a1 0 k1, .slice al 2 kl], .agg #[.string nnP.nm, .slice c0 0 l0, .slice c1 0 l1, .slice cl 2 ll]] y fun e w' => e = .returned (.bool true) ∧ Below y.heap.size y w') := fun y hy => same_true (H12.out.2.1.below hy).rd (H12.out.2.2.1.below hy).rd
  have HZ : Hid (∀ y, Below w12.heap.size w12 y → Calls Tryz.prog 18 #[.agg #[.string ⟨#[]⟩, .slice none 0 0, .slice none 0 0, .slice none 0 0]] y fun e w' => e = .returned (.iface 166 (.pointer (some (ea 9)))) ∧ Below y.heap.size y w') := fun y hy => by
    have := pcheck_any (ea := ea) (.agg zPR) zPt y ((HE.out _ H12.out.1).1.below hy) (ftp_zero (fun _ => True) y).rd
    rw [kn_zer] at this
    exact this
  have HC : Hid (∀ y, Below w12.heap.size w12 y → Calls Tryz.prog 18 #[.agg #[.string nnM.nm, .slice d0 0 m0, .slice d1 0 m1, .slice (some ⟨bl, ol, none⟩) 2 ml]] y fun e w' => e = .returned .nilIface ∧ Below y.heap.size y w') := fun y hy => by
    have := pcheck_any (ea := ea) _ nnM y ((HE.out _ H12.out.1).1.below hy) (H12.out.2.2.2.1.below hy).rd
    rw [kn_chk] at this
    exact this
  have HCN : Hid (∀ y, Below w12.heap.size w12 y → y.cell? ⟨nb, 0, none⟩ = some (.int .i64 5)) := fun y hy => by
    rw [cell_of_row _ _ _ _ _ _ (HKC.out.below hy).row]; rfl
  have hE9 : (9 : Int) ∈ ecs := by decide
  refine Go.Pin.wp_region_clb (fun Y => Below w12.heap.size w12 Y) (by kernel_rfl) (by kernel_rfl) ((Below.refl _ _).drew) ?_
  intro Sq fq hNq hRq hSq
  dsimp only [List.append_eq, List.cons_append, List.nil_append, List.map, Go.Pin.bare]
  have x0 := fun x => (H12.out.2.1.below (hRq x)).c0
  have x1 := fun x => (H12.out.2.1.below (hRq x)).c1
  have x2 := fun x => (H12.out.2.1.below (hRq x)).c2
  have x3 := fun x => (H12.out.2.1.below (hRq x)).c3
  have y0 := fun x => (H12.out.2.2.1.below (hRq x)).c0
  have y1 := fun x => (H12.out.2.2.1.below (hRq x)).c1
  have y2 := fun x => (H12.out.2.2.1.below (hRq x)).c2
  have y3 := fun x => (H12.out.2.2.1.below (hRq x)).c3
  have z0 := fun x => (H12.out.2.2.2.1.below (hRq x)).c0
  have z1 := fun x => (H12.out.2.2.2.1.below (hRq x)).c1
  have z2 := fun x => (H12.out.2.2.2.1.below (hRq x)).c2
  have z3 := fun x => (H12.out.2.2.2.1.below (hRq x)).c3
  have u1 := fun x => (HM.out _ (sub_le H12.out.2.2.2.2 (hRq x) H12.out.2.2.2.2.size)).1
  have u2 := fun x => (HM.out _ (sub_le H12.out.2.2.2.2 (hRq x) H12.out.2.2.2.2.size)).2
  have cn := fun x => HCN.out _ (hRq x)
  have ce := fun x => (((HE.out _ H12.out.1).1.below (hRq x)).1 9 hE9).1
  have ee := fun x => eq_err ((HE.out _ H12.out.1).1.below (hRq x)) hE9 hE9
  simp only [eblk] at ce
  simp only [decide_true] at ee
  have C1 := fun x => HS.out (fq x) (hRq x)
  have C2 := fun x => HZ.out (fq x) (hRq x)
  have C3 := fun x => HC.out (fq x) (hRq x)
  repeat (go_big_quiet_step (first
      | (with_reducible refine Calls.mono (C1 _) ?_; intro e w' h; exact ⟨h.1, hSq _ ((hRq _).trans (h.2.mono (hRq _).size))⟩)
      | (with_reducible refine Calls.mono (C2 _) ?_; intro e w' h; exact ⟨h.1, hSq _ ((hRq _).trans (h.2.mono (hRq _).size))⟩)
      | (with_reducible refine Calls.mono (C3 _) ?_; intro e w' h; exact ⟨h.1, hSq _ ((hRq _).trans (h.2.mono (hRq _).size))⟩)))
  refine wpQuiet_nil ?_
  intro _ hw'
  obtain ⟨xq, hw''⟩ := hw'
  subst hw''
  have HYq := hRq xq
  generalize fq xq = Y at HYq ⊢
  clear hRq hSq hNq xq fq Sq x0 x1 x2 x3 y0 y1 y2 y3 z0 z1 z2 z3 u1 u2 cn ce ee C1 C2 C3
  have HY : Hid (Below q W Y) := sub_le H12.out.1 HYq (HE.out _ H12.out.1).2
  clear HYq
  go_wp2
  go_ret
  exact ⟨rfl, HY.out⟩
end Go.Proofs.YtpfidohkohldaaaGreatDoor
namespace Go.Proofs.YtpfidohkohldaaaGreatDoor
set_option linter.unusedSimpArgs false
set_option linter.unusedVariables false
set_option maxRecDepth 100000
open Go.ChangeShapes Go.WideShapes Go.ChangeAt Go.RowKit Go.Pin Go.Pat Go.Deep
/-- how long the lists of what is answered may be -/
def Sz (p : Pt) : Prop := p.b0.length ≤ 1000 ∧ p.b1.length ≤ 1000 ∧ p.ln.length ≤ 1000 ∧ ∀ x ∈ p.ln, x.2.length ≤ 1000
theorem sz_zero : Sz zPt := ⟨Nat.zero_le _, Nat.zero_le _, Nat.zero_le _, fun x hx => by cases hx⟩
theorem sz_chk {p : Pt} (h : chk p = 0) : Sz p := by
  obtain ⟨a, b, c, d, e⟩ := shaped_all (chk_shaped h)
  exact ⟨by omega, by omega, by omega, fun x hx => by have := (e x hx).2.2.1; omega⟩
theorem sz_prs (t : ByteArray) : Sz (prs t).1 := by
  unfold prs
  repeat' split
  all_goals first | exact sz_zero | exact sz_chk (Classical.not_not.1 ‹_›)
theorem sz_mdf (p : Pt) (ws : List ByteArray) : Sz (mdf p ws).1 := by
  unfold mdf
  repeat' split
  all_goals first | exact sz_zero | (have h := sz_chk (Classical.not_not.1 ‹_›); exact h)
def szB (p : Pt) : Bool := decide (p.b0.length ≤ 1000) && decide (p.b1.length ≤ 1000) && decide (p.ln.length ≤ 1000) && p.ln.all fun x => decide (x.2.length ≤ 1000)
theorem tab_szB : tab.all szB = true := by kernel_rfl
theorem sz_tab {p : Pt} (h : p ∈ tab) : Sz p := by
  have := List.all_eq_true.1 tab_szB p h
  simp [szB] at this
  exact ⟨this.1.1.1, this.1.1.2, this.1.2, fun x hx => this.2 x.1 x.2 hx⟩
theorem sz_tb (k : ByteArray) : Sz ((tbI k).getD zPt) := by
  cases h : tbI k with
  | none => exact sz_zero
  | some q => exact sz_tab (List.mem_of_find?_eq_some h)
/-- what asked answers -/
def ask (t k : ByteArray) (p : Pt) (ws : List ByteArray) : List Pt := (prs t).1 :: (tbI k).getD zPt :: (mdf p ws).1 :: tab.take 9
theorem tab_ln : tab.length = 38 := by kernel_rfl
theorem ask_len (t k : ByteArray) (p : Pt) (ws : List ByteArray) : (ask t k p ws).length = 12 := by simp [ask, tab_ln]
theorem ask_sz {t k : ByteArray} {p : Pt} {ws : List ByteArray} {x : Pt} (h : x ∈ ask t k p ws) : Sz x := by
  unfold ask at h
  simp only [List.mem_cons] at h
  rcases h with rfl | rfl | rfl | h
  · exact sz_prs t
  · exact sz_tb k
  · exact sz_mdf p ws
  · exact sz_tab (List.mem_of_mem_take h)
theorem ask_take (t k : ByteArray) (p : Pt) (ws : List ByteArray) {j : Nat} (hj : j < 38) : (prs t).1 :: (tbI k).getD zPt :: (mdf p ws).1 :: tab.take (j + 1) = ((prs t).1 :: (tbI k).getD zPt :: (mdf p ws).1 :: tab.take j) ++ [tab.getD j zPt] := by
  rw [List.take_add_one, List.getElem?_eq_getElem (by rw [tab_ln]; exact hj)]
  simp [List.getD, List.getElem?_eq_getElem (show j < tab.length by rw [tab_ln]; exact hj)]
theorem lvl_len (fs : List Lv) : (lvl fs).length = fs.length := by simp [lvl]
theorem Sz.al {v0 v1 : Value} {p : Pt} {fs : List Lv} (h : Sz p) (hl : lvl fs = p.ln) : fs.length ≤ 1000 ∧ ∀ f ∈ als v0 v1 p fs, f.2.2.length ≤ 1000 := by
  obtain ⟨h0, h1, h2, h3⟩ := h
  refine ⟨by rw [← lvl_len, hl]; exact h2, fun f hf => ?_⟩
  simp only [als, List.mem_cons] at hf
  rcases hf with rfl | rfl | hf
  · exact h0
  · exact h1
  · exact h3 (f.1, f.2.2) (by rw [← hl]; exact List.mem_map.2 ⟨f, hf, rfl⟩)
/-- a pattern of one's own is read -/
theorem OwI.rd {lo hi : Nat} {v0 v1 vl : Value} {p : Pt} {fs : List Lv} {w : World} (h : OwI lo hi v0 v1 vl p fs w) (hb : ∀ f ∈ als v0 v1 p fs, f.2.2.length ≤ 100000) (hn : fs.length ≤ 100000) : RdP w (.agg #[.string p.nm, v0, v1, vl]) p := by
  obtain ⟨hq, _⟩ := h
  obtain ⟨_, _, ⟨a, c, rfl⟩, _⟩ := hq.sl
  have hos := hq.2.2.2
  have hoa := hq.2.1
  have hN : ∀ f ∈ als v0 v1 p fs, RdN w f.2.1 f.2.2 := fun f hf => (own_ft (hos.own f hf) rfl (Nat.le_trans (hb f hf) (by decide))).rd
  have hln : p.ln.length = fs.length := by rw [← hq.1, lvl_len]
  refine ⟨v0, v1, _, rfl, hN (0, v0, p.b0) (by simp [als]), hN (1, v1, p.b1) (by simp [als]), a, c, by rw [hln], ?_, by rw [hln]; exact Nat.le_trans hn (by decide), fun j hj => ?_⟩
  · rw [hln]
    rcases hoa.2 with ⟨h1, h2⟩ | ⟨g, o, cap, cur, h1, _, h3, _⟩
    · rw [h2]; exact Nat.zero_le _
    · injection h1 with e1 e2 e3
      subst e3
      exact h3
  · rw [hln] at hj
    obtain ⟨_, g, o, rfl, hc0, hc1⟩ := hq.line hj
    have hgd : p.ln.getD j (0, []) = ((fs.getD j (0, undef, [])).1, (fs.getD j (0, undef, [])).2.2) := by
      rw [← hq.1, lvl]
      simp [List.getD, List.getElem?_eq_getElem hj]
    have hm : fs.getD j (0, undef, []) ∈ fs := by
      rw [List.getD_eq_getElem?_getD, List.getElem?_eq_getElem hj]
      exact List.getElem_mem hj
    rw [hgd]
    exact ⟨g, o, _, rfl, hc0, hc1, hN _ (List.mem_cons_of_mem _ (List.mem_cons_of_mem _ hm))⟩
theorem AP.ok.rd {a : AP} {w : World} (h : a.ok w) (hs : Sz a.p) : RdP w (.agg #[.string a.p.nm, a.v0, a.v1, a.vl]) a.p := by
  have := hs.al (v0 := a.v0) (v1 := a.v1) h.1.1
  exact OwI.rd h (fun f hf => Nat.le_trans (this.2 f hf) (by decide)) (Nat.le_trans this.1 (by decide))
end Go.Proofs.YtpfidohkohldaaaGreatDoor
namespace Go.Proofs.YtpfidohkohldaaaGreatDoor
set_option linter.unusedSimpArgs false
set_option linter.unusedVariables false
set_option maxRecDepth 100000
open Go.ChangeShapes Go.WideShapes Go.ChangeAt Go.RowKit Go.Pin Go.Pat Go.Deep
theorem mdf_ne {p : Pt} {ws : List ByteArray} (h : (mdf p ws).2 = 0) : (mdf p ws).1.ln ≠ [] := by
  unfold mdf at h ⊢
  split at h
  · rename_i hc
    exact absurd h hc
  · rename_i hc
    rw [if_neg hc]
    split at h
    · cases h
    · rename_i q l hq
      split at h
      · rename_i hc2
        exact absurd h hc2
      · rename_i hc2
        rw [if_neg hc2]
        have := (shaped_all (chk_shaped (Classical.not_not.1 hc2))).2.2.1
        exact List.length_pos_iff.1 this
/-- what is answered, as a pattern of one's own; c: the error -/
def AnO (P : Pt) (x : Value) (W : World) (e : Ending) (w' : World) : Prop :=
  Below W.heap.size W w' ∧ ∃ v0 v1 vl fs, e = .returned (.tuple #[.agg #[.string P.nm, v0, v1, vl], x]) ∧ OwI W.heap.size w'.heap.size v0 v1 vl P fs w'
theorem owp_ano {P : Pt} {x v0 v1 vl : Value} {W w' : World} {e : Ending} (hb : Below W.heap.size W w') (he : e = .returned (.tuple #[.agg #[.string P.nm, v0, v1, vl], x])) (h : OwP W.heap.size v0 v1 vl P w') : AnO P x W e w' := by
  obtain ⟨fs, hq⟩ := owq_owp h
  exact ⟨hb, v0, v1, vl, fs, he, OwI.ofP hq hb.size⟩
theorem parse_ano {ea : Int → Addr} (t : ByteArray) (w : World) (hE : Errs ea w) (ht : t.size ≤ 140737488355328) : Calls Tryz.prog 12 #[.string t] w (AnO (prs t).1 (EV ea (prs t).2) w) :=
  (parse_own t w hE ht).mono fun e w' ⟨hb, v0, v1, vl, he, _, ho⟩ => owp_ano hb he ho
theorem find_ano {ea : Int → Addr} (k : ByteArray) (w : World) (hE : Errs ea w) : Calls Tryz.prog 13 #[.string k] w (AnO ((tbI k).getD zPt) (.bool (tbI k).isSome) w) :=
  (find_own k w hE).mono fun e w' ⟨hb, v0, v1, vl, he, _, ho⟩ => owp_ano hb he ho
theorem modify_ano {ea : Int → Addr} (v wv : Value) (p : Pt) (ws : List ByteArray) (W : World) (hE : Errs ea W) (hR : RdP W v p) (hw : RdS W wv ws) (hnm : p.nm.size ≤ 140737488355328) (hws : ws.length ≤ 200) (hwz : ∀ x ∈ ws, x.size ≤ 140737488355328) (hcap : ∀ a n c, wv = .slice a n c → n ≤ c) :
    Calls Tryz.prog 15 #[v, wv] W (AnO (mdf p ws).1 (EV ea (mdf p ws).2) W) :=
  (modify_ox v wv p ws W hE hR hw hnm hws hwz hcap).mono fun e w' ⟨hb, v0, v1, vl, he, _, h1, h2⟩ => by
    by_cases hc : (mdf p ws).2 = 0
    · obtain ⟨fs, hl, hx⟩ := h1 hc
      have hne : fs ≠ [] := fun e => mdf_ne hc (by rw [← hl, e]; rfl)
      exact ⟨hb, v0, v1, vl, fs, he, OwI.ofP (owq_ex hne hl hx) hb.size⟩
    · obtain ⟨hz, rfl, rfl, rfl⟩ := h2 hc
      refine owp_ano hb he ?_
      rw [hz]
      exact owp_zero _ _
/-- a pattern of one's own in a box -/
structure AB (g : Nat) (v0 v1 vl : Value) (P : Pt) (fs : List Lv) (lo hi : Nat) (w : World) : Prop where
  row : w.heap[g]? = some (.cells #[.string P.nm, v0, v1, vl] 26)
  ok : OwI lo hi v0 v1 vl P fs w
section
variable {g : Nat} {v0 v1 vl : Value} {P : Pt} {fs : List Lv} {lo hi : Nat} {w w' : World}
theorem AB.lt (h : AB g v0 v1 vl P fs lo hi w) : g < w.heap.size := (Array.getElem?_eq_some_iff.1 h.row).1
theorem AB.below (h : AB g v0 v1 vl P fs lo hi w) (hb : Below w.heap.size w w') : AB g v0 v1 vl P fs lo hi w' := ⟨(hb.block g h.lt).trans h.row, h.ok.below hb⟩
theorem ab_new (w : World) (h : OwI lo hi v0 v1 vl P fs w) : AB w.heap.size v0 v1 vl P fs lo hi (w.alloc (.cells #[.string P.nm, v0, v1, vl] 26)) :=
  ⟨heap_alloc_new _ _, h.below ((Below.refl _ _).alloc (Nat.le_refl _) _)⟩
theorem AB.c0 (h : AB g v0 v1 vl P fs lo hi w) : w.cell? ⟨g, 0, none⟩ = some (.string P.nm) := by rw [cell_of_row _ _ _ _ _ _ h.row]; rfl
theorem AB.c1 (h : AB g v0 v1 vl P fs lo hi w) : w.cell? ⟨g, 1, none⟩ = some v0 := by rw [cell_of_row _ _ _ _ _ _ h.row]; rfl
theorem AB.c2 (h : AB g v0 v1 vl P fs lo hi w) : w.cell? ⟨g, 2, none⟩ = some v1 := by rw [cell_of_row _ _ _ _ _ _ h.row]; rfl
theorem AB.c3 (h : AB g v0 v1 vl P fs lo hi w) : w.cell? ⟨g, 3, none⟩ = some vl := by rw [cell_of_row _ _ _ _ _ _ h.row]; rfl
end
end Go.Proofs.YtpfidohkohldaaaGreatDoor
