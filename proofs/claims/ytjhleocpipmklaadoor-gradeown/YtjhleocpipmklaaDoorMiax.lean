import Derived.Maps.OwnOps
import Derived.Test.YtjhleocpipmklaaDoorMiaw
namespace Go.Proofs.YtjhleocpipmklaaDoor
set_option linter.unusedSimpArgs false
set_option linter.unusedVariables false
set_option maxRecDepth 100000
open Go.ChangeShapes Go.WideShapes Go.ChangeAt Go.RowKit Go.Pin Go.Pat Go.Deep
def FnP (t : ByteArray) (W : World) (e : Ending) (w' : World) : Prop :=
  Below W.heap.size W w' ∧ ∃ v0 v1 vl, e = .returned (.tuple #[.agg #[.string ((tbI t).getD zPt).nm, v0, v1, vl], .bool (tbI t).isSome]) ∧ FtP (fun b => W.heap.size ≤ b ∧ b < w'.heap.size) w' v0 v1 vl ((tbI t).getD zPt)
/-- what Find answers, its lists one's own -/
def FnO (t : ByteArray) (W : World) (e : Ending) (w' : World) : Prop :=
  Below W.heap.size W w' ∧ ∃ v0 v1 vl, e = .returned (.tuple #[.agg #[.string ((tbI t).getD zPt).nm, v0, v1, vl], .bool (tbI t).isSome]) ∧ FtP (fun b => W.heap.size ≤ b ∧ b < w'.heap.size) w' v0 v1 vl ((tbI t).getD zPt) ∧ OwP W.heap.size v0 v1 vl ((tbI t).getD zPt) w'
/-- a box of a pattern -/
structure PO (n : Nat) (w : World) (wr : World) : Prop where
  old : Below n w wr
  sz : n < wr.heap.size
  hp : wr.heap[n]? = some (.cells zPR 26)
theorem PO.below {n : Nat} {w wr w' : World} (h : PO n w wr) (hb : Below wr.heap.size wr w') : PO n w w' :=
  ⟨h.old.trans (hb.mono (Nat.le_of_lt h.sz)), Nat.lt_of_lt_of_le h.sz hb.size, (hb.block n h.sz).trans h.hp⟩
theorem four_row {w : World} {n : Nat} {e0 e1 e2 e3 : Value} {t : TypeId} (h : w.heap[n]? = some (.cells #[e0, e1, e2, e3] t)) (a b c d : Value) :
    ((((w.setCell ⟨n, 0, none⟩ a).setCell ⟨n, 1, none⟩ b).setCell ⟨n, 2, none⟩ c).setCell ⟨n, 3, none⟩ d).heap[n]? = some (.cells #[a, b, c, d] t) := by
  have h1 := Go.heap_setCell_same w n 0 _ _ a h
  have h2 := Go.heap_setCell_same _ n 1 _ _ b h1
  have h3 := Go.heap_setCell_same _ n 2 _ _ c h2
  have h4 := Go.heap_setCell_same _ n 3 _ _ d h3
  exact h4
set_option maxHeartbeats 8000000 in
theorem find_own {ea : Int → Addr} (t : ByteArray) (w : World) (hE : Errs ea w) :
    Calls Tryd.prog 43 #[.string t] w (FnO t w) := by
  have h0 : PO w.heap.size w (w.alloc (.cells zPR 26)) := ⟨(Below.refl _ _).alloc (Nat.le_refl _) _, by rw [size_alloc]; omega, heap_alloc_new _ _⟩
  obtain ⟨n, hn⟩ : ∃ n, w.heap.size = n := ⟨_, rfl⟩
  rw [hn] at h0
  have HN : Hid (w.heap.size = n) := hn
  have HE : Hid (∀ y, Below n w y → Errs ea y) := fun y hy => hE.below (by rw [hn]; exact hy)
  obtain ⟨W, hW⟩ : ∃ W, w.alloc (.cells zPR 26) = W := ⟨_, rfl⟩
  rw [hW] at h0
  have H0 : Hid (PO n w W) := h0
  have CT := table_any W
  obtain ⟨g, hg⟩ : ∃ g, W.heap.size = g := ⟨_, rfl⟩
  rw [hg] at CT
  clear h0 hE
  have hl : ∀ (Y : World), OM g tbl Y → (Instr.lookup 122 (.map (some g)) (.string t) true).run Tryd.prog Y = .ok (.tuple #[.agg #[.string (((tbF t).map (·.2)).getD ⟨#[]⟩)], .bool (tbF t).isSome]) Y := fun Y h => run_look h t true
  cases hf : tbF t with
  | none =>
    have HF : Hid (tbI t = none) := tbF_none hf
    simp only [hf, Option.map_none, Option.getD_none, Option.isSome_none] at hl
    have HL : Hid _ := hl
    clear hl hf
    go_enter Tryd.func43, Tryd.ntmps43
    go_upto_region 2 with (first
      | (go_at_call 69; refine CT.mono ?_; rintro e w1 ⟨rfl, hom, hb⟩; have hrl := HL.out _ hom; have H1 : Hid (PO n w w1) := H0.out.below (by rw [hg]; exact hb); clear hom hb CT HL))
    have h2 : PO n w (w1.alloc (.cells #[.string ⟨#[]⟩] 120)) := H1.out.below ((Below.refl _ _).alloc (Nat.le_refl _) _)
    obtain ⟨w2, hw2⟩ : ∃ w2, w1.alloc (.cells #[.string ⟨#[]⟩] 120) = w2 := ⟨_, rfl⟩
    rw [hw2] at h2 ⊢
    have hrow := h2.hp
    have H2 : Hid (PO n w w2) := h2
    clear h2 hrl hw2
    go_wp2_with (with_reducible refine at_list ?_; refine hold_store 26 (.tmp 2) (.tmp 16) rfl ?_)
    refine wpList_store_row rfl 26 (.tmp 2) (.tmp 16) rfl n zPR rfl rfl 26 zPR hrow (ipR _ _ _ _) rfl (by simp [zPR, Value.oneCell']) ?_
    go_wp2
    refine bodyPost_ret (v := .tuple #[.agg zPR, .bool false]) ?_ rfl ⟨by rw [HN.out]; exact below_setRow H2.out.old _ (Nat.le_refl _) _, _, _, _, by rw [HF.out]; rfl, by rw [HF.out]; exact ⟨ftp_zero _ _, owp_zero _ _⟩⟩
    exact results_row_tmp (P := Tryd.prog) (fn := Tryd.f43) (p := 2) (u := 3) (ty := 26) rfl _ _ n 26 _ (0, 0) _ _ rfl (setRow_heap _ _ _ _ 26 _ hrow) Tryd.underlying26 rfl (ipR _ _ _ _) rfl
  | some e =>
    obtain ⟨hek, hem⟩ := tbF_some hf
    obtain ⟨hpr, his, hsz⟩ := tbl_at hem
    rw [hek] at hpr his
    obtain ⟨nm, tx⟩ := e
    simp only at hpr hsz
    simp only [hf, Option.map_some, Option.getD_some, Option.isSome_some] at hl
    have HL : Hid _ := hl
    have HPR : Hid (prs tx = ((tbI t).getD zPt, 0) ∧ (tbI t).isSome = true) := ⟨hpr, his⟩
    have HCP : Hid (∀ y, Below n w y → Calls Tryd.prog 70 #[.string tx] y (PsO ea tx y)) := fun y hy => parse_own tx y (HE.out y hy) (by omega)
    clear hl hf hek hem hpr his hsz
    go_enter Tryd.func43, Tryd.ntmps43
    go_upto_region 2 with (first
      | (go_at_call 69; refine CT.mono ?_; rintro e w1 ⟨rfl, hom, hb⟩; have hrl := HL.out _ hom; have H1 : Hid (PO n w w1) := H0.out.below (by rw [hg]; exact hb); clear hom hb CT HL))
    have h2 : PO n w (w1.alloc (.cells #[.string tx] 120)) := H1.out.below ((Below.refl _ _).alloc (Nat.le_refl _) _)
    have c2 : (w1.alloc (.cells #[.string tx] 120)).cell? ⟨w1.heap.size, 0, none⟩ = some (.string tx) := by rw [cell_of_row _ _ _ _ _ _ (heap_alloc_new _ _)]; rfl
    obtain ⟨w2, hw2⟩ : ∃ w2, w1.alloc (.cells #[.string tx] 120) = w2 := ⟨_, rfl⟩
    obtain ⟨g2, hg2⟩ : ∃ g2, w1.heap.size = g2 := ⟨_, rfl⟩
    rw [hw2] at h2 c2 ⊢
    simp only [hg2] at c2 ⊢
    have H2 : Hid (PO n w w2) := h2
    clear h2 hrl hw2 hg2
    go_upto_region 4 with (fail)
    go_upto_region 5 with (go_at_call 70; refine (HCP.out w2 H2.out.old).mono ?_; unfold PsO; rw [HPR.out.1]; rintro e w3 ⟨hb, v0, v1, vl, rfl, hft, how⟩; obtain ⟨p0, q0, s0, rfl⟩ := hft.1.sl3; obtain ⟨p1, q1, s1, rfl⟩ := hft.2.1.sl3; obtain ⟨p2, q2, s2, rfl⟩ := hft.2.2.sl3; simp only [EV_0]; have H3 : Hid (PO n w w3 ∧ FtP (fun b => w2.heap.size ≤ b ∧ b < w3.heap.size) w3 (.slice p0 q0 s0) (.slice p1 q1 s1) (.slice p2 q2 s2) ((tbI t).getD zPt)) := ⟨H2.out.below hb, hft⟩; have HO3 : Hid (OwP w2.heap.size (.slice p0 q0 s0) (.slice p1 q1 s1) (.slice p2 q2 s2) ((tbI t).getD zPt) w3) := how; clear hb hft how)
    have h4 : PO n w (w3.alloc (.cells #[.string ((tbI t).getD zPt).nm, .slice p0 q0 s0, .slice p1 q1 s1, .slice p2 q2 s2] 26)) := H3.out.1.below ((Below.refl _ _).alloc (Nat.le_refl _) _)
    have hf4 : FtP (fun b => n + 1 ≤ b ∧ b < w3.heap.size + 1) (w3.alloc (.cells #[.string ((tbI t).getD zPt).nm, .slice p0 q0 s0, .slice p1 q1 s1, .slice p2 q2 s2] 26)) (.slice p0 q0 s0) (.slice p1 q1 s1) (.slice p2 q2 s2) ((tbI t).getD zPt) := (H3.out.2.keep (fun b hb => Below.heap_alloc _ _ _ hb.2)).mono (fun b hb => ⟨by have := hb.1; have := H2.out.sz; omega, by have := hb.2; omega⟩)
    rw [← size_alloc w3 (.cells #[.string ((tbI t).getD zPt).nm, .slice p0 q0 s0, .slice p1 q1 s1, .slice p2 q2 s2] 26)] at hf4
    have ho4 : OwP (n + 1) (.slice p0 q0 s0) (.slice p1 q1 s1) (.slice p2 q2 s2) ((tbI t).getD zPt) (w3.alloc (.cells #[.string ((tbI t).getD zPt).nm, .slice p0 q0 s0, .slice p1 q1 s1, .slice p2 q2 s2] 26)) := (HO3.out.keep (fun b _ hb => Below.heap_alloc _ _ _ hb)).dn (by have := H2.out.sz; omega)
    have hr4 := heap_alloc_new w3 (.cells #[.string ((tbI t).getD zPt).nm, .slice p0 q0 s0, .slice p1 q1 s1, .slice p2 q2 s2] 26)
    obtain ⟨x, hx⟩ : ∃ x, ((tbI t).getD zPt).nm = x := ⟨_, rfl⟩
    obtain ⟨g4, hg4⟩ : ∃ g4, w3.heap.size = g4 := ⟨_, rfl⟩
    obtain ⟨w4, hw4⟩ : ∃ w4, w3.alloc (.cells #[.string ((tbI t).getD zPt).nm, .slice p0 q0 s0, .slice p1 q1 s1, .slice p2 q2 s2] 26) = w4 := ⟨_, rfl⟩
    rw [hw4] at h4 hf4 ho4 hr4 ⊢
    have HO4 : Hid (OwP (n + 1) (.slice p0 q0 s0) (.slice p1 q1 s1) (.slice p2 q2 s2) ((tbI t).getD zPt) w4) := ho4
    clear ho4 HO3
    simp only [hg4] at hr4 ⊢
    rw [hx] at hr4
    simp only [hx]
    have H4 : Hid (PO n w w4) := h4
    have HF4 : Hid _ := hf4
    have hne : ¬ n = g4 := by have := H3.out.1.sz; omega
    have hne' : ¬ g4 = n := fun h => hne h.symm
    have k0 := cell_of_row w4 g4 0 _ _ _ hr4
    have k1 := cell_of_row w4 g4 1 _ _ _ hr4
    have k2 := cell_of_row w4 g4 2 _ _ _ hr4
    have k3 := cell_of_row w4 g4 3 _ _ _ hr4
    have n0 := cell_of_row w4 n 0 _ _ _ h4.hp
    have n1 := cell_of_row w4 n 1 _ _ _ h4.hp
    have n2 := cell_of_row w4 n 2 _ _ _ h4.hp
    have n3 := cell_of_row w4 n 3 _ _ _ h4.hp
    have f0 := frozen_of_row w4 n 0 _ _ h4.hp
    have f1 := frozen_of_row w4 n 1 _ _ h4.hp
    have f2 := frozen_of_row w4 n 2 _ _ h4.hp
    have f3 := frozen_of_row w4 n 3 _ _ h4.hp
    simp at k0 k1 k2 k3 n0 n1 n2 n3
    have HX : Hid (((tbI t).getD zPt).nm = x) := hx
    clear hw4 hg4 h4 hf4 hr4 c2 H3 hx hn hW hg
    go_region
    all_goals go_wp2
    obtain ⟨w9, hw9⟩ : ∃ w9, w9 = ((((w4.setCell ⟨n, 0, none⟩ (.string x)).setCell ⟨n, 1, none⟩ (.slice p0 q0 s0)).setCell ⟨n, 2, none⟩ (.slice p1 q1 s1)).setCell ⟨n, 3, none⟩ (.slice p2 q2 s2)).drew := ⟨_, rfl⟩
    have hh : w9.heap = ((((w4.setCell ⟨n, 0, none⟩ (.string x)).setCell ⟨n, 1, none⟩ (.slice p0 q0 s0)).setCell ⟨n, 2, none⟩ (.slice p1 q1 s1)).setCell ⟨n, 3, none⟩ (.slice p2 q2 s2)).heap := by rw [hw9]; rfl
    have hrow9 : w9.heap[n]? = some (.cells #[.string x, .slice p0 q0 s0, .slice p1 q1 s1, .slice p2 q2 s2] 26) := by
      rw [hh]
      exact four_row H4.out.hp _ _ _ _
    have hb9 : Below n w w9 := by
      rw [hw9]
      exact ((((H4.out.old.setCell (Nat.le_refl _) _).setCell (Nat.le_refl _) _).setCell (Nat.le_refl _) _).setCell (Nat.le_refl _) _).drew
    have hs9 : w9.heap.size = w4.heap.size := by rw [hh]; simp only [World.size_setCell]
    have hf9 : FtP (fun b => n ≤ b ∧ b < w9.heap.size) w9 (.slice p0 q0 s0) (.slice p1 q1 s1) (.slice p2 q2 s2) ((tbI t).getD zPt) := by
      refine (FtP.keep HF4.out (fun b hb => ?_)).mono (fun b hb => ⟨by have := hb.1; omega, by rw [hs9]; exact hb.2⟩)
      have h1 := hb.1
      rw [hh]
      rw [heap_setCell_other _ _ _ _ (by show b ≠ n; omega), heap_setCell_other _ _ _ _ (by show b ≠ n; omega), heap_setCell_other _ _ _ _ (by show b ≠ n; omega), heap_setCell_other _ _ _ _ (by show b ≠ n; omega)]
    have ho9 : OwP n (.slice p0 q0 s0) (.slice p1 q1 s1) (.slice p2 q2 s2) ((tbI t).getD zPt) w9 := by
      refine (HO4.out.keep (fun b hb _ => ?_)).dn (by omega)
      rw [hh]
      rw [heap_setCell_other _ _ _ _ (by show b ≠ n; omega), heap_setCell_other _ _ _ _ (by show b ≠ n; omega), heap_setCell_other _ _ _ _ (by show b ≠ n; omega), heap_setCell_other _ _ _ _ (by show b ≠ n; omega)]
    rw [← hw9]
    refine bodyPost_ret (v := .tuple #[.agg #[.string x, .slice p0 q0 s0, .slice p1 q1 s1, .slice p2 q2 s2], .bool true]) ?_ rfl ⟨by rw [HN.out]; exact hb9, _, _, _, by rw [HX.out, HPR.out.2], by rw [HN.out]; exact ⟨hf9, ho9⟩⟩
    exact results_row_tmp (P := Tryd.prog) (fn := Tryd.f43) (p := 2) (u := 3) (ty := 26) rfl _ _ n 26 _ (0, 0) _ _ rfl hrow9 Tryd.underlying26 rfl (ipR _ _ _ _) rfl
theorem find_any' {ea : Int → Addr} (t : ByteArray) (w : World) (hE : Errs ea w) :
    Calls Tryd.prog 43 #[.string t] w (FnP t w) :=
  (find_own t w hE).mono fun e w' ⟨hb, v0, v1, vl, he, hf, _⟩ => ⟨hb, v0, v1, vl, he, hf⟩
end Go.Proofs.YtjhleocpipmklaaDoor
