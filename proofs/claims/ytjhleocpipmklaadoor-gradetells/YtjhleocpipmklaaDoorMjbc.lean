import Derived.Maps.OwnOps
import Derived.Laws.StructEq
import Derived.Test.YtjhleocpipmklaaDoorMjbb
import Derived.Test.YtjhleocpipmklaaDoorMjak
import Derived.Test.YtjhleocpipmklaaDoorMjam
namespace Go.Proofs.YtjhleocpipmklaaDoor
set_option linter.unusedSimpArgs false
set_option linter.unusedVariables false
set_option maxRecDepth 100000
open Go.ChangeShapes Go.WideShapes Go.ChangeAt Go.RowKit Go.Pin Go.Pat Go.Deep
def FnP (t : ByteArray) (W : World) (e : Ending) (w' : World) : Prop :=
  Below W.heap.size W w' ∧ ∃ v0 v1 vl, e = .returned (.tuple #[.agg #[.string ((tbI t).getD zPt).nm, v0, v1, vl], .bool (tbI t).isSome]) ∧ FtP (fun b => W.heap.size ≤ b ∧ b < w'.heap.size) w' v0 v1 vl ((tbI t).getD zPt)
/-- what Find answers, its lists one's own -/
def FnO (t : ByteArray) (W : World) (e : Ending) (w' : World) : Prop :=
  Below W.heap.size W w' ∧ ∃ v0 v1 vl, e = .returned (.tuple #[.agg #[.string ((tbI t).getD zPt).nm, v0, v1, vl], .bool (tbI t).isSome]) ∧ FtP (fun b => W.heap.size ≤ b ∧ b < w'.heap.size) w' v0 v1 vl ((tbI t).getD zPt) ∧ OwP W.heap.size v0 v1 vl ((tbI t).getD zPt) w'
/-- a box of a pattern -/
structure PO (n : Nat) (w : World) (wr : World) : Prop where
  old : Below n w wr
  sz : n < wr.heap.size
  hp : wr.heap[n]? = some (.cells zPR 26)
theorem PO.below {n : Nat} {w wr w' : World} (h : PO n w wr) (hb : Below wr.heap.size wr w') : PO n w w' :=
  ⟨h.old.trans (hb.mono (Nat.le_of_lt h.sz)), Nat.lt_of_lt_of_le h.sz hb.size, (hb.block n h.sz).trans h.hp⟩
theorem four_row {w : World} {n : Nat} {e0 e1 e2 e3 : Value} {t : TypeId} (h : w.heap[n]? = some (.cells #[e0, e1, e2, e3] t)) (a b c d : Value) :
    ((((w.setCell ⟨n, 0, none⟩ a).setCell ⟨n, 1, none⟩ b).setCell ⟨n, 2, none⟩ c).setCell ⟨n, 3, none⟩ d).heap[n]? = some (.cells #[a, b, c, d] t) := by
  have h1 := Go.heap_setCell_same w n 0 _ _ a h
  have h2 := Go.heap_setCell_same _ n 1 _ _ b h1
  have h3 := Go.heap_setCell_same _ n 2 _ _ c h2
  have h4 := Go.heap_setCell_same _ n 3 _ _ d h3
  exact h4
set_option maxHeartbeats 8000000 in
theorem find_own {ea : Int → Addr} (t : ByteArray) (w : World) (hE : Errs ea w) :
    Calls Tryd.prog 43 #[.string t] w (FnO t w) := by
  have h0 : PO w.heap.size w (w.alloc (.cells zPR 26)) := ⟨(Below.refl _ _).alloc (Nat.le_refl _) _, by rw [size_alloc]; omega, heap_alloc_new _ _⟩
  obtain ⟨n, hn⟩ : ∃ n, w.heap.size = n := ⟨_, rfl⟩
  rw [hn] at h0
  have HN : Hid (w.heap.size = n) := hn
  have HE : Hid (∀ y, Below n w y → Errs ea y) := fun y hy => hE.below (by rw [hn]; exact hy)
  obtain ⟨W, hW⟩ : ∃ W, w.alloc (.cells zPR 26) = W := ⟨_, rfl⟩
  rw [hW] at h0
  have H0 : Hid (PO n w W) := h0
  have CT := table_any W
  obtain ⟨g, hg⟩ : ∃ g, W.heap.size = g := ⟨_, rfl⟩
  rw [hg] at CT
  clear h0 hE
  have hl : ∀ (Y : World), OM g tbl Y → (Instr.lookup 122 (.map (some g)) (.string t) true).run Tryd.prog Y = .ok (.tuple #[.agg #[.string (((tbF t).map (·.2)).getD ⟨#[]⟩)], .bool (tbF t).isSome]) Y := fun Y h => run_look h t true
  cases hf : tbF t with
  | none =>
    have HF : Hid (tbI t = none) := tbF_none hf
    simp only [hf, Option.map_none, Option.getD_none, Option.isSome_none] at hl
    have HL : Hid _ := hl
    clear hl hf
    go_enter Tryd.func43, Tryd.ntmps43
    go_upto_region 2 with (first
      | (go_at_call 69; refine CT.mono ?_; rintro e w1 ⟨rfl, hom, hb⟩; have hrl := HL.out _ hom; have H1 : Hid (PO n w w1) := H0.out.below (by rw [hg]; exact hb); clear hom hb CT HL))
    have h2 : PO n w (w1.alloc (.cells #[.string ⟨#[]⟩] 120)) := H1.out.below ((Below.refl _ _).alloc (Nat.le_refl _) _)
    obtain ⟨w2, hw2⟩ : ∃ w2, w1.alloc (.cells #[.string ⟨#[]⟩] 120) = w2 := ⟨_, rfl⟩
    rw [hw2] at h2 ⊢
    have hrow := h2.hp
    have H2 : Hid (PO n w w2) := h2
    clear h2 hrl hw2
    go_wp2_with (with_reducible refine at_list ?_; refine hold_store 26 (.tmp 2) (.tmp 16) rfl ?_)
    refine wpList_store_row rfl 26 (.tmp 2) (.tmp 16) rfl n zPR rfl rfl 26 zPR hrow (ipR _ _ _ _) rfl (by simp [zPR, Value.oneCell']) ?_
    go_wp2
    refine bodyPost_ret (v := .tuple #[.agg zPR, .bool false]) ?_ rfl ⟨by rw [HN.out]; exact below_setRow H2.out.old _ (Nat.le_refl _) _, _, _, _, by rw [HF.out]; rfl, by rw [HF.out]; exact ⟨ftp_zero _ _, owp_zero _ _⟩⟩
    exact results_row_tmp (P := Tryd.prog) (fn := Tryd.f43) (p := 2) (u := 3) (ty := 26) rfl _ _ n 26 _ (0, 0) _ _ rfl (setRow_heap _ _ _ _ 26 _ hrow) Tryd.underlying26 rfl (ipR _ _ _ _) rfl
  | some e =>
    obtain ⟨hek, hem⟩ := tbF_some hf
    obtain ⟨hpr, his, hsz⟩ := tbl_at hem
    rw [hek] at hpr his
    obtain ⟨nm, tx⟩ := e
    simp only at hpr hsz
    simp only [hf, Option.map_some, Option.getD_some, Option.isSome_some] at hl
    have HL : Hid _ := hl
    have HPR : Hid (prs tx = ((tbI t).getD zPt, 0) ∧ (tbI t).isSome = true) := ⟨hpr, his⟩
    have HCP : Hid (∀ y, Below n w y → Calls Tryd.prog 70 #[.string tx] y (PsO ea tx y)) := fun y hy => parse_own tx y (HE.out y hy) (by omega)
    clear hl hf hek hem hpr his hsz
    go_enter Tryd.func43, Tryd.ntmps43
    go_upto_region 2 with (first
      | (go_at_call 69; refine CT.mono ?_; rintro e w1 ⟨rfl, hom, hb⟩; have hrl := HL.out _ hom; have H1 : Hid (PO n w w1) := H0.out.below (by rw [hg]; exact hb); clear hom hb CT HL))
    have h2 : PO n w (w1.alloc (.cells #[.string tx] 120)) := H1.out.below ((Below.refl _ _).alloc (Nat.le_refl _) _)
    have c2 : (w1.alloc (.cells #[.string tx] 120)).cell? ⟨w1.heap.size, 0, none⟩ = some (.string tx) := by rw [cell_of_row _ _ _ _ _ _ (heap_alloc_new _ _)]; rfl
    obtain ⟨w2, hw2⟩ : ∃ w2, w1.alloc (.cells #[.string tx] 120) = w2 := ⟨_, rfl⟩
    obtain ⟨g2, hg2⟩ : ∃ g2, w1.heap.size = g2 := ⟨_, rfl⟩
    rw [hw2] at h2 c2 ⊢
    simp only [hg2] at c2 ⊢
    have H2 : Hid (PO n w w2) := h2
    clear h2 hrl hw2 hg2
    go_upto_region 4 with (fail)
    go_upto_region 5 with (go_at_call 70; refine (HCP.out w2 H2.out.old).mono ?_; unfold PsO; rw [HPR.out.1]; rintro e w3 ⟨hb, v0, v1, vl, rfl, hft, how⟩; obtain ⟨p0, q0, s0, rfl⟩ := hft.1.sl3; obtain ⟨p1, q1, s1, rfl⟩ := hft.2.1.sl3; obtain ⟨p2, q2, s2, rfl⟩ := hft.2.2.sl3; simp only [EV_0]; have H3 : Hid (PO n w w3 ∧ FtP (fun b => w2.heap.size ≤ b ∧ b < w3.heap.size) w3 (.slice p0 q0 s0) (.slice p1 q1 s1) (.slice p2 q2 s2) ((tbI t).getD zPt)) := ⟨H2.out.below hb, hft⟩; have HO3 : Hid (OwP w2.heap.size (.slice p0 q0 s0) (.slice p1 q1 s1) (.slice p2 q2 s2) ((tbI t).getD zPt) w3) := how; clear hb hft how)
    have h4 : PO n w (w3.alloc (.cells #[.string ((tbI t).getD zPt).nm, .slice p0 q0 s0, .slice p1 q1 s1, .slice p2 q2 s2] 26)) := H3.out.1.below ((Below.refl _ _).alloc (Nat.le_refl _) _)
    have hf4 : FtP (fun b => n + 1 ≤ b ∧ b < w3.heap.size + 1) (w3.alloc (.cells #[.string ((tbI t).getD zPt).nm, .slice p0 q0 s0, .slice p1 q1 s1, .slice p2 q2 s2] 26)) (.slice p0 q0 s0) (.slice p1 q1 s1) (.slice p2 q2 s2) ((tbI t).getD zPt) := (H3.out.2.keep (fun b hb => Below.heap_alloc _ _ _ hb.2)).mono (fun b hb => ⟨by have := hb.1; have := H2.out.sz; omega, by have := hb.2; omega⟩)
    rw [← size_alloc w3 (.cells #[.string ((tbI t).getD zPt).nm, .slice p0 q0 s0, .slice p1 q1 s1, .slice p2 q2 s2] 26)] at hf4
    have ho4 : OwP (n + 1) (.slice p0 q0 s0) (.slice p1 q1 s1) (.slice p2 q2 s2) ((tbI t).getD zPt) (w3.alloc (.cells #[.string ((tbI t).getD zPt).nm, .slice p0 q0 s0, .slice p1 q1 s1, .slice p2 q2 s2] 26)) := (HO3.out.keep (fun b _ hb => Below.heap_alloc _ _ _ hb)).dn (by have := H2.out.sz; omega)
    have hr4 := heap_alloc_new w3 (.cells #[.string ((tbI t).getD zPt).nm, .slice p0 q0 s0, .slice p1 q1 s1, .slice p2 q2 s2] 26)
    obtain ⟨x, hx⟩ : ∃ x, ((tbI t).getD zPt).nm = x := ⟨_, rfl⟩
    obtain ⟨g4, hg4⟩ : ∃ g4, w3.heap.size = g4 := ⟨_, rfl⟩
    obtain ⟨w4, hw4⟩ : ∃ w4, w3.alloc (.cells #[.string ((tbI t).getD zPt).nm, .slice p0 q0 s0, .slice p1 q1 s1, .slice p2 q2 s2] 26) = w4 := ⟨_, rfl⟩
    rw [hw4] at h4 hf4 ho4 hr4 ⊢
    have HO4 : Hid (OwP (n + 1) (.slice p0 q0 s0) (.slice p1 q1 s1) (.slice p2 q2 s2) ((tbI t).getD zPt) w4) := ho4
    clear ho4 HO3
    simp only [hg4] at hr4 ⊢
    rw [hx] at hr4
    simp only [hx]
    have H4 : Hid (PO n w w4) := h4
    have HF4 : Hid _ := hf4
    have hne : ¬ n = g4 := by have := H3.out.1.sz; omega
    have hne' : ¬ g4 = n := fun h => hne h.symm
    have k0 := cell_of_row w4 g4 0 _ _ _ hr4
    have k1 := cell_of_row w4 g4 1 _ _ _ hr4
    have k2 := cell_of_row w4 g4 2 _ _ _ hr4
    have k3 := cell_of_row w4 g4 3 _ _ _ hr4
    have n0 := cell_of_row w4 n 0 _ _ _ h4.hp
    have n1 := cell_of_row w4 n 1 _ _ _ h4.hp
    have n2 := cell_of_row w4 n 2 _ _ _ h4.hp
    have n3 := cell_of_row w4 n 3 _ _ _ h4.hp
    have f0 := frozen_of_row w4 n 0 _ _ h4.hp
    have f1 := frozen_of_row w4 n 1 _ _ h4.hp
    have f2 := frozen_of_row w4 n 2 _ _ h4.hp
    have f3 := frozen_of_row w4 n 3 _ _ h4.hp
    simp at k0 k1 k2 k3 n0 n1 n2 n3
    have HX : Hid (((tbI t).getD zPt).nm = x) := hx
    clear hw4 hg4 h4 hf4 hr4 c2 H3 hx hn hW hg
    go_region
    all_goals go_wp2
    obtain ⟨w9, hw9⟩ : ∃ w9, w9 = ((((w4.setCell ⟨n, 0, none⟩ (.string x)).setCell ⟨n, 1, none⟩ (.slice p0 q0 s0)).setCell ⟨n, 2, none⟩ (.slice p1 q1 s1)).setCell ⟨n, 3, none⟩ (.slice p2 q2 s2)).drew := ⟨_, rfl⟩
    have hh : w9.heap = ((((w4.setCell ⟨n, 0, none⟩ (.string x)).setCell ⟨n, 1, none⟩ (.slice p0 q0 s0)).setCell ⟨n, 2, none⟩ (.slice p1 q1 s1)).setCell ⟨n, 3, none⟩ (.slice p2 q2 s2)).heap := by rw [hw9]; rfl
    have hrow9 : w9.heap[n]? = some (.cells #[.string x, .slice p0 q0 s0, .slice p1 q1 s1, .slice p2 q2 s2] 26) := by
      rw [hh]
      exact four_row H4.out.hp _ _ _ _
    have hb9 : Below n w w9 := by
      rw [hw9]
      exact ((((H4.out.old.setCell (Nat.le_refl _) _).setCell (Nat.le_refl _) _).setCell (Nat.le_refl _) _).setCell (Nat.le_refl _) _).drew
    have hs9 : w9.heap.size = w4.heap.size := by rw [hh]; simp only [World.size_setCell]
    have hf9 : FtP (fun b => n ≤ b ∧ b < w9.heap.size) w9 (.slice p0 q0 s0) (.slice p1 q1 s1) (.slice p2 q2 s2) ((tbI t).getD zPt) := by
      refine (FtP.keep HF4.out (fun b hb => ?_)).mono (fun b hb => ⟨by have := hb.1; omega, by rw [hs9]; exact hb.2⟩)
      have h1 := hb.1
      rw [hh]
      rw [heap_setCell_other _ _ _ _ (by show b ≠ n; omega), heap_setCell_other _ _ _ _ (by show b ≠ n; omega), heap_setCell_other _ _ _ _ (by show b ≠ n; omega), heap_setCell_other _ _ _ _ (by show b ≠ n; omega)]
    have ho9 : OwP n (.slice p0 q0 s0) (.slice p1 q1 s1) (.slice p2 q2 s2) ((tbI t).getD zPt) w9 := by
      refine (HO4.out.keep (fun b hb _ => ?_)).dn (by omega)
      rw [hh]
      rw [heap_setCell_other _ _ _ _ (by show b ≠ n; omega), heap_setCell_other _ _ _ _ (by show b ≠ n; omega), heap_setCell_other _ _ _ _ (by show b ≠ n; omega), heap_setCell_other _ _ _ _ (by show b ≠ n; omega)]
    rw [← hw9]
    refine bodyPost_ret (v := .tuple #[.agg #[.string x, .slice p0 q0 s0, .slice p1 q1 s1, .slice p2 q2 s2], .bool true]) ?_ rfl ⟨by rw [HN.out]; exact hb9, _, _, _, by rw [HX.out, HPR.out.2], by rw [HN.out]; exact ⟨hf9, ho9⟩⟩
    exact results_row_tmp (P := Tryd.prog) (fn := Tryd.f43) (p := 2) (u := 3) (ty := 26) rfl _ _ n 26 _ (0, 0) _ _ rfl hrow9 Tryd.underlying26 rfl (ipR _ _ _ _) rfl
theorem find_any' {ea : Int → Addr} (t : ByteArray) (w : World) (hE : Errs ea w) :
    Calls Tryd.prog 43 #[.string t] w (FnP t w) :=
  (find_own t w hE).mono fun e w' ⟨hb, v0, v1, vl, he, hf, _⟩ => ⟨hb, v0, v1, vl, he, hf⟩
end Go.Proofs.YtjhleocpipmklaaDoor
namespace Go.Proofs.YtjhleocpipmklaaDoor
set_option linter.unusedSimpArgs false
set_option linter.unusedVariables false
open Go.ChangeShapes Go.WideShapes Go.ChangeAt Go.RowKit Go.Pin Go.Pat Go.Deep
/-- grades that are read -/
def RdG (w : World) (v : Value) (l : List Gd) : Prop :=
  ∃ a cap, v = .slice a l.length cap ∧ l.length ≤ cap ∧ l.length ≤ 140737488355328 ∧ (l = [] ∨ ∃ b o, a = some ⟨b, o, none⟩ ∧ w.rangeAt b o (gcs l))
theorem RdG.at {w : World} {a : Option Addr} {n cap : Nat} {l : List Gd} (h : RdG w (.slice a n cap) l) : n = l.length ∧ n ≤ cap ∧ n ≤ 140737488355328 ∧ ∀ j, j < n → ∃ b o, a = some ⟨b, o, none⟩ ∧ ∀ W, Below w.heap.size w W → W.cell? ⟨b, o + j * 3, none⟩ = some (.int .i64 (l.getD j (0, 0, 0)).1) ∧ W.cell? ⟨b, o + j * 3 + 1, none⟩ = some (.int .i64 (l.getD j (0, 0, 0)).2.1) ∧ W.cell? ⟨b, o + j * 3 + 2, none⟩ = some (.int .i64 (l.getD j (0, 0, 0)).2.2) := by
  obtain ⟨a', c', e, h1, h2, h3⟩ := h
  injection e with e1 e2 e3
  subst e1 e2 e3
  refine ⟨rfl, h1, h2, fun j hj => ?_⟩
  rcases h3 with h3 | ⟨b, o, h3, h4⟩
  · subst h3; simp at hj
  · refine ⟨b, o, h3, fun W hW => ?_⟩
    have g := gcs_at l j hj
    have hc : ∀ i v, (gcs l)[i]? = some v → W.cell? ⟨b, o + i, none⟩ = some v := fun i v hv => by
      rw [World.cell?_of_block (a := ⟨b, o + i, none⟩) (hW.block b (World.block_lt_of_cell? w _ (h4 i _ hv)))]
      exact h4 i _ hv
    exact ⟨hc _ _ g.1, hc _ _ g.2.1, hc _ _ g.2.2⟩
theorem RdG.below {w W : World} {v : Value} {l : List Gd} (h : RdG w v l) (hb : Below w.heap.size w W) : RdG W v l := by
  obtain ⟨a, c, e, h1, h2, h3⟩ := h
  refine ⟨a, c, e, h1, h2, ?_⟩
  rcases h3 with h3 | ⟨b, o, h3, h4⟩
  · exact .inl h3
  · exact .inr ⟨b, o, h3, fun j v hv => by rw [World.cell?_of_block (a := ⟨b, o + j, none⟩) (hb.block b (World.block_lt_of_cell? w _ (h4 j v hv)))]; exact h4 j v hv⟩
theorem own_rd {W : World} {b : Nat} {u : Value} {n : Nat} {l : List Gd} (h : W.ownsRow b 48 3 u n (gcs l)) (hn : l.length ≤ 140737488355328) : RdG W u l := by
  have hl : n = l.length := by have := h.1; rw [gcs_length] at this; omega
  subst hl
  rcases h.2 with ⟨rfl, e⟩ | ⟨g, cap', cur, e, hb, hg, h1, h2, h3, h4⟩
  · exact ⟨none, 0, by rw [e], by omega, hn, .inl (List.length_eq_zero_iff.1 e)⟩
  · refine ⟨_, cap', e, by omega, hn, .inr ⟨g, 0, rfl, fun i v hv => ?_⟩⟩
    have hi : i < l.length * 3 := by
      have := (List.getElem?_eq_some_iff.1 hv).1
      rw [gcs_length] at this
      omega
    rw [cell_of_row _ _ _ _ _ _ hg, ← hv, ← h4, List.getElem?_take_of_lt hi]
    simp
theorem gcs_take (l : List Gd) (k : Nat) : gcs (l.take k) = (gcs l).take (k * 3) := by
  induction l generalizing k with
  | nil => simp [gcs]
  | cons g r ih =>
    cases k with
    | zero => simp [gcs]
    | succ k =>
      have e : ∀ (g : Gd) r, gcs (g :: r) = .int .i64 g.1 :: .int .i64 g.2.1 :: .int .i64 g.2.2 :: gcs r := fun g r => by simp [gcs]
      rw [List.take_succ_cons, e, e, ih, show (k + 1) * 3 = k * 3 + 1 + 1 + 1 by omega]
      simp
/-- its first k -/
theorem RdG.take {w : World} {a : Option Addr} {n cap : Nat} {l : List Gd} (h : RdG w (.slice a n cap) l) {k : Nat} (hk : k ≤ n) : RdG w (.slice a k cap) (l.take k) := by
  obtain ⟨a', c', e, h1, h2, h3⟩ := h
  injection e with e1 e2 e3
  subst e1 e2 e3
  have hl : (l.take k).length = k := by rw [List.length_take]; omega
  refine ⟨a, cap, by rw [hl], by omega, by omega, ?_⟩
  rcases h3 with h3 | ⟨b, o, h3, h4⟩
  · exact .inl (by rw [h3]; simp)
  · refine .inr ⟨b, o, h3, fun j v hv => h4 j v ?_⟩
    rw [gcs_take] at hv
    rw [List.getElem?_take] at hv
    split at hv
    · exact hv
    · simp at hv
theorem gd_ext {l m : List Gd} (hn : l.length = m.length) (h : ∀ j, j < l.length → l.getD j (0, 0, 0) = m.getD j (0, 0, 0)) : l = m :=
  List.ext_getElem hn fun j h1 h2 => by simpa [List.getD, h1, h2] using h j h1
theorem fieldsG : Tryd.prog.underlying 48 = some (.struct (Tryd.prog.fieldsOf 48)) ∧ Tryd.prog.stoodInHeld 48 = false ∧ Tryd.prog.eqGuardType Tryd.prog.depth 48 = false := ⟨by kernel_rfl, by kernel_rfl, by kernel_rfl⟩
theorem eqG (x1 x2 x3 y1 y2 y3 : Int) (w : World) : (Op.equalIn 10000 48 (.agg #[.int .i64 x1, .int .i64 x2, .int .i64 x3]) (.agg #[.int .i64 y1, .int .i64 y2, .int .i64 y3])).run Tryd.prog w = .ok (x1 == y1 && (x2 == y2 && x3 == y3)) w := by
  rw [run_equalIn_struct (P := Tryd.prog) w 9999 48 _ _ fieldsG.1 fieldsG.2.1]
  unfold Program.fieldsOf
  rw [Tryd.underlying48]
  simp [go_sem]
  by_cases h1 : x1 = y1 <;> by_cases h2 : x2 = y2 <;> by_cases h3 : x3 = y3 <;> simp [h1, h2, h3]
theorem grade_eq {x1 x2 x3 y1 y2 y3 : Int} : (x1 == y1 && (x2 == y2 && x3 == y3)) = decide (((x1, x2, x3) : Gd) = (y1, y2, y3)) := by
  by_cases h1 : x1 = y1 <;> by_cases h2 : x2 = y2 <;> by_cases h3 : x3 = y3 <;> simp [h1, h2, h3]
set_option maxRecDepth 100000 in
set_option maxHeartbeats 2000000 in
theorem grades_any {W : World} {u v : Value} {l m : List Gd} (hu : RdG W u l) (hv : RdG W v m) :
    Calls Tryd.prog 14 #[u, v] W fun e w' => e = .returned (.bool (decide (l = m))) ∧ Below W.heap.size W w' := by
  obtain ⟨a, ca, rfl, -, -, -⟩ := id hu
  obtain ⟨b, cb, rfl, -, -, -⟩ := id hv
  obtain ⟨-, hac, hal, hua⟩ := hu.at
  obtain ⟨-, hbc, hbl, hvb⟩ := hv.at
  obtain ⟨q, hq⟩ : ∃ q, W.heap.size = q := ⟨_, rfl⟩
  by_cases hn : l.length = m.length
  · obtain ⟨n, hnl⟩ : ∃ n, l.length = n := ⟨_, rfl⟩
    rw [← hn, hnl] at hvb
    rw [hnl] at hua hal
    rw [← hn, hnl]
    have HN : Hid (l.length = n ∧ m.length = n ∧ n ≤ 140737488355328) := ⟨hnl, by rw [← hn]; exact hnl, hal⟩
    have HA : Hid _ := hua
    have HB : Hid _ := hvb
    rw [hq]
    clear hu hv hua hvb hac hbc hbl hal hn hnl
    go_enter Tryd.func14, Tryd.ntmps14
    go_wp2
    go_loopw [5] (fun v5 wr => ∃ i : Nat, i ≤ n ∧ v5 = .int .i64 i ∧ (∀ j, j < i → l.getD j (0, 0, 0) = m.getD j (0, 0, 0)) ∧ Below q W wr) (fun v _ => n - (intOf v).toNat)
    case atStart => exact ⟨0, Nat.zero_le _, rfl, fun j hj => absurd hj (Nat.not_lt_zero _), Below.refl _ _⟩
    case round =>
      obtain ⟨i, hi, rfl, he, hp⟩ := hrel
      by_cases hlt : i < n
      · have b1 : (i : Int) < (n : Int) := by omega
        obtain ⟨g, o, rfl, h1⟩ := HA.out i hlt
        obtain ⟨g', o', rfl, h2⟩ := HB.out i hlt
        have c := h1 wr (by rw [hq]; exact hp)
        have d := h2 wr (by rw [hq]; exact hp)
        obtain ⟨x, hx⟩ : ∃ x, l.getD i (0, 0, 0) = x := ⟨_, rfl⟩
        obtain ⟨y, hy⟩ : ∃ y, m.getD i (0, 0, 0) = y := ⟨_, rfl⟩
        rw [hx] at c
        rw [hy] at d
        obtain ⟨x1, x2, x3⟩ := x
        obtain ⟨y1, y2, y3⟩ := y
        obtain ⟨c1, c2, c3⟩ := c
        obtain ⟨d1, d2, d3⟩ := d
        simp only at c1 c2 c3 d1 d2 d3
        have HE : Hid _ := he
        have HX : Hid _ := And.intro hx hy
        have HP : Hid (Below q W wr) := hp
        have eq1 := eqG x1 x2 x3 y1 y2 y3
        rw [grade_eq] at eq1
        have gt := fieldsG.2.2
        clear h1 h2 he hx hy hp
        by_cases hxy : ((x1, x2, x3) : Gd) = (y1, y2, y3)
        · rw [decide_eq_true hxy] at eq1
          go_wp2
          go_quiet (fail)
          go_wp2
          refine ⟨⟨i + 1, hlt, congrArg (Value.int .i64) (wrapS hlt HN.out.2.2), fun j hj => ?_, drewN_below HP.out _⟩, measS hlt HN.out.2.2⟩
          by_cases hji : j = i
          · rw [hji, HX.out.1, HX.out.2]; exact hxy
          · exact HE.out j (by omega)
        · rw [decide_eq_false hxy] at eq1
          go_wp2
          go_quiet (fail)
          go_wp2
          go_ret
          refine ⟨?_, drewN_below HP.out _⟩
          have : ¬ l = m := fun e => hxy (by rw [← HX.out.1, ← HX.out.2, e])
          simp [this]
      · have b1 : ¬ (i : Int) < (n : Int) := by omega
        have hlm : l = m := gd_ext (by rw [HN.out.1, HN.out.2.1]) (fun j hj => he j (by rw [HN.out.1] at hj; omega))
        have HP : Hid (Below q W wr) := hp
        clear he hp
        go_wp2
        go_ret
        exact ⟨by simp [hlm], HP.out⟩
  · have b1 : ¬ (l.length : Int) = (m.length : Int) := by omega
    have hlm : ¬ l = m := fun e => hn (by rw [e])
    generalize l.length = n1 at *
    generalize m.length = n2 at *
    clear hu hv hua hvb hac hbc hal hbl hn
    go_enter Tryd.func14, Tryd.ntmps14
    go_wp2
    go_ret
    exact ⟨by simp [hlm], Below.refl _ _⟩
end Go.Proofs.YtjhleocpipmklaaDoor
