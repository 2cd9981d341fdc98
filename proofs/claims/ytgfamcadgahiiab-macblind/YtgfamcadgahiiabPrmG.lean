import Derived.Test.YtgfamcadgahiiabPrmF
namespace Go.Proofs.Ytgfamcadgahiiab
set_option linter.unusedSimpArgs false
open Go.ChangeShapes Go.WideShapes Go.ChangeAt Go.RowKit Go.Pin Go.Prm
theorem rw17_key {f a l : Int} (f0 : 0 ≤ f) (f1 : f < 256) (a0 : 0 ≤ a) (a1 : a < 256) (l0 : 0 ≤ l) (l1 : l < 256) : Key17 (rw17 f a l) := ⟨rfl, by
  simp only [rw17, List.mem_cons, List.not_mem_nil, or_false, forall_eq_or_imp, forall_eq]
  omega⟩
/-- row's boxes -/
structure GW (n : Nat) (w : World) (L : List Int) (wr : World) : Prop where
  old : Below n w wr
  hr : rowB wr n (List.replicate 17 0) 71
  hl : rowB wr (n + 1) L 71
theorem GW.set {n : Nat} {w wr : World} {L : List Int} (h : GW n w L wr) (i : Nat) (v : Int) : GW n w (L.set i v) (wr.setCell ⟨n + 1, i, none⟩ (.int .u8 v)) :=
  ⟨h.old.setCell (by simp) _, row_other h.hr (by simp) _, rowB_set h.hl _ _⟩
theorem gw_start (w : World) : GW w.heap.size w (List.replicate 17 0) ((w.alloc (.cells (VI .u8 (List.replicate 17 0)) 71)).alloc (.cells (VI .u8 (List.replicate 17 0)) 71)) := by
  refine ⟨((Below.refl _ _).alloc (Nat.le_refl _) _).alloc (by simp) _, ?_, ?_⟩
  all_goals simp only [rowB, heap_alloc_any, size_alloc]
  · rw [if_neg (by omega), if_pos trivial]
  · rw [if_pos trivial]
end Go.Proofs.Ytgfamcadgahiiab
