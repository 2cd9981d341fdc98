import Derived.Test.YtfkbgodfcnmepabDoorDgO
import Derived.Test.YtfkbgodfcnmepabDoorTie
import Derived.Test.YtfkbgodfcnmepabDoorCards
import Derived.LaidLaws
import Derived.LaidHandle
import Derived.Lay
import Derived.SevenTiedAt
import Derived.Lib.LaidTab
namespace Go.Proofs.YtfkbgodfcnmepabDoor
set_option linter.unusedSimpArgs false
set_option linter.unusedVariables false
open Go.ChangeShapes Go.WideShapes Go.ChangeAt Go.RowKit Go.Pin Go.Str Go.Dig Go.Deep
theorem own : ownKnob Tryd.prog.godebug = none := by kernel_rfl
theorem laidOut : laidOutB Tryd.prog = true := by kernel_rfl
def laidV : List (String × DataW Unit) := [("pintle/api.ErrArg", Rows.laid_pintle_api_ErrArg), ("pintle/digest.beginning", Rows.laid_pintle_digest_beginning)]
theorem g_err : Tryd.prog.globalNamed "pintle/api.ErrArg" = some 0 := by kernel_rfl
theorem g_beg : Tryd.prog.globalNamed "pintle/digest.beginning" = some 1 := by kernel_rfl
theorem t_err : (Tryd.prog.globals[0]?).map (·.type) = some 25 := by kernel_rfl
theorem t_beg : (Tryd.prog.globals[1]?).map (·.type) = some 47 := by kernel_rfl
theorem star : ("*errors.errorString" : String) = "*" ++ "errors.errorString" := by decide
theorem row_err : ∀ u, Tryd.prog.typeName? 3 u = some "*errors.errorString" → u = 89 := fun u h =>
  typeName_ptr_named (nm := "errors.errorString") (by rw [← star]; kernel_rfl) (by kernel_rfl) (by decide) u (by rw [← star]; exact h)
set_option maxRecDepth 100000 in
/-- what the two variables hold -/
theorem vars_of_laid {W : World} (h0 : laidMetH Tryd.prog laidV W) : Beg W ∧ ∃ a, W.cell? ⟨0, 0, none⟩ = some (.iface 89 (.pointer (some a))) := by
  have h : laidMet Tryd.prog laidV W := h0
  obtain ⟨ps, ⟨g0, t0, cs0, f0, p0, q0, hg0, ht0, hv0, hd0, ⟨g1, t1, cs1, f1, p1, q1, hg1, ht1, hv1, hd1, hq1, e1⟩, e0⟩, hnd, hrows⟩ := h
  obtain rfl := Option.some.inj (g_err.symm.trans hg0)
  obtain rfl := Option.some.inj (g_beg.symm.trans hg1)
  obtain rfl := Option.some.inj (t_err.symm.trans ht0)
  obtain rfl := Option.some.inj (t_beg.symm.trans ht1)
  have hq1' : q1 = [] := hq1
  subst hq1'
  subst e1
  subst e0
  obtain ⟨l0⟩ := cs0
  obtain ⟨l1⟩ := cs1
  have ok0 : ∀ u v, l0 = [.iface u v] → Value.okWide Tryd.prog W .any 0 u v := fun u v e => by
    subst e
    exact (hrows 0 0 (by simp [MemPlace.row])).2 u v (by simpa using World.var?_cell hg0 hv0 0)
  obtain ⟨a0, s0, rfl, hc0, hs0, hz0, rfl⟩ := errorString_of_trod Tryd.underlying25 row_err Tryd.underlying89 Tryd.underlying106 rfl rfl Tryd.underlying9 (by kernel_rfl) (by kernel_rfl) hd0 ok0
  have hl1 := Lib.cells_of_tab (zs := iv.map Int.ofNat) (k := .u32) Tryd.underlying47 Tryd.underlying46 (by kernel_rfl) (by kernel_rfl) hd1
  have hl1' : l1 = (iv.map Int.ofNat).map fun z => Value.int .u32 z := hl1
  subst hl1'
  refine ⟨⟨fun j v hj => ?_, ?_⟩, a0, by simpa using World.var?_cell hg0 hv0 0⟩
  · have := World.var?_cell hg1 hv1 j
    rw [Nat.zero_add, this, ← hj]
    simp
  · have := World.var?_cell hg1 hv1 0
    exact World.block_lt_of_cell? W _ this
end Go.Proofs.YtfkbgodfcnmepabDoor
