import Derived.Test.YtjhleocpipmklaaDoorMgaa
namespace Go.Proofs.YtjhleocpipmklaaDoor
set_option linter.unusedSimpArgs false
set_option linter.unusedVariables false
open Go.ChangeShapes Go.WideShapes Go.ChangeAt Go.RowKit Go.Pin Go.Pat
/-- what is seen, as a value -/
def SV (x : Sn) : Value := .agg (x.map Value.bool).toArray
theorem twelve {x : Sn} (h : x.length = 12) : ∃ a b c d e f g i j k l m, x = [a, b, c, d, e, f, g, i, j, k, l, m] := by
  match x, h with
  | [a, b, c, d, e, f, g, i, j, k, l, m], _ => exact ⟨a, b, c, d, e, f, g, i, j, k, l, m, rfl⟩
set_option maxRecDepth 100000 in
set_option maxHeartbeats 4000000 in
theorem safe_any (x : Sn) (hx : x.length = 12) (s : Nat) (hs : s < 2) (w : World) :
    Calls Tryd.prog 51 #[SV x, .int .i64 s] w fun e w' => e = .returned (.bool (sf x s)) ∧ Below w.heap.size w w' := by
  obtain ⟨a, b, c, d, e, f, g, i, j, k, l, m, rfl⟩ := twelve hx
  have hs' : s = 0 ∨ s = 1 := by omega
  simp only [SV, List.map_cons, List.map_nil]
  rcases hs' with rfl | rfl
  all_goals
    clear hx hs
    go_enter Tryd.func51, Tryd.ntmps51
    go_wp2
    all_goals
      go_ret
      exact ⟨by simp_all [sf, B], (Below.refl _ _).alloc (Nat.le_refl _) _⟩
set_option maxRecDepth 100000 in
set_option maxHeartbeats 4000000 in
theorem has_any (x : Sn) (hx : x.length = 12) (t : Int) (w : World) :
    Calls Tryd.prog 72 #[SV x, .int .i64 t] w fun e w' => e = .returned (.bool (hs x t)) ∧ Below w.heap.size w w' := by
  obtain ⟨a, b, c, d, e, f, g, i, j, k, l, m, rfl⟩ := twelve hx
  simp only [SV, List.map_cons, List.map_nil]
  clear hx
  go_enter Tryd.func72, Tryd.ntmps72
  go_wp2
  all_goals
    go_ret
    exact ⟨by simp_all [hs, B], (Below.refl _ _).alloc (Nat.le_refl _) _⟩
end Go.Proofs.YtjhleocpipmklaaDoor
