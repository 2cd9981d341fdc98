import Derived.Test.YtfkbgodfcnmepabDoorDgS
namespace Go.Proofs.YtfkbgodfcnmepabDoor
set_option linter.unusedSimpArgs false
set_option linter.unusedVariables false
open Go.ChangeShapes Go.WideShapes Go.ChangeAt Go.RowKit Go.Pin Go.Str Go.Dig
set_option maxRecDepth 100000 in
theorem dwrite_nil (v : Value) (w : World) : Calls Tryd.prog 8 #[.pointer none, v] w fun e w' => e = .returned (.tuple #[]) ∧ w' = w := by
  go_enter Tryd.func8, Tryd.ntmps8
  go_wp2
  first | go_end0 | refine bodyPost_ret (results_none rfl _ _ _) rfl ?_
  exact ⟨rfl, rfl⟩
set_option maxRecDepth 100000 in
theorem dsum_nil (w : World) : Calls Tryd.prog 9 #[.pointer none] w fun e w' => e = .returned (.slice none 0 0) ∧ w' = w := by
  go_enter Tryd.func9, Tryd.ntmps9
  go_wp2
  go_ret
  exact ⟨rfl, rfl⟩
/-- the zero Hash -/
def zst : List Nat := List.replicate 8 0
theorem zst_s8 : S8 zst := ⟨rfl, fun x hx => by rw [(List.mem_replicate.1 hx).2]; decide⟩
theorem zhs : HSb [] z64 := ⟨List.length_replicate, fun x hx => by rw [(List.mem_replicate.1 hx).2]; decide, rfl⟩
end Go.Proofs.YtfkbgodfcnmepabDoor
