import Derived.Test.YtfkbgodfcnmepabDoorDbL
namespace Go.Proofs.YtfkbgodfcnmepabDoor
set_option linter.unusedSimpArgs false
set_option linter.unusedVariables false
open Go.ChangeShapes Go.WideShapes Go.ChangeAt Go.RowKit Go.Pin Go.Str Go.Dig
theorem known_at {q : Nat} {W w : World} (h : Below q W w) (hB : Beg W) (h2 : 2 ≤ q) (hE : ∃ a, W.cell? ⟨0, 0, none⟩ = some (.iface 89 (.pointer (some a)))) (hq : q ≤ w.heap.size) : Calls Tryd.prog 7 #[] w fun e w' => e = .returned (.bool true) ∧ Below q W w' := by
  obtain ⟨a, ha⟩ := hE
  refine (known_any w (hB.below h h2) ⟨a, (World.cell?_of_block (a := ⟨0, 0, none⟩) (h.block 0 (by omega))).trans ha⟩).mono ?_
  rintro e w' ⟨rfl, hb⟩
  exact ⟨rfl, h.trans (hb.mono hq)⟩
end Go.Proofs.YtfkbgodfcnmepabDoor
