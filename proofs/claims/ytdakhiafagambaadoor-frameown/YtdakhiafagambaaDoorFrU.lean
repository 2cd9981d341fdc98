import Derived.Test.YtdakhiafagambaaDoorFrO
import Derived.Test.YtdakhiafagambaaDoorFrT
/- stage 20: arguments are opened -/
namespace Go.Proofs.YtdakhiafagambaaDoor
set_option linter.unusedSimpArgs false
set_option linter.unusedVariables false
open Go.ChangeShapes Go.WideShapes Go.ChangeAt Go.RowKit Go.Pin Go.Deep
theorem arg_bytes {H : Type} {enc : TypeId × Value → H} {W : World} {v : Value} {d : DataW H} {ps : List MemPlace} (hv : ∃ a n c, v = .slice a n c)
    (h : DataW.Trod enc Tryd.prog W 0 (fun _ => true) true 22 v d ps) (hs : ∀ k ∈ d.weights Tryd.prog 22, k ≤ reachBytes) : ∃ C : List Int, RdY W v C := by
  obtain ⟨a, n, c, rfl⟩ := hv
  obtain ⟨fuel, hf⟩ := h
  obtain ⟨u, C, e, hr⟩ := open_bytes hf hs
  simp only [Value.cells, List.cons.injEq, and_true] at e
  subst e
  exact ⟨C, hr⟩
theorem arg_steps {H : Type} {enc : TypeId × Value → H} {W : World} {v : Value} {d : DataW H} {ps : List MemPlace} (hv : ∃ a n c, v = .slice a n c)
    (h : DataW.Trod enc Tryd.prog W 0 (fun _ => true) true 34 v d ps) (hs : ∀ k ∈ d.weights Tryd.prog 34, k ≤ reachBytes) : ∃ L : List Stp, Scr W v L := by
  obtain ⟨a, n, c, rfl⟩ := hv
  obtain ⟨fuel, hf⟩ := h
  obtain ⟨u, C, e, hr⟩ := open_steps hf hs
  simp only [Value.cells, List.cons.injEq, and_true] at e
  subst e
  exact ⟨C, hr⟩
theorem arg_pieces {H : Type} {enc : TypeId × Value → H} {W : World} {v : Value} {d : DataW H} {ps : List MemPlace} (hv : ∃ a n c, v = .slice a n c)
    (h : DataW.Trod enc Tryd.prog W 0 (fun _ => true) true 53 v d ps) (hs : ∀ k ∈ d.weights Tryd.prog 53, k ≤ reachBytes) : ∃ L : List (List Int), PRd W v L := by
  obtain ⟨a, n, c, rfl⟩ := hv
  obtain ⟨fuel, hf⟩ := h
  obtain ⟨u, C, e, hr⟩ := open_pieces hf hs
  simp only [Value.cells, List.cons.injEq, and_true] at e
  subst e
  exact ⟨C, hr⟩
end Go.Proofs.YtdakhiafagambaaDoor
