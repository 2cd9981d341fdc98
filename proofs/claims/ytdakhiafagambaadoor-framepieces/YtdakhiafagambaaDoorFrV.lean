import Derived.Test.YtdakhiafagambaaDoorFrU
import Derived.Test.YtdakhiafagambaaDoorFrP
/- stage 20: numbers that came in -/
namespace Go.Proofs.YtdakhiafagambaaDoor
set_option linter.unusedSimpArgs false
set_option linter.unusedVariables false
open Go.ChangeShapes Go.WideShapes Go.ChangeAt Go.RowKit Go.Pin Go.Deep
theorem bytes_i64 : Tryd.prog.bytesOf 3 = 8 := by kernel_rfl
theorem arg_nums {H : Type} {enc : TypeId × Value → H} {W : World} {v : Value} {d : DataW H} {ps : List MemPlace} (hv : ∃ a n c, v = .slice a n c)
    (h : DataW.Trod enc Tryd.prog W 0 (fun _ => true) true 54 v d ps) (hs : ∀ k ∈ d.weights Tryd.prog 54, k ≤ reachBytes) : ∃ C : List Int, RdC W v C := by
  obtain ⟨a, n, c, rfl⟩ := hv
  obtain ⟨fuel, hf⟩ := h
  rcases open_ints Tryd.underlying54 Tryd.underlying3 (by kernel_rfl) hf with ⟨hcs, _⟩ | ⟨y, l, c, zs, hcs, _, hl, hm, hz, hx, hcell, hwz⟩
  · simp only [Value.cells, List.cons.injEq, and_true] at hcs
    rw [hcs]
    exact ⟨[], none, 0, rfl, Nat.le_refl _, by simp, fun j hj => nomatch hj⟩
  · simp only [Value.cells, List.cons.injEq, and_true] at hcs
    rw [hcs]
    have hz' : zs.length = c := by simpa using hz
    have hl2 : (zs.take l).length = l := by rw [List.length_take]; omega
    have hb : l ≤ 140737488355328 := by
      have := hs ((l + (c - l)) * 8) (by
        have hd : d = _ := congrArg Prod.fst hx
        rw [hd]
        simp only [DataW.weights, Tryd.underlying54]
        refine List.mem_cons.2 (.inl ?_)
        rw [bytes_i64]
        simp [lits, hz', hl])
      unfold reachBytes at this
      omega
    refine ⟨zs.take l, some y, c, by rw [hl2], by rw [hl2]; exact hl, by rw [hl2]; exact hb, fun j hj => ?_⟩
    rw [hl2] at hj
    obtain ⟨b, o, rfl⟩ := add_spot (hcell 0 (by omega))
    refine ⟨b, o, rfl, ?_⟩
    have := hcell j (by omega)
    rw [add_mid] at this
    rw [this]
    congr 2
    simp [List.getD, List.getElem?_take_of_lt hj]
end Go.Proofs.YtdakhiafagambaaDoor
