import Derived.Test.YtpfidohkohldaaaGreatDoorMqad
import Derived.Test.YtpfidohkohldaaaGreatDoorMqab
namespace Go.Proofs.YtpfidohkohldaaaGreatDoor
set_option linter.unusedSimpArgs false
set_option linter.unusedVariables false
open Go.ChangeShapes Go.WideShapes Go.ChangeAt Go.RowKit Go.Pin Go.Pat Go.Deep
/-- a text that came in -/
theorem open_text {H : Type} {enc : TypeId × Value → H} {W : World} {v : Value} {d : DataW H} {ps : List MemPlace} (hval : ∃ s, v = .string s)
    (h : DataW.Trod enc Tryz.prog W 0 (fun _ => true) true 9 v d ps) (hs : ∀ k ∈ d.weights Tryz.prog 9, k ≤ reachBytes) : ∃ s : ByteArray, v = .string s ∧ s.size ≤ 140737488355328 := by
  obtain ⟨s, rfl⟩ := hval
  obtain ⟨fuel, hf⟩ := h
  obtain ⟨s', h1, h2, _⟩ := DataW.trod_string Tryz.underlying9 hf
  simp only [Value.cells, List.cons.injEq, and_true, Value.string.injEq] at h1
  subst h1
  simp only [Prod.mk.injEq] at h2
  refine ⟨s, rfl, ?_⟩
  have := hs s.data.toList.length (by rw [h2.1]; simp [DataW.weights])
  unfold reachBytes at this
  have e : s.data.toList.length = s.size := by simp
  omega
theorem bytes_string : Tryz.prog.bytesOf 9 = 16 := by kernel_rfl
/-- words that came in -/
theorem open_words {H : Type} {enc : TypeId × Value → H} {W : World} {v : Value} {d : DataW H} {ps : List MemPlace} (hv : ∃ a n c, v = .slice a n c)
    (h : DataW.Trod enc Tryz.prog W 0 (fun _ => true) true 27 v d ps) (hs : ∀ k ∈ d.weights Tryz.prog 27, k ≤ reachBytes) :
    ∃ ws : List ByteArray, RdS W v ws ∧ (∀ x ∈ ws, x.size ≤ 140737488355328) ∧ (∀ a n c, v = .slice a n c → n ≤ c) ∧ ws.length ≤ 140737488355328 := by
  obtain ⟨a, n, c, rfl⟩ := hv
  obtain ⟨fuel, hf⟩ := h
  rcases open_strs Tryz.underlying27 Tryz.underlying9 (by kernel_rfl) hf with ⟨hcs, _⟩ | ⟨y, len, cap, m, Sx, hcs, _, hl, hm, hmm, hx, hc⟩
  · simp only [Value.cells, List.cons.injEq, and_true, Value.slice.injEq] at hcs
    obtain ⟨rfl, rfl, rfl⟩ := hcs
    exact ⟨[], ⟨none, 0, rfl, fun j hj => nomatch hj⟩, (fun x hx => nomatch hx), fun a n c h => by injection h with h1 h2 h3; omega, by simp⟩
  · simp only [Value.cells, List.cons.injEq, and_true, Value.slice.injEq] at hcs
    obtain ⟨rfl, rfl, rfl⟩ := hcs
    simp only [Prod.mk.injEq] at hx
    have hlm : n ≤ m := by rw [hmm]; split <;> omega
    refine ⟨(List.range n).map Sx, ⟨some y, c, by simp, fun j hj => ?_⟩, fun x hx' => ?_, fun a n c h => by injection h with h1 h2 h3; omega, ?_⟩
    · have hj' : j < n := by simpa using hj
      have h0 := (hc 0 (by omega)).1
      obtain ⟨b, o, rfl⟩ := add_spot h0
      have h1 := (hc j (by omega)).1
      rw [add_mid] at h1
      refine ⟨b, o, rfl, ?_⟩
      rw [h1]
      simp [List.getD, hj']
    · obtain ⟨i, hi, rfl⟩ := List.mem_map.1 hx'
      have := hs (Sx i).data.toList.length (by
        rw [hx.1]
        simp only [DataW.weights, Tryz.underlying27]
        exact List.mem_cons_of_mem _ (List.mem_append_left _ (weightsAll_mem (List.mem_map.2 ⟨i, hi, rfl⟩) (by simp [DataW.weights]))))
      unfold reachBytes at this
      have e : (Sx i).data.toList.length = (Sx i).size := by simp
      omega
    · have := hs ((n + (m - n)) * 16) (by
        rw [hx.1]
        simp only [DataW.weights, Tryz.underlying27]
        refine List.mem_cons.2 (.inl ?_)
        rw [bytes_string]
        simp)
      unfold reachBytes at this
      simp
      omega
end Go.Proofs.YtpfidohkohldaaaGreatDoor
