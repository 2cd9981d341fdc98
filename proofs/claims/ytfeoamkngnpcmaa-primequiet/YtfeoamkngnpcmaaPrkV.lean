import Derived.Test.YtfeoamkngnpcmaaPrkU
namespace Go.Proofs.Ytfeoamkngnpcmaa
set_option linter.unusedSimpArgs false
open Go.ChangeShapes Go.WideShapes Go.ChangeAt Go.RowKit Go.Pin Go.Prm
/-- the cells of a new Bench -/
def benchL (rv : Value) : List Value := List.replicate 40 (.int .u64 0) ++ (List.replicate 136 (.int .i64 0) ++ [rv, .slice none 0 0])
def benchZ : Array Value := (benchL (.pointer none)).toArray
theorem zero_bench (w : World) : (zeroValue 36).run Try.prog w = .ok (.agg benchZ) w := by kernel_rfl
theorem benchZ_size : benchZ.size = 178 := by kernel_rfl
theorem benchZ_set (rv : Value) : benchZ.setIfInBounds 176 rv = (benchL rv).toArray := by kernel_rfl
theorem zero_step (w : World) : (zeroValue 41).run Try.prog w = .ok (.agg (stepC 0 0 0 0 (List.replicate 16 0) (List.replicate 17 0))) w := by kernel_rfl
theorem bts_zero : bts 0 = List.replicate 17 0 := by decide
theorem lim_zero : Lim [0, 0, 0, 0, 0] := lim_of _ _ _ _ _ (by decide)
theorem bn_new {w : World} {g : Nat} {rv : Value} (h : w.heap[g]? = some (.cells (benchL rv).toArray 36 (0, 0))) : Bn g (fun _ => [0, 0, 0, 0, 0]) (fun _ => 0) rv (.slice none 0 0) w := by
  have hc : ∀ j, w.cell? ⟨g, j, none⟩ = (benchL rv)[j]? := fun j => by rw [cell_of_row w _ _ _ _ _ h]; simp
  refine ⟨⟨_, by kernel_rfl, h⟩, fun i hi j hj => ?_, fun i hi j hj => ?_, ?_, ?_, fun _ _ => lim_zero⟩
  · rw [hc, benchL, List.getElem?_append_left (by simp; omega), List.getElem?_replicate, if_pos (by omega)]
    have : ([0, 0, 0, 0, 0] : List Int).getD j 0 = 0 := by
      have h5 : j = 0 ∨ j = 1 ∨ j = 2 ∨ j = 3 ∨ j = 4 := by omega
      rcases h5 with rfl | rfl | rfl | rfl | rfl <;> rfl
    rw [this]
  · rw [hc, benchL, List.getElem?_append_right (by simp; omega), List.getElem?_append_left (by simp; omega), List.getElem?_replicate, if_pos (by simp; omega), bts_zero, List.getD_eq_getElem?_getD, List.getElem?_replicate, if_pos (by omega)]
    rfl
  · rw [hc]; rfl
  · rw [hc]; rfl
theorem num_zeros : ∀ i, i < 8 → num ((fun _ => [0, 0, 0, 0, 0] : Nat → List Int) i) = (fun _ => 0 : Nat → Nat) i := fun _ _ => by show num [0, 0, 0, 0, 0] = 0; decide
/-- a new Bench with a new Recorder: two blocks -/
theorem st_new (w : World) (B : Nat) (hB : B ≤ w.heap.size) : St B (w.heap.size + 1) (fun k => k = w.heap.size ∨ k = w.heap.size + 1) (fun _ => [0, 0, 0, 0, 0]) (fun _ => 0) (.pointer (some ⟨w.heap.size, 0, none⟩)) [] [] (.slice none 0 0)
    ((w.alloc (.cells #[.slice none 0 0, .int .i64 0] 57)).alloc (.cells (benchL (.pointer (some ⟨w.heap.size, 0, none⟩))).toArray 36)) := by
  have hr : Rec B ((w.alloc (.cells #[.slice none 0 0, .int .i64 0] 57)).alloc (.cells (benchL (.pointer (some ⟨w.heap.size, 0, none⟩))).toArray 36)) w.heap.size (.slice none 0 0) [] := by
    refine Rec.mono ((rec_new w).below ((Below.refl _ _).alloc (Nat.le_refl _) _)) hB
  refine ⟨bn_new (by rw [heap_alloc_any, if_pos (by simp)]), World.ownsRow_nil _ _ _ _, .inr rfl, fun k hk => by simp [Value.ownBlock] at hk, .inr ⟨_, _, rfl, hr, fun k hk => ?_⟩, fun k hk => ?_⟩
  · rcases hk with rfl | hk
    · exact ⟨.inl rfl, by omega, by simp [Value.ownBlock]⟩
    · simp [Value.ownBlock] at hk
  · simp
    rcases hk with rfl | rfl <;> omega
theorem st_nil (w : World) (B : Nat) (hB : B ≤ w.heap.size) : St B w.heap.size (fun k => k = w.heap.size) (fun _ => [0, 0, 0, 0, 0]) (fun _ => 0) (.pointer none) [] [] (.slice none 0 0)
    (w.alloc (.cells (benchL (.pointer none)).toArray 36)) := by
  refine ⟨bn_new (by rw [heap_alloc_any, if_pos rfl]), World.ownsRow_nil _ _ _ _, rfl, fun k hk => by simp [Value.ownBlock] at hk, .inl rfl, fun k hk => ?_⟩
  simp
  rw [hk]
  omega
end Go.Proofs.Ytfeoamkngnpcmaa
