import Derived.Test.YtfeoamkngnpcmaaPrmFo6
namespace Go.Proofs.Ytfeoamkngnpcmaa
set_option linter.unusedSimpArgs false
set_option linter.unusedVariables false
open Go.ChangeShapes Go.WideShapes Go.ChangeAt Go.RowKit Go.Pin Go.Prm
set_option maxRecDepth 100000 in
set_option maxHeartbeats 8000000 in
theorem folds_r8 {Q : Exit → Act → World → Prop} {W : World}  {ka : List Int} {g6 g7 : Nat} {e25x0 e25x1 e25x2 e25x3 e25x4 e27x0 e27x1 e27x2 e27x3 e27x4 : Int} {c0 c1 c2 c3 c4 c5 c8 c9 c10 c11 c12 c13 c14 c15 c16 c17 c18 c19 c20 c21 c22 c23 c24 c25 c26 c27 c28 c29 c30 c31 c32 c33 c34 c35 : Value}
    (Rg6 : Hid (rowAt W g6 [e25x0, e25x1, e25x2, e25x3, e25x4] 29))
    (C29 : Hid (∀ w, Calls Try.prog 13 #[.agg #[.int .u64 e25x0, .int .u64 e25x1, .int .u64 e25x2, .int .u64 e25x3, .int .u64 e25x4]] w fun e w' => e = .returned (.agg (VI .u8 ka)) ∧ Below w.heap.size w w'))
    (Rg7 : Hid (rowAt W g7 [e27x0, e27x1, e27x2, e27x3, e27x4] 29))
    (C31 : Hid (∀ w, Calls Try.prog 13 #[.agg #[.int .u64 e27x0, .int .u64 e27x1, .int .u64 e27x2, .int .u64 e27x3, .int .u64 e27x4]] w fun e w' => e = .returned (.agg (VI .u8 ka)) ∧ Below w.heap.size w w'))
    (Q1 : ∀ w, (Op.equalIn 10000 39 (.agg (VI .u8 ka)) (.agg (VI .u8 ka))).run Try.prog w = .ok true w)
    (C34 : Hid (∀ w, Calls Try.prog 12 #[] w fun e w' => e = .returned (.bool true) ∧ Below w.heap.size w w'))
    (H : ∀ W', Below W.heap.size W W' → Q .normal ⟨#[c0, c1, .bool true, c3, c4, c5, .pointer (some ⟨g6, 0, none⟩), .pointer (some ⟨g7, 0, none⟩), c8, c9, c10, c11, c12, c13, c14, c15, c16, c17, c18, c19, c20, c21, c22, c23, c24, c25, c26, c27, .agg #[.int .u64 e25x0, .int .u64 e25x1, .int .u64 e25x2, .int .u64 e25x3, .int .u64 e25x4], .agg (VI .u8 ka), .agg #[.int .u64 e27x0, .int .u64 e27x1, .int .u64 e27x2, .int .u64 e27x3, .int .u64 e27x4], .agg (VI .u8 ka), .bool true, .bool true, .bool true, .bool true], []⟩ W') :
    Code.wp Try.prog rgF8 Q ⟨#[c0, c1, c2, c3, c4, c5, .pointer (some ⟨g6, 0, none⟩), .pointer (some ⟨g7, 0, none⟩), c8, c9, c10, c11, c12, c13, c14, c15, c16, c17, c18, c19, c20, c21, c22, c23, c24, c25, c26, c27, c28, c29, c30, c31, c32, c33, c34, c35], []⟩ W := by
  have HH : Hid (∀ W', Below W.heap.size W W' → Q .normal ⟨#[c0, c1, .bool true, c3, c4, c5, .pointer (some ⟨g6, 0, none⟩), .pointer (some ⟨g7, 0, none⟩), c8, c9, c10, c11, c12, c13, c14, c15, c16, c17, c18, c19, c20, c21, c22, c23, c24, c25, c26, c27, .agg #[.int .u64 e25x0, .int .u64 e25x1, .int .u64 e25x2, .int .u64 e25x3, .int .u64 e25x4], .agg (VI .u8 ka), .agg #[.int .u64 e27x0, .int .u64 e27x1, .int .u64 e27x2, .int .u64 e27x3, .int .u64 e27x4], .agg (VI .u8 ka), .bool true, .bool true, .bool true, .bool true], []⟩ W') := H
  clear H
  conv => arg 2; whnf
  refine wp_region_quiet_in (C := fun Y => Below W.heap.size W Y) (by kernel_rfl) (by kernel_rfl) ((Below.refl _ _).drew) ?_
  refine wpQuiet_step (fun K hK => ?_)
  refine if_pos_mpr (by kernel_rfl) ⟨.agg #[.int .u64 e25x0, .int .u64 e25x1, .int .u64 e25x2, .int .u64 e25x3, .int .u64 e25x4], fun Y hY => ?_, hK _ ?_⟩
  · obtain ⟨d0, d1, d2, d3, d4⟩ := cells5 (row_below Rg6.out hY)
    go_simp
  clear hK K
  try simp only [Act.put, List.setIfInBounds_toArray, List.set_cons_zero, List.set_cons_succ]
  refine wpQuiet_step (fun K hK => ?_)
  refine if_pos_mpr (by kernel_rfl) ⟨.agg (VI .u8 ka), fun Y hY => ?_, hK _ ?_⟩
  · go_simp
    exact (C29.out Y).mono fun e w' hh => ⟨hh.1, hY.trans (hh.2.mono hY.size)⟩
  clear hK K
  try simp only [Act.put, List.setIfInBounds_toArray, List.set_cons_zero, List.set_cons_succ]
  refine wpQuiet_step (fun K hK => ?_)
  refine if_pos_mpr (by kernel_rfl) ⟨.agg #[.int .u64 e27x0, .int .u64 e27x1, .int .u64 e27x2, .int .u64 e27x3, .int .u64 e27x4], fun Y hY => ?_, hK _ ?_⟩
  · obtain ⟨d0, d1, d2, d3, d4⟩ := cells5 (row_below Rg7.out hY)
    go_simp
  clear hK K
  try simp only [Act.put, List.setIfInBounds_toArray, List.set_cons_zero, List.set_cons_succ]
  refine wpQuiet_step (fun K hK => ?_)
  refine if_pos_mpr (by kernel_rfl) ⟨.agg (VI .u8 ka), fun Y hY => ?_, hK _ ?_⟩
  · go_simp
    exact (C31.out Y).mono fun e w' hh => ⟨hh.1, hY.trans (hh.2.mono hY.size)⟩
  clear hK K
  try simp only [Act.put, List.setIfInBounds_toArray, List.set_cons_zero, List.set_cons_succ]
  refine wpQuiet_step (fun K hK => ?_)
  go_simp
  first | refine hK _ ?_ | refine ⟨_, fun _ _ => rfl, hK _ ?_⟩
  clear hK K
  refine wpQuiet_step (fun K hK => ?_)
  go_simp
  first | refine hK _ ?_ | refine ⟨_, fun _ _ => rfl, hK _ ?_⟩
  clear hK K
  refine wpQuiet_step (fun K hK => ?_)
  refine if_pos_mpr (by kernel_rfl) ⟨.bool true, fun Y hY => ?_, hK _ ?_⟩
  · go_simp
    exact (C34.out Y).mono fun e w' hh => ⟨hh.1, hY.trans (hh.2.mono hY.size)⟩
  clear hK K
  try simp only [Act.put, List.setIfInBounds_toArray, List.set_cons_zero, List.set_cons_succ]
  refine wpQuiet_step (fun K hK => ?_)
  go_simp
  first | refine hK _ ?_ | refine ⟨_, fun _ _ => rfl, hK _ ?_⟩
  clear hK K
  refine wpQuiet_step (fun K hK => ?_)
  go_simp
  first | refine hK _ ?_ | refine ⟨_, fun _ _ => rfl, hK _ ?_⟩
  clear hK K
  refine wpQuiet_nil ?_
  exact fun W' hb => HH.out W' hb
end Go.Proofs.Ytfeoamkngnpcmaa
