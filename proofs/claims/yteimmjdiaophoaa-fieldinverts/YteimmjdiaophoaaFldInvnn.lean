import Derived.Test.YteimmjdiaophoaaFldInv0
namespace Go.Proofs.Yteimmjdiaophoaa
set_option linter.unusedSimpArgs false
set_option linter.unusedVariables false
open Go.ChangeShapes Go.WideShapes Go.ChangeAt Go.RowKit Go.Pin Go.Fld
set_option maxRecDepth 100000 in
set_option maxHeartbeats 8000000 in
theorem invnn_r8 {Q : Exit → Act → World → Prop} {W : World}  {g5 g6_1 g10 g9 : Nat} {e14x0 e14x1 e14x2 e14x3 e14x4 e21x0 e21x1 e21x2 e21x3 e21x4 e43x0 e43x1 e43x2 e43x3 e43x4 e18x0 e18x1 e18x2 e18x3 e18x4 e52x0 e52x1 e52x2 e52x3 e52x4 : Int} {c0 c1 c2 c3 c4 c6 c11 c12 c13 c14 c15 c16 c17 c18 c19 c20 c21 c22 c23 c24 c25 c26 c27 c28 c29 c30 c31 c32 c33 c34 c35 c36 c37 c38 c39 c40 c41 c42 c43 c44 c45 c46 c47 c48 c49 c50 c51 c52 c53 c54 c55 c56 c57 c58 c59 c60 c61 c62 c63 c64 c65 c66 c67 c68 c69 c70 c71 c72 c73 c74 c75 c76 c77 c78 c79 c80 c81 c82 c83 c84 c85 : Value}
    (Rg5 : Hid (rowAt W g5 [e14x0, e14x1, e14x2, e14x3, e14x4] 27))
    (Rg6_1 : Hid (rowAt W g6_1 [0, 0, 0, 0, 0] 27))
    (C27 : Hid (∀ w, Calls Try.prog 21 #[.agg #[.int .u64 e14x0, .int .u64 e14x1, .int .u64 e14x2, .int .u64 e14x3, .int .u64 e14x4], .agg #[.int .u64 0, .int .u64 0, .int .u64 0, .int .u64 0, .int .u64 0]] w fun e w' => e = .returned (.bool false) ∧ Below w.heap.size w w'))
    (C37 : Hid (∀ w, Calls Try.prog 21 #[.agg #[.int .u64 e14x0, .int .u64 e14x1, .int .u64 e14x2, .int .u64 e14x3, .int .u64 e14x4], .agg #[.int .u64 0, .int .u64 0, .int .u64 0, .int .u64 0, .int .u64 0]] w fun e w' => e = .returned (.bool false) ∧ Below w.heap.size w w'))
    (Rg10 : Hid (rowAt W g10 [e21x0, e21x1, e21x2, e21x3, e21x4] 27))
    (C43 : Hid (∀ w, Calls Try.prog 23 #[.pointer none, .agg #[.int .u64 e14x0, .int .u64 e14x1, .int .u64 e14x2, .int .u64 e14x3, .int .u64 e14x4], .agg #[.int .u64 e21x0, .int .u64 e21x1, .int .u64 e21x2, .int .u64 e21x3, .int .u64 e21x4]] w fun e w' => e = .returned (.agg #[.int .u64 e43x0, .int .u64 e43x1, .int .u64 e43x2, .int .u64 e43x3, .int .u64 e43x4]) ∧ Below w.heap.size w w'))
    (Rg9 : Hid (rowAt W g9 [e18x0, e18x1, e18x2, e18x3, e18x4] 27))
    (C45 : Hid (∀ w, Calls Try.prog 21 #[.agg #[.int .u64 e43x0, .int .u64 e43x1, .int .u64 e43x2, .int .u64 e43x3, .int .u64 e43x4], .agg #[.int .u64 e18x0, .int .u64 e18x1, .int .u64 e18x2, .int .u64 e18x3, .int .u64 e18x4]] w fun e w' => e = .returned (.bool true) ∧ Below w.heap.size w w'))
    (C52 : Hid (∀ w, Calls Try.prog 26 #[.pointer none, .agg #[.int .u64 e21x0, .int .u64 e21x1, .int .u64 e21x2, .int .u64 e21x3, .int .u64 e21x4]] w fun e w' => e = .returned (.agg #[.int .u64 e52x0, .int .u64 e52x1, .int .u64 e52x2, .int .u64 e52x3, .int .u64 e52x4]) ∧ Below w.heap.size w w'))
    (C54 : Hid (∀ w, Calls Try.prog 21 #[.agg #[.int .u64 e52x0, .int .u64 e52x1, .int .u64 e52x2, .int .u64 e52x3, .int .u64 e52x4], .agg #[.int .u64 e14x0, .int .u64 e14x1, .int .u64 e14x2, .int .u64 e14x3, .int .u64 e14x4]] w fun e w' => e = .returned (.bool true) ∧ Below w.heap.size w w'))
    (H : ∀ W', Below W.heap.size W W' → Q .normal ⟨#[c0, c1, c2, c3, c4, .pointer (some ⟨g5, 0, none⟩), c6, .pointer none, .pointer (some ⟨g6_1, 0, none⟩), .pointer (some ⟨g9, 0, none⟩), .pointer (some ⟨g10, 0, none⟩), c11, c12, c13, c14, c15, c16, c17, c18, c19, c20, c21, c22, c23, c24, .agg #[.int .u64 e14x0, .int .u64 e14x1, .int .u64 e14x2, .int .u64 e14x3, .int .u64 e14x4], .agg #[.int .u64 0, .int .u64 0, .int .u64 0, .int .u64 0, .int .u64 0], .bool false, .bool false, undef, undef, undef, undef, .bool false, .bool false, .agg #[.int .u64 e14x0, .int .u64 e14x1, .int .u64 e14x2, .int .u64 e14x3, .int .u64 e14x4], .agg #[.int .u64 0, .int .u64 0, .int .u64 0, .int .u64 0, .int .u64 0], .bool false, .bool true, .bool true, .pointer none, .agg #[.int .u64 e14x0, .int .u64 e14x1, .int .u64 e14x2, .int .u64 e14x3, .int .u64 e14x4], .agg #[.int .u64 e21x0, .int .u64 e21x1, .int .u64 e21x2, .int .u64 e21x3, .int .u64 e21x4], .agg #[.int .u64 e43x0, .int .u64 e43x1, .int .u64 e43x2, .int .u64 e43x3, .int .u64 e43x4], .agg #[.int .u64 e18x0, .int .u64 e18x1, .int .u64 e18x2, .int .u64 e18x3, .int .u64 e18x4], .bool true, .bool false, .bool false, .bool false, .bool false, .pointer none, .agg #[.int .u64 e21x0, .int .u64 e21x1, .int .u64 e21x2, .int .u64 e21x3, .int .u64 e21x4], .agg #[.int .u64 e52x0, .int .u64 e52x1, .int .u64 e52x2, .int .u64 e52x3, .int .u64 e52x4], .agg #[.int .u64 e14x0, .int .u64 e14x1, .int .u64 e14x2, .int .u64 e14x3, .int .u64 e14x4], .bool true, .bool false, .bool false, c57, c58, c59, c60, c61, c62, c63, c64, c65, c66, c67, c68, c69, c70, c71, c72, c73, c74, c75, c76, c77, c78, c79, c80, c81, c82, c83, c84, c85], []⟩ W') :
    Code.wp Try.prog rgI8 Q ⟨#[c0, c1, c2, c3, c4, .pointer (some ⟨g5, 0, none⟩), c6, .pointer none, .pointer (some ⟨g6_1, 0, none⟩), .pointer (some ⟨g9, 0, none⟩), .pointer (some ⟨g10, 0, none⟩), c11, c12, c13, c14, c15, c16, c17, c18, c19, c20, c21, c22, c23, c24, c25, c26, c27, c28, c29, c30, c31, c32, c33, c34, c35, c36, c37, c38, c39, c40, c41, c42, c43, c44, c45, c46, c47, c48, c49, c50, c51, c52, c53, c54, c55, c56, c57, c58, c59, c60, c61, c62, c63, c64, c65, c66, c67, c68, c69, c70, c71, c72, c73, c74, c75, c76, c77, c78, c79, c80, c81, c82, c83, c84, c85], []⟩ W := by
  have HH : Hid (∀ W', Below W.heap.size W W' → Q .normal ⟨#[c0, c1, c2, c3, c4, .pointer (some ⟨g5, 0, none⟩), c6, .pointer none, .pointer (some ⟨g6_1, 0, none⟩), .pointer (some ⟨g9, 0, none⟩), .pointer (some ⟨g10, 0, none⟩), c11, c12, c13, c14, c15, c16, c17, c18, c19, c20, c21, c22, c23, c24, .agg #[.int .u64 e14x0, .int .u64 e14x1, .int .u64 e14x2, .int .u64 e14x3, .int .u64 e14x4], .agg #[.int .u64 0, .int .u64 0, .int .u64 0, .int .u64 0, .int .u64 0], .bool false, .bool false, undef, undef, undef, undef, .bool false, .bool false, .agg #[.int .u64 e14x0, .int .u64 e14x1, .int .u64 e14x2, .int .u64 e14x3, .int .u64 e14x4], .agg #[.int .u64 0, .int .u64 0, .int .u64 0, .int .u64 0, .int .u64 0], .bool false, .bool true, .bool true, .pointer none, .agg #[.int .u64 e14x0, .int .u64 e14x1, .int .u64 e14x2, .int .u64 e14x3, .int .u64 e14x4], .agg #[.int .u64 e21x0, .int .u64 e21x1, .int .u64 e21x2, .int .u64 e21x3, .int .u64 e21x4], .agg #[.int .u64 e43x0, .int .u64 e43x1, .int .u64 e43x2, .int .u64 e43x3, .int .u64 e43x4], .agg #[.int .u64 e18x0, .int .u64 e18x1, .int .u64 e18x2, .int .u64 e18x3, .int .u64 e18x4], .bool true, .bool false, .bool false, .bool false, .bool false, .pointer none, .agg #[.int .u64 e21x0, .int .u64 e21x1, .int .u64 e21x2, .int .u64 e21x3, .int .u64 e21x4], .agg #[.int .u64 e52x0, .int .u64 e52x1, .int .u64 e52x2, .int .u64 e52x3, .int .u64 e52x4], .agg #[.int .u64 e14x0, .int .u64 e14x1, .int .u64 e14x2, .int .u64 e14x3, .int .u64 e14x4], .bool true, .bool false, .bool false, c57, c58, c59, c60, c61, c62, c63, c64, c65, c66, c67, c68, c69, c70, c71, c72, c73, c74, c75, c76, c77, c78, c79, c80, c81, c82, c83, c84, c85], []⟩ W') := H
  clear H
  conv => arg 2; whnf
  refine wp_region_quiet_in (C := fun Y => Below W.heap.size W Y) (by kernel_rfl) (by kernel_rfl) ((Below.refl _ _).drew) ?_
  refine wpQuiet_step (fun K hK => ?_)
  refine if_pos_mpr (by kernel_rfl) ⟨.agg #[.int .u64 e14x0, .int .u64 e14x1, .int .u64 e14x2, .int .u64 e14x3, .int .u64 e14x4], fun Y hY => ?_, hK _ ?_⟩
  · obtain ⟨d0, d1, d2, d3, d4⟩ := cells5 (row_below Rg5.out hY)
    go_simp
  clear hK K
  try simp only [Act.put, List.setIfInBounds_toArray, List.set_cons_zero, List.set_cons_succ]
  refine wpQuiet_step (fun K hK => ?_)
  refine if_pos_mpr (by kernel_rfl) ⟨.agg #[.int .u64 0, .int .u64 0, .int .u64 0, .int .u64 0, .int .u64 0], fun Y hY => ?_, hK _ ?_⟩
  · obtain ⟨d0, d1, d2, d3, d4⟩ := cells5 (row_below Rg6_1.out hY)
    go_simp
  clear hK K
  try simp only [Act.put, List.setIfInBounds_toArray, List.set_cons_zero, List.set_cons_succ]
  refine wpQuiet_step (fun K hK => ?_)
  refine if_pos_mpr (by kernel_rfl) ⟨.bool false, fun Y hY => ?_, hK _ ?_⟩
  · go_simp
    exact (C27.out Y).mono fun e w' hh => ⟨hh.1, hY.trans (hh.2.mono hY.size)⟩
  clear hK K
  try simp only [Act.put, List.setIfInBounds_toArray, List.set_cons_zero, List.set_cons_succ]
  refine wpQuiet_step (fun K hK => ?_)
  go_simp
  first | refine hK _ ?_ | refine ⟨_, fun _ _ => rfl, hK _ ?_⟩
  clear hK K
  refine wpQuiet_step (fun K hK => ?_)
  go_simp
  first | refine hK _ ?_ | refine ⟨_, fun _ _ => rfl, hK _ ?_⟩
  clear hK K
  refine wpQuiet_step (fun K hK => ?_)
  go_simp
  first | refine hK _ ?_ | refine ⟨_, fun _ _ => rfl, hK _ ?_⟩
  clear hK K
  refine wpQuiet_step (fun K hK => ?_)
  go_simp
  first | refine hK _ ?_ | refine ⟨_, fun _ _ => rfl, hK _ ?_⟩
  clear hK K
  refine wpQuiet_step (fun K hK => ?_)
  go_simp
  first | refine hK _ ?_ | refine ⟨_, fun _ _ => rfl, hK _ ?_⟩
  clear hK K
  refine wpQuiet_step (fun K hK => ?_)
  go_simp
  first | refine hK _ ?_ | refine ⟨_, fun _ _ => rfl, hK _ ?_⟩
  clear hK K
  refine wpQuiet_step (fun K hK => ?_)
  go_simp
  first | refine hK _ ?_ | refine ⟨_, fun _ _ => rfl, hK _ ?_⟩
  clear hK K
  refine wpQuiet_step (fun K hK => ?_)
  refine if_pos_mpr (by kernel_rfl) ⟨.agg #[.int .u64 e14x0, .int .u64 e14x1, .int .u64 e14x2, .int .u64 e14x3, .int .u64 e14x4], fun Y hY => ?_, hK _ ?_⟩
  · obtain ⟨d0, d1, d2, d3, d4⟩ := cells5 (row_below Rg5.out hY)
    go_simp
  clear hK K
  try simp only [Act.put, List.setIfInBounds_toArray, List.set_cons_zero, List.set_cons_succ]
  refine wpQuiet_step (fun K hK => ?_)
  refine if_pos_mpr (by kernel_rfl) ⟨.agg #[.int .u64 0, .int .u64 0, .int .u64 0, .int .u64 0, .int .u64 0], fun Y hY => ?_, hK _ ?_⟩
  · obtain ⟨d0, d1, d2, d3, d4⟩ := cells5 (row_below Rg6_1.out hY)
    go_simp
  clear hK K
  try simp only [Act.put, List.setIfInBounds_toArray, List.set_cons_zero, List.set_cons_succ]
  refine wpQuiet_step (fun K hK => ?_)
  refine if_pos_mpr (by kernel_rfl) ⟨.bool false, fun Y hY => ?_, hK _ ?_⟩
  · go_simp
    exact (C37.out Y).mono fun e w' hh => ⟨hh.1, hY.trans (hh.2.mono hY.size)⟩
  clear hK K
  try simp only [Act.put, List.setIfInBounds_toArray, List.set_cons_zero, List.set_cons_succ]
  refine wpQuiet_step (fun K hK => ?_)
  go_simp
  first | refine hK _ ?_ | refine ⟨_, fun _ _ => rfl, hK _ ?_⟩
  clear hK K
  refine wpQuiet_step (fun K hK => ?_)
  go_simp
  first | refine hK _ ?_ | refine ⟨_, fun _ _ => rfl, hK _ ?_⟩
  clear hK K
  refine wpQuiet_step (fun K hK => ?_)
  go_simp
  first | refine hK _ ?_ | refine ⟨_, fun _ _ => rfl, hK _ ?_⟩
  clear hK K
  refine wpQuiet_step (fun K hK => ?_)
  refine if_pos_mpr (by kernel_rfl) ⟨.agg #[.int .u64 e14x0, .int .u64 e14x1, .int .u64 e14x2, .int .u64 e14x3, .int .u64 e14x4], fun Y hY => ?_, hK _ ?_⟩
  · obtain ⟨d0, d1, d2, d3, d4⟩ := cells5 (row_below Rg5.out hY)
    go_simp
  clear hK K
  try simp only [Act.put, List.setIfInBounds_toArray, List.set_cons_zero, List.set_cons_succ]
  refine wpQuiet_step (fun K hK => ?_)
  refine if_pos_mpr (by kernel_rfl) ⟨.agg #[.int .u64 e21x0, .int .u64 e21x1, .int .u64 e21x2, .int .u64 e21x3, .int .u64 e21x4], fun Y hY => ?_, hK _ ?_⟩
  · obtain ⟨d0, d1, d2, d3, d4⟩ := cells5 (row_below Rg10.out hY)
    go_simp
  clear hK K
  try simp only [Act.put, List.setIfInBounds_toArray, List.set_cons_zero, List.set_cons_succ]
  refine wpQuiet_step (fun K hK => ?_)
  refine if_pos_mpr (by kernel_rfl) ⟨.agg #[.int .u64 e43x0, .int .u64 e43x1, .int .u64 e43x2, .int .u64 e43x3, .int .u64 e43x4], fun Y hY => ?_, hK _ ?_⟩
  · go_simp
    exact (C43.out Y).mono fun e w' hh => ⟨hh.1, hY.trans (hh.2.mono hY.size)⟩
  clear hK K
  try simp only [Act.put, List.setIfInBounds_toArray, List.set_cons_zero, List.set_cons_succ]
  refine wpQuiet_step (fun K hK => ?_)
  refine if_pos_mpr (by kernel_rfl) ⟨.agg #[.int .u64 e18x0, .int .u64 e18x1, .int .u64 e18x2, .int .u64 e18x3, .int .u64 e18x4], fun Y hY => ?_, hK _ ?_⟩
  · obtain ⟨d0, d1, d2, d3, d4⟩ := cells5 (row_below Rg9.out hY)
    go_simp
  clear hK K
  try simp only [Act.put, List.setIfInBounds_toArray, List.set_cons_zero, List.set_cons_succ]
  refine wpQuiet_step (fun K hK => ?_)
  refine if_pos_mpr (by kernel_rfl) ⟨.bool true, fun Y hY => ?_, hK _ ?_⟩
  · go_simp
    exact (C45.out Y).mono fun e w' hh => ⟨hh.1, hY.trans (hh.2.mono hY.size)⟩
  clear hK K
  try simp only [Act.put, List.setIfInBounds_toArray, List.set_cons_zero, List.set_cons_succ]
  refine wpQuiet_step (fun K hK => ?_)
  go_simp
  first | refine hK _ ?_ | refine ⟨_, fun _ _ => rfl, hK _ ?_⟩
  clear hK K
  refine wpQuiet_step (fun K hK => ?_)
  go_simp
  first | refine hK _ ?_ | refine ⟨_, fun _ _ => rfl, hK _ ?_⟩
  clear hK K
  refine wpQuiet_step (fun K hK => ?_)
  go_simp
  first | refine hK _ ?_ | refine ⟨_, fun _ _ => rfl, hK _ ?_⟩
  clear hK K
  refine wpQuiet_step (fun K hK => ?_)
  go_simp
  first | refine hK _ ?_ | refine ⟨_, fun _ _ => rfl, hK _ ?_⟩
  clear hK K
  refine wpQuiet_step (fun K hK => ?_)
  go_simp
  first | refine hK _ ?_ | refine ⟨_, fun _ _ => rfl, hK _ ?_⟩
  clear hK K
  refine wpQuiet_step (fun K hK => ?_)
  refine if_pos_mpr (by kernel_rfl) ⟨.agg #[.int .u64 e21x0, .int .u64 e21x1, .int .u64 e21x2, .int .u64 e21x3, .int .u64 e21x4], fun Y hY => ?_, hK _ ?_⟩
  · obtain ⟨d0, d1, d2, d3, d4⟩ := cells5 (row_below Rg10.out hY)
    go_simp
  clear hK K
  try simp only [Act.put, List.setIfInBounds_toArray, List.set_cons_zero, List.set_cons_succ]
  refine wpQuiet_step (fun K hK => ?_)
  refine if_pos_mpr (by kernel_rfl) ⟨.agg #[.int .u64 e52x0, .int .u64 e52x1, .int .u64 e52x2, .int .u64 e52x3, .int .u64 e52x4], fun Y hY => ?_, hK _ ?_⟩
  · go_simp
    exact (C52.out Y).mono fun e w' hh => ⟨hh.1, hY.trans (hh.2.mono hY.size)⟩
  clear hK K
  try simp only [Act.put, List.setIfInBounds_toArray, List.set_cons_zero, List.set_cons_succ]
  refine wpQuiet_step (fun K hK => ?_)
  refine if_pos_mpr (by kernel_rfl) ⟨.agg #[.int .u64 e14x0, .int .u64 e14x1, .int .u64 e14x2, .int .u64 e14x3, .int .u64 e14x4], fun Y hY => ?_, hK _ ?_⟩
  · obtain ⟨d0, d1, d2, d3, d4⟩ := cells5 (row_below Rg5.out hY)
    go_simp
  clear hK K
  try simp only [Act.put, List.setIfInBounds_toArray, List.set_cons_zero, List.set_cons_succ]
  refine wpQuiet_step (fun K hK => ?_)
  refine if_pos_mpr (by kernel_rfl) ⟨.bool true, fun Y hY => ?_, hK _ ?_⟩
  · go_simp
    exact (C54.out Y).mono fun e w' hh => ⟨hh.1, hY.trans (hh.2.mono hY.size)⟩
  clear hK K
  try simp only [Act.put, List.setIfInBounds_toArray, List.set_cons_zero, List.set_cons_succ]
  refine wpQuiet_step (fun K hK => ?_)
  go_simp
  first | refine hK _ ?_ | refine ⟨_, fun _ _ => rfl, hK _ ?_⟩
  clear hK K
  refine wpQuiet_step (fun K hK => ?_)
  go_simp
  first | refine hK _ ?_ | refine ⟨_, fun _ _ => rfl, hK _ ?_⟩
  clear hK K
  refine wpQuiet_nil ?_
  exact fun W' hb => HH.out W' hb
set_option maxRecDepth 100000 in
set_option maxHeartbeats 8000000 in
theorem invnn_r11 {Q : Exit → Act → World → Prop} {W : World}  {g12 g6_1 g5 g6 g10 g11 : Nat} {e60x0 e60x1 e60x2 e60x3 e60x4 e14x0 e14x1 e14x2 e14x3 e14x4 e16x0 e16x1 e16x2 e16x3 e16x4 e76x0 e76x1 e76x2 e76x3 e76x4 e21x0 e21x1 e21x2 e21x3 e21x4 e24x0 e24x1 e24x2 e24x3 e24x4 e80x0 e80x1 e80x2 e80x3 e80x4 : Int} {c0 c1 c2 c3 c4 c9 c13 c14 c15 c16 c17 c18 c19 c20 c21 c22 c23 c24 c25 c26 c27 c28 c29 c30 c31 c32 c33 c34 c35 c36 c37 c38 c39 c40 c41 c42 c43 c44 c45 c46 c47 c48 c49 c50 c51 c52 c53 c54 c55 c56 c57 c58 c59 c60 c61 c62 c63 c64 c65 c66 c67 c68 c69 c70 c71 c72 c73 c74 c75 c76 c77 c78 c79 c80 c81 c82 c83 c84 c85 : Value}
    (Rg12 : Hid (rowAt W g12 [e60x0, e60x1, e60x2, e60x3, e60x4] 27))
    (Rg6_1 : Hid (rowAt W g6_1 [0, 0, 0, 0, 0] 27))
    (C63 : Hid (∀ w, Calls Try.prog 21 #[.agg #[.int .u64 e60x0, .int .u64 e60x1, .int .u64 e60x2, .int .u64 e60x3, .int .u64 e60x4], .agg #[.int .u64 0, .int .u64 0, .int .u64 0, .int .u64 0, .int .u64 0]] w fun e w' => e = .returned (.bool false) ∧ Below w.heap.size w w'))
    (Rg5 : Hid (rowAt W g5 [e14x0, e14x1, e14x2, e14x3, e14x4] 27))
    (C66 : Hid (∀ w, Calls Try.prog 21 #[.agg #[.int .u64 e14x0, .int .u64 e14x1, .int .u64 e14x2, .int .u64 e14x3, .int .u64 e14x4], .agg #[.int .u64 0, .int .u64 0, .int .u64 0, .int .u64 0, .int .u64 0]] w fun e w' => e = .returned (.bool false) ∧ Below w.heap.size w w'))
    (Rg6 : Hid (rowAt W g6 [e16x0, e16x1, e16x2, e16x3, e16x4] 27))
    (C70 : Hid (∀ w, Calls Try.prog 21 #[.agg #[.int .u64 e16x0, .int .u64 e16x1, .int .u64 e16x2, .int .u64 e16x3, .int .u64 e16x4], .agg #[.int .u64 0, .int .u64 0, .int .u64 0, .int .u64 0, .int .u64 0]] w fun e w' => e = .returned (.bool false) ∧ Below w.heap.size w w'))
    (C76 : Hid (∀ w, Calls Try.prog 26 #[.pointer none, .agg #[.int .u64 e60x0, .int .u64 e60x1, .int .u64 e60x2, .int .u64 e60x3, .int .u64 e60x4]] w fun e w' => e = .returned (.agg #[.int .u64 e76x0, .int .u64 e76x1, .int .u64 e76x2, .int .u64 e76x3, .int .u64 e76x4]) ∧ Below w.heap.size w w'))
    (Rg10 : Hid (rowAt W g10 [e21x0, e21x1, e21x2, e21x3, e21x4] 27))
    (Rg11 : Hid (rowAt W g11 [e24x0, e24x1, e24x2, e24x3, e24x4] 27))
    (C80 : Hid (∀ w, Calls Try.prog 23 #[.pointer none, .agg #[.int .u64 e21x0, .int .u64 e21x1, .int .u64 e21x2, .int .u64 e21x3, .int .u64 e21x4], .agg #[.int .u64 e24x0, .int .u64 e24x1, .int .u64 e24x2, .int .u64 e24x3, .int .u64 e24x4]] w fun e w' => e = .returned (.agg #[.int .u64 e80x0, .int .u64 e80x1, .int .u64 e80x2, .int .u64 e80x3, .int .u64 e80x4]) ∧ Below w.heap.size w w'))
    (C81 : Hid (∀ w, Calls Try.prog 21 #[.agg #[.int .u64 e76x0, .int .u64 e76x1, .int .u64 e76x2, .int .u64 e76x3, .int .u64 e76x4], .agg #[.int .u64 e80x0, .int .u64 e80x1, .int .u64 e80x2, .int .u64 e80x3, .int .u64 e80x4]] w fun e w' => e = .returned (.bool true) ∧ Below w.heap.size w w'))
    (C84 : Hid (∀ w, Calls Try.prog 15 #[] w fun e w' => e = .returned (.bool true) ∧ Below w.heap.size w w'))
    (H : ∀ W', Below W.heap.size W W' → Q .normal ⟨#[c0, c1, c2, c3, .bool true, .pointer (some ⟨g5, 0, none⟩), .pointer (some ⟨g6, 0, none⟩), .pointer none, .pointer (some ⟨g6_1, 0, none⟩), c9, .pointer (some ⟨g10, 0, none⟩), .pointer (some ⟨g11, 0, none⟩), .pointer (some ⟨g12, 0, none⟩), c13, c14, c15, c16, c17, c18, c19, c20, c21, c22, c23, c24, c25, c26, c27, c28, c29, c30, c31, c32, c33, c34, c35, c36, c37, c38, c39, c40, c41, c42, c43, c44, c45, c46, c47, c48, c49, c50, c51, c52, c53, c54, c55, c56, c57, c58, c59, c60, .agg #[.int .u64 e60x0, .int .u64 e60x1, .int .u64 e60x2, .int .u64 e60x3, .int .u64 e60x4], .agg #[.int .u64 0, .int .u64 0, .int .u64 0, .int .u64 0, .int .u64 0], .bool false, .agg #[.int .u64 e14x0, .int .u64 e14x1, .int .u64 e14x2, .int .u64 e14x3, .int .u64 e14x4], .agg #[.int .u64 0, .int .u64 0, .int .u64 0, .int .u64 0, .int .u64 0], .bool false, .bool false, .agg #[.int .u64 e16x0, .int .u64 e16x1, .int .u64 e16x2, .int .u64 e16x3, .int .u64 e16x4], .agg #[.int .u64 0, .int .u64 0, .int .u64 0, .int .u64 0, .int .u64 0], .bool false, .bool false, .bool true, .bool true, .pointer none, .agg #[.int .u64 e60x0, .int .u64 e60x1, .int .u64 e60x2, .int .u64 e60x3, .int .u64 e60x4], .agg #[.int .u64 e76x0, .int .u64 e76x1, .int .u64 e76x2, .int .u64 e76x3, .int .u64 e76x4], .pointer none, .agg #[.int .u64 e21x0, .int .u64 e21x1, .int .u64 e21x2, .int .u64 e21x3, .int .u64 e21x4], .agg #[.int .u64 e24x0, .int .u64 e24x1, .int .u64 e24x2, .int .u64 e24x3, .int .u64 e24x4], .agg #[.int .u64 e80x0, .int .u64 e80x1, .int .u64 e80x2, .int .u64 e80x3, .int .u64 e80x4], .bool true, .bool true, .bool true, .bool true, .bool true], []⟩ W') :
    Code.wp Try.prog rgI11 Q ⟨#[c0, c1, c2, c3, c4, .pointer (some ⟨g5, 0, none⟩), .pointer (some ⟨g6, 0, none⟩), .pointer none, .pointer (some ⟨g6_1, 0, none⟩), c9, .pointer (some ⟨g10, 0, none⟩), .pointer (some ⟨g11, 0, none⟩), .pointer (some ⟨g12, 0, none⟩), c13, c14, c15, c16, c17, c18, c19, c20, c21, c22, c23, c24, c25, c26, c27, c28, c29, c30, c31, c32, c33, c34, c35, c36, c37, c38, c39, c40, c41, c42, c43, c44, c45, c46, c47, c48, c49, c50, c51, c52, c53, c54, c55, c56, c57, c58, c59, c60, c61, c62, c63, c64, c65, c66, c67, c68, c69, c70, c71, c72, c73, c74, c75, c76, c77, c78, c79, c80, c81, c82, c83, c84, c85], []⟩ W := by
  have HH : Hid (∀ W', Below W.heap.size W W' → Q .normal ⟨#[c0, c1, c2, c3, .bool true, .pointer (some ⟨g5, 0, none⟩), .pointer (some ⟨g6, 0, none⟩), .pointer none, .pointer (some ⟨g6_1, 0, none⟩), c9, .pointer (some ⟨g10, 0, none⟩), .pointer (some ⟨g11, 0, none⟩), .pointer (some ⟨g12, 0, none⟩), c13, c14, c15, c16, c17, c18, c19, c20, c21, c22, c23, c24, c25, c26, c27, c28, c29, c30, c31, c32, c33, c34, c35, c36, c37, c38, c39, c40, c41, c42, c43, c44, c45, c46, c47, c48, c49, c50, c51, c52, c53, c54, c55, c56, c57, c58, c59, c60, .agg #[.int .u64 e60x0, .int .u64 e60x1, .int .u64 e60x2, .int .u64 e60x3, .int .u64 e60x4], .agg #[.int .u64 0, .int .u64 0, .int .u64 0, .int .u64 0, .int .u64 0], .bool false, .agg #[.int .u64 e14x0, .int .u64 e14x1, .int .u64 e14x2, .int .u64 e14x3, .int .u64 e14x4], .agg #[.int .u64 0, .int .u64 0, .int .u64 0, .int .u64 0, .int .u64 0], .bool false, .bool false, .agg #[.int .u64 e16x0, .int .u64 e16x1, .int .u64 e16x2, .int .u64 e16x3, .int .u64 e16x4], .agg #[.int .u64 0, .int .u64 0, .int .u64 0, .int .u64 0, .int .u64 0], .bool false, .bool false, .bool true, .bool true, .pointer none, .agg #[.int .u64 e60x0, .int .u64 e60x1, .int .u64 e60x2, .int .u64 e60x3, .int .u64 e60x4], .agg #[.int .u64 e76x0, .int .u64 e76x1, .int .u64 e76x2, .int .u64 e76x3, .int .u64 e76x4], .pointer none, .agg #[.int .u64 e21x0, .int .u64 e21x1, .int .u64 e21x2, .int .u64 e21x3, .int .u64 e21x4], .agg #[.int .u64 e24x0, .int .u64 e24x1, .int .u64 e24x2, .int .u64 e24x3, .int .u64 e24x4], .agg #[.int .u64 e80x0, .int .u64 e80x1, .int .u64 e80x2, .int .u64 e80x3, .int .u64 e80x4], .bool true, .bool true, .bool true, .bool true, .bool true], []⟩ W') := H
  clear H
  conv => arg 2; whnf
  refine wp_region_quiet_in (C := fun Y => Below W.heap.size W Y) (by kernel_rfl) (by kernel_rfl) ((Below.refl _ _).drew) ?_
  refine wpQuiet_step (fun K hK => ?_)
  refine if_pos_mpr (by kernel_rfl) ⟨.agg #[.int .u64 e60x0, .int .u64 e60x1, .int .u64 e60x2, .int .u64 e60x3, .int .u64 e60x4], fun Y hY => ?_, hK _ ?_⟩
  · obtain ⟨d0, d1, d2, d3, d4⟩ := cells5 (row_below Rg12.out hY)
    go_simp
  clear hK K
  try simp only [Act.put, List.setIfInBounds_toArray, List.set_cons_zero, List.set_cons_succ]
  refine wpQuiet_step (fun K hK => ?_)
  refine if_pos_mpr (by kernel_rfl) ⟨.agg #[.int .u64 0, .int .u64 0, .int .u64 0, .int .u64 0, .int .u64 0], fun Y hY => ?_, hK _ ?_⟩
  · obtain ⟨d0, d1, d2, d3, d4⟩ := cells5 (row_below Rg6_1.out hY)
    go_simp
  clear hK K
  try simp only [Act.put, List.setIfInBounds_toArray, List.set_cons_zero, List.set_cons_succ]
  refine wpQuiet_step (fun K hK => ?_)
  refine if_pos_mpr (by kernel_rfl) ⟨.bool false, fun Y hY => ?_, hK _ ?_⟩
  · go_simp
    exact (C63.out Y).mono fun e w' hh => ⟨hh.1, hY.trans (hh.2.mono hY.size)⟩
  clear hK K
  try simp only [Act.put, List.setIfInBounds_toArray, List.set_cons_zero, List.set_cons_succ]
  refine wpQuiet_step (fun K hK => ?_)
  refine if_pos_mpr (by kernel_rfl) ⟨.agg #[.int .u64 e14x0, .int .u64 e14x1, .int .u64 e14x2, .int .u64 e14x3, .int .u64 e14x4], fun Y hY => ?_, hK _ ?_⟩
  · obtain ⟨d0, d1, d2, d3, d4⟩ := cells5 (row_below Rg5.out hY)
    go_simp
  clear hK K
  try simp only [Act.put, List.setIfInBounds_toArray, List.set_cons_zero, List.set_cons_succ]
  refine wpQuiet_step (fun K hK => ?_)
  refine if_pos_mpr (by kernel_rfl) ⟨.agg #[.int .u64 0, .int .u64 0, .int .u64 0, .int .u64 0, .int .u64 0], fun Y hY => ?_, hK _ ?_⟩
  · obtain ⟨d0, d1, d2, d3, d4⟩ := cells5 (row_below Rg6_1.out hY)
    go_simp
  clear hK K
  try simp only [Act.put, List.setIfInBounds_toArray, List.set_cons_zero, List.set_cons_succ]
  refine wpQuiet_step (fun K hK => ?_)
  refine if_pos_mpr (by kernel_rfl) ⟨.bool false, fun Y hY => ?_, hK _ ?_⟩
  · go_simp
    exact (C66.out Y).mono fun e w' hh => ⟨hh.1, hY.trans (hh.2.mono hY.size)⟩
  clear hK K
  try simp only [Act.put, List.setIfInBounds_toArray, List.set_cons_zero, List.set_cons_succ]
  refine wpQuiet_step (fun K hK => ?_)
  go_simp
  first | refine hK _ ?_ | refine ⟨_, fun _ _ => rfl, hK _ ?_⟩
  clear hK K
  refine wpQuiet_step (fun K hK => ?_)
  refine if_pos_mpr (by kernel_rfl) ⟨.agg #[.int .u64 e16x0, .int .u64 e16x1, .int .u64 e16x2, .int .u64 e16x3, .int .u64 e16x4], fun Y hY => ?_, hK _ ?_⟩
  · obtain ⟨d0, d1, d2, d3, d4⟩ := cells5 (row_below Rg6.out hY)
    go_simp
  clear hK K
  try simp only [Act.put, List.setIfInBounds_toArray, List.set_cons_zero, List.set_cons_succ]
  refine wpQuiet_step (fun K hK => ?_)
  refine if_pos_mpr (by kernel_rfl) ⟨.agg #[.int .u64 0, .int .u64 0, .int .u64 0, .int .u64 0, .int .u64 0], fun Y hY => ?_, hK _ ?_⟩
  · obtain ⟨d0, d1, d2, d3, d4⟩ := cells5 (row_below Rg6_1.out hY)
    go_simp
  clear hK K
  try simp only [Act.put, List.setIfInBounds_toArray, List.set_cons_zero, List.set_cons_succ]
  refine wpQuiet_step (fun K hK => ?_)
  refine if_pos_mpr (by kernel_rfl) ⟨.bool false, fun Y hY => ?_, hK _ ?_⟩
  · go_simp
    exact (C70.out Y).mono fun e w' hh => ⟨hh.1, hY.trans (hh.2.mono hY.size)⟩
  clear hK K
  try simp only [Act.put, List.setIfInBounds_toArray, List.set_cons_zero, List.set_cons_succ]
  refine wpQuiet_step (fun K hK => ?_)
  go_simp
  first | refine hK _ ?_ | refine ⟨_, fun _ _ => rfl, hK _ ?_⟩
  clear hK K
  refine wpQuiet_step (fun K hK => ?_)
  go_simp
  first | refine hK _ ?_ | refine ⟨_, fun _ _ => rfl, hK _ ?_⟩
  clear hK K
  refine wpQuiet_step (fun K hK => ?_)
  go_simp
  first | refine hK _ ?_ | refine ⟨_, fun _ _ => rfl, hK _ ?_⟩
  clear hK K
  refine wpQuiet_step (fun K hK => ?_)
  go_simp
  first | refine hK _ ?_ | refine ⟨_, fun _ _ => rfl, hK _ ?_⟩
  clear hK K
  refine wpQuiet_step (fun K hK => ?_)
  refine if_pos_mpr (by kernel_rfl) ⟨.agg #[.int .u64 e60x0, .int .u64 e60x1, .int .u64 e60x2, .int .u64 e60x3, .int .u64 e60x4], fun Y hY => ?_, hK _ ?_⟩
  · obtain ⟨d0, d1, d2, d3, d4⟩ := cells5 (row_below Rg12.out hY)
    go_simp
  clear hK K
  try simp only [Act.put, List.setIfInBounds_toArray, List.set_cons_zero, List.set_cons_succ]
  refine wpQuiet_step (fun K hK => ?_)
  refine if_pos_mpr (by kernel_rfl) ⟨.agg #[.int .u64 e76x0, .int .u64 e76x1, .int .u64 e76x2, .int .u64 e76x3, .int .u64 e76x4], fun Y hY => ?_, hK _ ?_⟩
  · go_simp
    exact (C76.out Y).mono fun e w' hh => ⟨hh.1, hY.trans (hh.2.mono hY.size)⟩
  clear hK K
  try simp only [Act.put, List.setIfInBounds_toArray, List.set_cons_zero, List.set_cons_succ]
  refine wpQuiet_step (fun K hK => ?_)
  go_simp
  first | refine hK _ ?_ | refine ⟨_, fun _ _ => rfl, hK _ ?_⟩
  clear hK K
  refine wpQuiet_step (fun K hK => ?_)
  refine if_pos_mpr (by kernel_rfl) ⟨.agg #[.int .u64 e21x0, .int .u64 e21x1, .int .u64 e21x2, .int .u64 e21x3, .int .u64 e21x4], fun Y hY => ?_, hK _ ?_⟩
  · obtain ⟨d0, d1, d2, d3, d4⟩ := cells5 (row_below Rg10.out hY)
    go_simp
  clear hK K
  try simp only [Act.put, List.setIfInBounds_toArray, List.set_cons_zero, List.set_cons_succ]
  refine wpQuiet_step (fun K hK => ?_)
  refine if_pos_mpr (by kernel_rfl) ⟨.agg #[.int .u64 e24x0, .int .u64 e24x1, .int .u64 e24x2, .int .u64 e24x3, .int .u64 e24x4], fun Y hY => ?_, hK _ ?_⟩
  · obtain ⟨d0, d1, d2, d3, d4⟩ := cells5 (row_below Rg11.out hY)
    go_simp
  clear hK K
  try simp only [Act.put, List.setIfInBounds_toArray, List.set_cons_zero, List.set_cons_succ]
  refine wpQuiet_step (fun K hK => ?_)
  refine if_pos_mpr (by kernel_rfl) ⟨.agg #[.int .u64 e80x0, .int .u64 e80x1, .int .u64 e80x2, .int .u64 e80x3, .int .u64 e80x4], fun Y hY => ?_, hK _ ?_⟩
  · go_simp
    exact (C80.out Y).mono fun e w' hh => ⟨hh.1, hY.trans (hh.2.mono hY.size)⟩
  clear hK K
  try simp only [Act.put, List.setIfInBounds_toArray, List.set_cons_zero, List.set_cons_succ]
  refine wpQuiet_step (fun K hK => ?_)
  refine if_pos_mpr (by kernel_rfl) ⟨.bool true, fun Y hY => ?_, hK _ ?_⟩
  · go_simp
    exact (C81.out Y).mono fun e w' hh => ⟨hh.1, hY.trans (hh.2.mono hY.size)⟩
  clear hK K
  try simp only [Act.put, List.setIfInBounds_toArray, List.set_cons_zero, List.set_cons_succ]
  refine wpQuiet_step (fun K hK => ?_)
  go_simp
  first | refine hK _ ?_ | refine ⟨_, fun _ _ => rfl, hK _ ?_⟩
  clear hK K
  refine wpQuiet_step (fun K hK => ?_)
  go_simp
  first | refine hK _ ?_ | refine ⟨_, fun _ _ => rfl, hK _ ?_⟩
  clear hK K
  refine wpQuiet_step (fun K hK => ?_)
  refine if_pos_mpr (by kernel_rfl) ⟨.bool true, fun Y hY => ?_, hK _ ?_⟩
  · go_simp
    exact (C84.out Y).mono fun e w' hh => ⟨hh.1, hY.trans (hh.2.mono hY.size)⟩
  clear hK K
  try simp only [Act.put, List.setIfInBounds_toArray, List.set_cons_zero, List.set_cons_succ]
  refine wpQuiet_step (fun K hK => ?_)
  go_simp
  first | refine hK _ ?_ | refine ⟨_, fun _ _ => rfl, hK _ ?_⟩
  clear hK K
  refine wpQuiet_step (fun K hK => ?_)
  go_simp
  first | refine hK _ ?_ | refine ⟨_, fun _ _ => rfl, hK _ ?_⟩
  clear hK K
  refine wpQuiet_nil ?_
  exact fun W' hb => HH.out W' hb
set_option maxRecDepth 100000 in
set_option maxHeartbeats 20000000 in
theorem invnn_walk (x y : List Int) (hx : Key32 x) (hy : Key32 y) (HA0 : Hid (¬ (nb x % 2 ^ 255 % P = 0))) (HB0 : Hid (¬ (nb y % 2 ^ 255 % P = 0))) (w : World) :
    Calls Try.prog 7 #[.agg (VI .u8 x), .agg (VI .u8 y)] w fun e w' => e = .returned (.bool true) ∧ Below w.heap.size w w' := by
  have HX : Hid (Key32 x) := hx
  have HY : Hid (Key32 y) := hy
  have hs := bs_start2 w x y
  obtain ⟨W0, hW0⟩ : ∃ W, (w.alloc (.cells (VI .u8 x) 40)).alloc (.cells (VI .u8 y) 40) = W := ⟨_, rfl⟩
  rw [hW0] at hs
  have X0 : Hid (Bs w [(w.heap.size + 1, y), (w.heap.size, x)] [] W0) := hs
  clear hs hx hy
  go_enter Try.func7, Try.ntmps7
  go_wp2_with (with_reducible refine at_list ?_; first | (refine wpList_load_row rfl 40 (.tmp 2) rfl (w.heap.size) rfl 40 (VI .u8 x) (0, 0) _ (X0.out.key (g := w.heap.size) (x := x) (by simp)) Try.underlying40 rfl (HX.out).info ?_))
  obtain ⟨e14x0, e14x1, e14x2, e14x3, e14x4, l14, n14, C14⟩ := dec_f (b := x) HX.out
  have L14 : Hid (Lim [e14x0, e14x1, e14x2, e14x3, e14x4]) := l14
  have N14 : Hid _ := n14
  clear l14 n14
  refine (C14.out _).mono ?_
  rintro e W1 ⟨rfl, hb⟩
  have X1 : Hid (Bs w [(w.heap.size + 1, y), (w.heap.size, x)] [] W1) := X0.out.below hb
  clear hb X0
  go_wp2_with (with_reducible refine at_list ?_; first | (refine wpList_load_row rfl 40 (.tmp 3) rfl (w.heap.size + 1) rfl 40 (VI .u8 y) (0, 0) _ ((X1.out.new [e14x0, e14x1, e14x2, e14x3, e14x4]).key (by simp)) Try.underlying40 rfl (HY.out).info ?_))
  obtain ⟨W2, hW⟩ : ∃ W, (W1.alloc (.cells #[.int .u64 e14x0, .int .u64 e14x1, .int .u64 e14x2, .int .u64 e14x3, .int .u64 e14x4] 27)) = W := ⟨_, rfl⟩
  have hN := (X1.out.new [e14x0, e14x1, e14x2, e14x3, e14x4])
  rw [show (W1.alloc (.cells (VI .u64 [e14x0, e14x1, e14x2, e14x3, e14x4]) 27)) = W2 from hW] at hN
  rw [hW]
  clear hW
  obtain ⟨g5, hg⟩ : ∃ g, W1.heap.size = g := ⟨_, rfl⟩
  rw [hg] at hN
  try simp only [hg]
  clear hg
  have X2 : Hid (Bs w [(w.heap.size + 1, y), (w.heap.size, x)] [(g5, [e14x0, e14x1, e14x2, e14x3, e14x4])] W2) := hN
  clear hN X1
  obtain ⟨e16x0, e16x1, e16x2, e16x3, e16x4, l16, n16, C16⟩ := dec_f (b := y) HY.out
  have L16 : Hid (Lim [e16x0, e16x1, e16x2, e16x3, e16x4]) := l16
  have N16 : Hid _ := n16
  clear l16 n16
  refine (C16.out _).mono ?_
  rintro e W3 ⟨rfl, hb⟩
  have X3 : Hid (Bs w [(w.heap.size + 1, y), (w.heap.size, x)] [(g5, [e14x0, e14x1, e14x2, e14x3, e14x4])] W3) := X2.out.below hb
  clear hb X2
  go_wp2_with (fail)
  obtain ⟨W4, hW⟩ : ∃ W, ((W3.alloc (.cells #[.int .u64 e16x0, .int .u64 e16x1, .int .u64 e16x2, .int .u64 e16x3, .int .u64 e16x4] 27)).alloc (.cells #[.int .u64 0, .int .u64 0, .int .u64 0, .int .u64 0, .int .u64 0] 27)) = W := ⟨_, rfl⟩
  have hN := ((X3.out.new [e16x0, e16x1, e16x2, e16x3, e16x4]).new [0, 0, 0, 0, 0])
  rw [show ((W3.alloc (.cells (VI .u64 [e16x0, e16x1, e16x2, e16x3, e16x4]) 27)).alloc (.cells (VI .u64 [0, 0, 0, 0, 0]) 27)) = W4 from hW] at hN
  rw [size_alloc] at hN
  rw [hW]
  clear hW
  obtain ⟨g6, hg⟩ : ∃ g, W3.heap.size = g := ⟨_, rfl⟩
  rw [hg] at hN
  try simp only [hg]
  clear hg
  have X4 : Hid (Bs w [(w.heap.size + 1, y), (w.heap.size, x)] [(g6 + 1, [0, 0, 0, 0, 0]), (g6, [e16x0, e16x1, e16x2, e16x3, e16x4]), (g5, [e14x0, e14x1, e14x2, e14x3, e14x4])] W4) := hN
  clear hN X3
  obtain ⟨e18x0, e18x1, e18x2, e18x3, e18x4, l18, n18, C18⟩ := dec_f (b := (kk 1)) (kk_key 1 (by decide) (by decide))
  have L18 : Hid (Lim [e18x0, e18x1, e18x2, e18x3, e18x4]) := l18
  have N18 : Hid _ := n18
  clear l18 n18
  refine (C18.out _).mono ?_
  rintro e W5 ⟨rfl, hb⟩
  have X5 : Hid (Bs w [(w.heap.size + 1, y), (w.heap.size, x)] [(g6 + 1, [0, 0, 0, 0, 0]), (g6, [e16x0, e16x1, e16x2, e16x3, e16x4]), (g5, [e14x0, e14x1, e14x2, e14x3, e14x4])] W5) := X4.out.below hb
  clear hb X4
  obtain ⟨c00, c01, c02, c03, c04⟩ := cells5 (X5.out.row (g := g5) (x := [e14x0, e14x1, e14x2, e14x3, e14x4]) (by simp))
  have k0 := X5.out.lt (g := g5) (x := [e14x0, e14x1, e14x2, e14x3, e14x4]) (by simp)
  go_wp2_with (fail)
  clear c00 c01 c02 c03 c04 k0
  obtain ⟨W6, hW⟩ : ∃ W, (W5.alloc (.cells #[.int .u64 e18x0, .int .u64 e18x1, .int .u64 e18x2, .int .u64 e18x3, .int .u64 e18x4] 27)) = W := ⟨_, rfl⟩
  have hN := (X5.out.new [e18x0, e18x1, e18x2, e18x3, e18x4])
  rw [show (W5.alloc (.cells (VI .u64 [e18x0, e18x1, e18x2, e18x3, e18x4]) 27)) = W6 from hW] at hN
  rw [hW]
  clear hW
  obtain ⟨g9, hg⟩ : ∃ g, W5.heap.size = g := ⟨_, rfl⟩
  rw [hg] at hN
  try simp only [hg]
  clear hg
  have X6 : Hid (Bs w [(w.heap.size + 1, y), (w.heap.size, x)] [(g9, [e18x0, e18x1, e18x2, e18x3, e18x4]), (g6 + 1, [0, 0, 0, 0, 0]), (g6, [e16x0, e16x1, e16x2, e16x3, e16x4]), (g5, [e14x0, e14x1, e14x2, e14x3, e14x4])] W6) := hN
  clear hN X5
  obtain ⟨e21x0, e21x1, e21x2, e21x3, e21x4, l21, n21, C21⟩ := invert_f L14.out
  have L21 : Hid (Lim [e21x0, e21x1, e21x2, e21x3, e21x4]) := l21
  have N21 : Hid _ := n21
  clear l21 n21
  refine (C21.out _).mono ?_
  rintro e W7 ⟨rfl, hb⟩
  have X7 : Hid (Bs w [(w.heap.size + 1, y), (w.heap.size, x)] [(g9, [e18x0, e18x1, e18x2, e18x3, e18x4]), (g6 + 1, [0, 0, 0, 0, 0]), (g6, [e16x0, e16x1, e16x2, e16x3, e16x4]), (g5, [e14x0, e14x1, e14x2, e14x3, e14x4])] W7) := X6.out.below hb
  clear hb X6
  obtain ⟨c00, c01, c02, c03, c04⟩ := cells5 (X7.out.row (g := g6) (x := [e16x0, e16x1, e16x2, e16x3, e16x4]) (by simp))
  have k0 := X7.out.lt (g := g6) (x := [e16x0, e16x1, e16x2, e16x3, e16x4]) (by simp)
  go_wp2_with (fail)
  clear c00 c01 c02 c03 c04 k0
  obtain ⟨W8, hW⟩ : ∃ W, (W7.alloc (.cells #[.int .u64 e21x0, .int .u64 e21x1, .int .u64 e21x2, .int .u64 e21x3, .int .u64 e21x4] 27)) = W := ⟨_, rfl⟩
  have hN := (X7.out.new [e21x0, e21x1, e21x2, e21x3, e21x4])
  rw [show (W7.alloc (.cells (VI .u64 [e21x0, e21x1, e21x2, e21x3, e21x4]) 27)) = W8 from hW] at hN
  rw [hW]
  clear hW
  obtain ⟨g10, hg⟩ : ∃ g, W7.heap.size = g := ⟨_, rfl⟩
  rw [hg] at hN
  try simp only [hg]
  clear hg
  have X8 : Hid (Bs w [(w.heap.size + 1, y), (w.heap.size, x)] [(g10, [e21x0, e21x1, e21x2, e21x3, e21x4]), (g9, [e18x0, e18x1, e18x2, e18x3, e18x4]), (g6 + 1, [0, 0, 0, 0, 0]), (g6, [e16x0, e16x1, e16x2, e16x3, e16x4]), (g5, [e14x0, e14x1, e14x2, e14x3, e14x4])] W8) := hN
  clear hN X7
  obtain ⟨e24x0, e24x1, e24x2, e24x3, e24x4, l24, n24, C24⟩ := invert_f L16.out
  have L24 : Hid (Lim [e24x0, e24x1, e24x2, e24x3, e24x4]) := l24
  have N24 : Hid _ := n24
  clear l24 n24
  refine (C24.out _).mono ?_
  rintro e W9 ⟨rfl, hb⟩
  have X9 : Hid (Bs w [(w.heap.size + 1, y), (w.heap.size, x)] [(g10, [e21x0, e21x1, e21x2, e21x3, e21x4]), (g9, [e18x0, e18x1, e18x2, e18x3, e18x4]), (g6 + 1, [0, 0, 0, 0, 0]), (g6, [e16x0, e16x1, e16x2, e16x3, e16x4]), (g5, [e14x0, e14x1, e14x2, e14x3, e14x4])] W9) := X8.out.below hb
  clear hb X8
  go_wp2_with (fail)
  obtain ⟨W10, hW⟩ : ∃ W, (W9.alloc (.cells #[.int .u64 e24x0, .int .u64 e24x1, .int .u64 e24x2, .int .u64 e24x3, .int .u64 e24x4] 27)) = W := ⟨_, rfl⟩
  have hN := (X9.out.new [e24x0, e24x1, e24x2, e24x3, e24x4])
  rw [show (W9.alloc (.cells (VI .u64 [e24x0, e24x1, e24x2, e24x3, e24x4]) 27)) = W10 from hW] at hN
  rw [hW]
  clear hW
  obtain ⟨g11, hg⟩ : ∃ g, W9.heap.size = g := ⟨_, rfl⟩
  rw [hg] at hN
  try simp only [hg]
  clear hg
  have X10 : Hid (Bs w [(w.heap.size + 1, y), (w.heap.size, x)] [(g11, [e24x0, e24x1, e24x2, e24x3, e24x4]), (g10, [e21x0, e21x1, e21x2, e21x3, e21x4]), (g9, [e18x0, e18x1, e18x2, e18x3, e18x4]), (g6 + 1, [0, 0, 0, 0, 0]), (g6, [e16x0, e16x1, e16x2, e16x3, e16x4]), (g5, [e14x0, e14x1, e14x2, e14x3, e14x4])] W10) := hN
  clear hN X9
  have C27 : Hid (∀ w, Calls Try.prog 21 #[.agg #[.int .u64 e14x0, .int .u64 e14x1, .int .u64 e14x2, .int .u64 e14x3, .int .u64 e14x4], .agg #[.int .u64 0, .int .u64 0, .int .u64 0, .int .u64 0, .int .u64 0]] w fun e w' => e = .returned (.bool false) ∧ Below w.heap.size w w') := same_f L14.out (lim_small 0 (by decide) (by decide)) _ (by simp only [decide_eq_true_eq, decide_eq_false_iff_not, num_zero, N14.out, nb_one]; exact HA0.out)
  have C37 : Hid (∀ w, Calls Try.prog 21 #[.agg #[.int .u64 e14x0, .int .u64 e14x1, .int .u64 e14x2, .int .u64 e14x3, .int .u64 e14x4], .agg #[.int .u64 0, .int .u64 0, .int .u64 0, .int .u64 0, .int .u64 0]] w fun e w' => e = .returned (.bool false) ∧ Below w.heap.size w w') := same_f L14.out (lim_small 0 (by decide) (by decide)) _ (by simp only [decide_eq_true_eq, decide_eq_false_iff_not, num_zero, N14.out, nb_one]; exact HA0.out)
  obtain ⟨e43x0, e43x1, e43x2, e43x3, e43x4, l43, n43, C43⟩ := mul_f L14.out L21.out
  have L43 : Hid (Lim [e43x0, e43x1, e43x2, e43x3, e43x4]) := l43
  have N43 : Hid _ := n43
  clear l43 n43
  have C45 : Hid (∀ w, Calls Try.prog 21 #[.agg #[.int .u64 e43x0, .int .u64 e43x1, .int .u64 e43x2, .int .u64 e43x3, .int .u64 e43x4], .agg #[.int .u64 e18x0, .int .u64 e18x1, .int .u64 e18x2, .int .u64 e18x3, .int .u64 e18x4]] w fun e w' => e = .returned (.bool true) ∧ Below w.heap.size w w') := same_f L43.out L18.out _ (by simp only [decide_eq_true_eq, decide_eq_false_iff_not, num_zero, N43.out, N14.out, N21.out, N18.out, nb_one]; exact inv_mul _ (Nat.mod_lt _ (by decide)) HA0.out)
  obtain ⟨e52x0, e52x1, e52x2, e52x3, e52x4, l52, n52, C52⟩ := invert_f L21.out
  have L52 : Hid (Lim [e52x0, e52x1, e52x2, e52x3, e52x4]) := l52
  have N52 : Hid _ := n52
  clear l52 n52
  have C54 : Hid (∀ w, Calls Try.prog 21 #[.agg #[.int .u64 e52x0, .int .u64 e52x1, .int .u64 e52x2, .int .u64 e52x3, .int .u64 e52x4], .agg #[.int .u64 e14x0, .int .u64 e14x1, .int .u64 e14x2, .int .u64 e14x3, .int .u64 e14x4]] w fun e w' => e = .returned (.bool true) ∧ Below w.heap.size w w') := same_f L52.out L14.out _ (by simp only [decide_eq_true_eq, decide_eq_false_iff_not, num_zero, N52.out, N21.out, N14.out, nb_one]; exact inv_inv _ (Nat.mod_lt _ (by decide)))
  refine wp_asI (c' := rgI8) (by kernel_rfl) ?_
  refine invnn_r8  (X10.out.row (g := g5) (x := [e14x0, e14x1, e14x2, e14x3, e14x4]) (by simp)) (X10.out.row (g := g6 + 1) (x := [0, 0, 0, 0, 0]) (by simp)) C27 C37 (X10.out.row (g := g10) (x := [e21x0, e21x1, e21x2, e21x3, e21x4]) (by simp)) C43 (X10.out.row (g := g9) (x := [e18x0, e18x1, e18x2, e18x3, e18x4]) (by simp)) C45 C52 C54 ?_
  intro W11 hb
  have X11 : Hid (Bs w [(w.heap.size + 1, y), (w.heap.size, x)] [(g11, [e24x0, e24x1, e24x2, e24x3, e24x4]), (g10, [e21x0, e21x1, e21x2, e21x3, e21x4]), (g9, [e18x0, e18x1, e18x2, e18x3, e18x4]), (g6 + 1, [0, 0, 0, 0, 0]), (g6, [e16x0, e16x1, e16x2, e16x3, e16x4]), (g5, [e14x0, e14x1, e14x2, e14x3, e14x4])] W11) := X10.out.below hb
  clear hb X10
  obtain ⟨c00, c01, c02, c03, c04⟩ := cells5 (X11.out.row (g := g5) (x := [e14x0, e14x1, e14x2, e14x3, e14x4]) (by simp))
  have k0 := X11.out.lt (g := g5) (x := [e14x0, e14x1, e14x2, e14x3, e14x4]) (by simp)
  obtain ⟨c10, c11, c12, c13, c14⟩ := cells5 (X11.out.row (g := g6) (x := [e16x0, e16x1, e16x2, e16x3, e16x4]) (by simp))
  have k1 := X11.out.lt (g := g6) (x := [e16x0, e16x1, e16x2, e16x3, e16x4]) (by simp)
  go_wp2_with (fail)
  clear c00 c01 c02 c03 c04 k0
  clear c10 c11 c12 c13 c14 k1
  obtain ⟨e60x0, e60x1, e60x2, e60x3, e60x4, l60, n60, C60⟩ := mul_f L14.out L16.out
  have L60 : Hid (Lim [e60x0, e60x1, e60x2, e60x3, e60x4]) := l60
  have N60 : Hid _ := n60
  clear l60 n60
  refine (C60.out _).mono ?_
  rintro e W12 ⟨rfl, hb⟩
  have X12 : Hid (Bs w [(w.heap.size + 1, y), (w.heap.size, x)] [(g11, [e24x0, e24x1, e24x2, e24x3, e24x4]), (g10, [e21x0, e21x1, e21x2, e21x3, e21x4]), (g9, [e18x0, e18x1, e18x2, e18x3, e18x4]), (g6 + 1, [0, 0, 0, 0, 0]), (g6, [e16x0, e16x1, e16x2, e16x3, e16x4]), (g5, [e14x0, e14x1, e14x2, e14x3, e14x4])] W12) := X11.out.below hb
  clear hb X11
  go_wp2_with (fail)
  obtain ⟨W13, hW⟩ : ∃ W, (W12.alloc (.cells #[.int .u64 e60x0, .int .u64 e60x1, .int .u64 e60x2, .int .u64 e60x3, .int .u64 e60x4] 27)) = W := ⟨_, rfl⟩
  have hN := (X12.out.new [e60x0, e60x1, e60x2, e60x3, e60x4])
  rw [show (W12.alloc (.cells (VI .u64 [e60x0, e60x1, e60x2, e60x3, e60x4]) 27)) = W13 from hW] at hN
  rw [hW]
  clear hW
  obtain ⟨g12, hg⟩ : ∃ g, W12.heap.size = g := ⟨_, rfl⟩
  rw [hg] at hN
  try simp only [hg]
  clear hg
  have X13 : Hid (Bs w [(w.heap.size + 1, y), (w.heap.size, x)] [(g12, [e60x0, e60x1, e60x2, e60x3, e60x4]), (g11, [e24x0, e24x1, e24x2, e24x3, e24x4]), (g10, [e21x0, e21x1, e21x2, e21x3, e21x4]), (g9, [e18x0, e18x1, e18x2, e18x3, e18x4]), (g6 + 1, [0, 0, 0, 0, 0]), (g6, [e16x0, e16x1, e16x2, e16x3, e16x4]), (g5, [e14x0, e14x1, e14x2, e14x3, e14x4])] W13) := hN
  clear hN X12
  have C63 : Hid (∀ w, Calls Try.prog 21 #[.agg #[.int .u64 e60x0, .int .u64 e60x1, .int .u64 e60x2, .int .u64 e60x3, .int .u64 e60x4], .agg #[.int .u64 0, .int .u64 0, .int .u64 0, .int .u64 0, .int .u64 0]] w fun e w' => e = .returned (.bool false) ∧ Below w.heap.size w w') := same_f L60.out (lim_small 0 (by decide) (by decide)) _ (by simp only [decide_eq_true_eq, decide_eq_false_iff_not, num_zero, N60.out, N14.out, N16.out, nb_one]; exact fun e => ((mul_zero_iff _ _ (Nat.mod_lt _ (by decide)) (Nat.mod_lt _ (by decide))).1 e).elim HA0.out HB0.out)
  have C66 : Hid (∀ w, Calls Try.prog 21 #[.agg #[.int .u64 e14x0, .int .u64 e14x1, .int .u64 e14x2, .int .u64 e14x3, .int .u64 e14x4], .agg #[.int .u64 0, .int .u64 0, .int .u64 0, .int .u64 0, .int .u64 0]] w fun e w' => e = .returned (.bool false) ∧ Below w.heap.size w w') := same_f L14.out (lim_small 0 (by decide) (by decide)) _ (by simp only [decide_eq_true_eq, decide_eq_false_iff_not, num_zero, N14.out, nb_one]; exact HA0.out)
  have C70 : Hid (∀ w, Calls Try.prog 21 #[.agg #[.int .u64 e16x0, .int .u64 e16x1, .int .u64 e16x2, .int .u64 e16x3, .int .u64 e16x4], .agg #[.int .u64 0, .int .u64 0, .int .u64 0, .int .u64 0, .int .u64 0]] w fun e w' => e = .returned (.bool false) ∧ Below w.heap.size w w') := same_f L16.out (lim_small 0 (by decide) (by decide)) _ (by simp only [decide_eq_true_eq, decide_eq_false_iff_not, num_zero, N16.out, nb_one]; exact HB0.out)
  obtain ⟨e76x0, e76x1, e76x2, e76x3, e76x4, l76, n76, C76⟩ := invert_f L60.out
  have L76 : Hid (Lim [e76x0, e76x1, e76x2, e76x3, e76x4]) := l76
  have N76 : Hid _ := n76
  clear l76 n76
  obtain ⟨e80x0, e80x1, e80x2, e80x3, e80x4, l80, n80, C80⟩ := mul_f L21.out L24.out
  have L80 : Hid (Lim [e80x0, e80x1, e80x2, e80x3, e80x4]) := l80
  have N80 : Hid _ := n80
  clear l80 n80
  have C81 : Hid (∀ w, Calls Try.prog 21 #[.agg #[.int .u64 e76x0, .int .u64 e76x1, .int .u64 e76x2, .int .u64 e76x3, .int .u64 e76x4], .agg #[.int .u64 e80x0, .int .u64 e80x1, .int .u64 e80x2, .int .u64 e80x3, .int .u64 e80x4]] w fun e w' => e = .returned (.bool true) ∧ Below w.heap.size w w') := same_f L76.out L80.out _ (by simp only [decide_eq_true_eq, decide_eq_false_iff_not, num_zero, N76.out, N60.out, N14.out, N16.out, N80.out, N21.out, N24.out, nb_one]; exact inv_prod _ _ (Nat.mod_lt _ (by decide)) (Nat.mod_lt _ (by decide)))
  have C84 : Hid (∀ w, Calls Try.prog 15 #[] w fun e w' => e = .returned (.bool true) ∧ Below w.heap.size w w') := known_any
  refine wp_asI (c' := rgI11) (by kernel_rfl) ?_
  refine invnn_r11  (X13.out.row (g := g12) (x := [e60x0, e60x1, e60x2, e60x3, e60x4]) (by simp)) (X13.out.row (g := g6 + 1) (x := [0, 0, 0, 0, 0]) (by simp)) C63 (X13.out.row (g := g5) (x := [e14x0, e14x1, e14x2, e14x3, e14x4]) (by simp)) C66 (X13.out.row (g := g6) (x := [e16x0, e16x1, e16x2, e16x3, e16x4]) (by simp)) C70 C76 (X13.out.row (g := g10) (x := [e21x0, e21x1, e21x2, e21x3, e21x4]) (by simp)) (X13.out.row (g := g11) (x := [e24x0, e24x1, e24x2, e24x3, e24x4]) (by simp)) C80 C81 C84 ?_
  intro W14 hb
  have X14 : Hid (Bs w [(w.heap.size + 1, y), (w.heap.size, x)] [(g12, [e60x0, e60x1, e60x2, e60x3, e60x4]), (g11, [e24x0, e24x1, e24x2, e24x3, e24x4]), (g10, [e21x0, e21x1, e21x2, e21x3, e21x4]), (g9, [e18x0, e18x1, e18x2, e18x3, e18x4]), (g6 + 1, [0, 0, 0, 0, 0]), (g6, [e16x0, e16x1, e16x2, e16x3, e16x4]), (g5, [e14x0, e14x1, e14x2, e14x3, e14x4])] W14) := X13.out.below hb
  clear hb X13
  go_wp2
  go_ret
  exact ⟨rfl, X14.out.old⟩
end Go.Proofs.Yteimmjdiaophoaa
