import Derived.Test.YtfeoamkngnpcmaaPrmLw9
namespace Go.Proofs.Ytfeoamkngnpcmaa
set_option linter.unusedSimpArgs false
set_option linter.unusedVariables false
open Go.ChangeShapes Go.WideShapes Go.ChangeAt Go.RowKit Go.Pin Go.Prm
set_option maxRecDepth 100000 in
set_option maxHeartbeats 8000000 in
theorem laws_r21 {Q : Exit → Act → World → Prop} {W : World}  {ke : List Int} {g13 g14 : Nat} {e84x0 e84x1 e84x2 e84x3 e84x4 e87x0 e87x1 e87x2 e87x3 e87x4 : Int} {c0 c1 c2 c3 c4 c5 c6 c7 c8 c9 c10 c11 c12 c15 c16 c17 c18 c19 c20 c21 c22 c23 c24 c25 c26 c27 c28 c29 c30 c31 c32 c33 c34 c35 c36 c37 c38 c39 c40 c41 c42 c43 c44 c45 c46 c47 c48 c49 c50 c51 c52 c53 c54 c55 c56 c57 c58 c59 c60 c61 c62 c63 c64 c65 c66 c67 c68 c69 c70 c71 c72 c73 c74 c75 c76 c77 c78 c79 c80 c81 c82 c83 c84 c85 c86 c87 c88 c89 c90 c91 c92 c93 c94 c95 : Value}
    (Rg13 : Hid (rowAt W g13 [e84x0, e84x1, e84x2, e84x3, e84x4] 29))
    (C89 : Hid (∀ w, Calls Try.prog 13 #[.agg #[.int .u64 e84x0, .int .u64 e84x1, .int .u64 e84x2, .int .u64 e84x3, .int .u64 e84x4]] w fun e w' => e = .returned (.agg (VI .u8 ke)) ∧ Below w.heap.size w w'))
    (Rg14 : Hid (rowAt W g14 [e87x0, e87x1, e87x2, e87x3, e87x4] 29))
    (C91 : Hid (∀ w, Calls Try.prog 13 #[.agg #[.int .u64 e87x0, .int .u64 e87x1, .int .u64 e87x2, .int .u64 e87x3, .int .u64 e87x4]] w fun e w' => e = .returned (.agg (VI .u8 ke)) ∧ Below w.heap.size w w'))
    (Q1 : ∀ w, (Op.equalIn 10000 39 (.agg (VI .u8 ke)) (.agg (VI .u8 ke))).run Try.prog w = .ok true w)
    (C94 : Hid (∀ w, Calls Try.prog 12 #[] w fun e w' => e = .returned (.bool true) ∧ Below w.heap.size w w'))
    (H : ∀ W', Below W.heap.size W W' → Q .normal ⟨#[c0, c1, c2, c3, c4, c5, .bool true, c7, c8, c9, c10, c11, c12, .pointer (some ⟨g13, 0, none⟩), .pointer (some ⟨g14, 0, none⟩), c15, c16, c17, c18, c19, c20, c21, c22, c23, c24, c25, c26, c27, c28, c29, c30, c31, c32, c33, c34, c35, c36, c37, c38, c39, c40, c41, c42, c43, c44, c45, c46, c47, c48, c49, c50, c51, c52, c53, c54, c55, c56, c57, c58, c59, c60, c61, c62, c63, c64, c65, c66, c67, c68, c69, c70, c71, c72, c73, c74, c75, c76, c77, c78, c79, c80, c81, c82, c83, c84, c85, c86, c87, .agg #[.int .u64 e84x0, .int .u64 e84x1, .int .u64 e84x2, .int .u64 e84x3, .int .u64 e84x4], .agg (VI .u8 ke), .agg #[.int .u64 e87x0, .int .u64 e87x1, .int .u64 e87x2, .int .u64 e87x3, .int .u64 e87x4], .agg (VI .u8 ke), .bool true, .bool true, .bool true, .bool true], []⟩ W') :
    Code.wp Try.prog rgL21 Q ⟨#[c0, c1, c2, c3, c4, c5, c6, c7, c8, c9, c10, c11, c12, .pointer (some ⟨g13, 0, none⟩), .pointer (some ⟨g14, 0, none⟩), c15, c16, c17, c18, c19, c20, c21, c22, c23, c24, c25, c26, c27, c28, c29, c30, c31, c32, c33, c34, c35, c36, c37, c38, c39, c40, c41, c42, c43, c44, c45, c46, c47, c48, c49, c50, c51, c52, c53, c54, c55, c56, c57, c58, c59, c60, c61, c62, c63, c64, c65, c66, c67, c68, c69, c70, c71, c72, c73, c74, c75, c76, c77, c78, c79, c80, c81, c82, c83, c84, c85, c86, c87, c88, c89, c90, c91, c92, c93, c94, c95], []⟩ W := by
  have HH : Hid (∀ W', Below W.heap.size W W' → Q .normal ⟨#[c0, c1, c2, c3, c4, c5, .bool true, c7, c8, c9, c10, c11, c12, .pointer (some ⟨g13, 0, none⟩), .pointer (some ⟨g14, 0, none⟩), c15, c16, c17, c18, c19, c20, c21, c22, c23, c24, c25, c26, c27, c28, c29, c30, c31, c32, c33, c34, c35, c36, c37, c38, c39, c40, c41, c42, c43, c44, c45, c46, c47, c48, c49, c50, c51, c52, c53, c54, c55, c56, c57, c58, c59, c60, c61, c62, c63, c64, c65, c66, c67, c68, c69, c70, c71, c72, c73, c74, c75, c76, c77, c78, c79, c80, c81, c82, c83, c84, c85, c86, c87, .agg #[.int .u64 e84x0, .int .u64 e84x1, .int .u64 e84x2, .int .u64 e84x3, .int .u64 e84x4], .agg (VI .u8 ke), .agg #[.int .u64 e87x0, .int .u64 e87x1, .int .u64 e87x2, .int .u64 e87x3, .int .u64 e87x4], .agg (VI .u8 ke), .bool true, .bool true, .bool true, .bool true], []⟩ W') := H
  clear H
  conv => arg 2; whnf
  refine wp_region_quiet_in (C := fun Y => Below W.heap.size W Y) (by kernel_rfl) (by kernel_rfl) ((Below.refl _ _).drew) ?_
  refine wpQuiet_step (fun K hK => ?_)
  refine if_pos_mpr (by kernel_rfl) ⟨.agg #[.int .u64 e84x0, .int .u64 e84x1, .int .u64 e84x2, .int .u64 e84x3, .int .u64 e84x4], fun Y hY => ?_, hK _ ?_⟩
  · obtain ⟨d0, d1, d2, d3, d4⟩ := cells5 (row_below Rg13.out hY)
    go_simp
  clear hK K
  try simp only [Act.put, List.setIfInBounds_toArray, List.set_cons_zero, List.set_cons_succ]
  refine wpQuiet_step (fun K hK => ?_)
  refine if_pos_mpr (by kernel_rfl) ⟨.agg (VI .u8 ke), fun Y hY => ?_, hK _ ?_⟩
  · go_simp
    exact (C89.out Y).mono fun e w' hh => ⟨hh.1, hY.trans (hh.2.mono hY.size)⟩
  clear hK K
  try simp only [Act.put, List.setIfInBounds_toArray, List.set_cons_zero, List.set_cons_succ]
  refine wpQuiet_step (fun K hK => ?_)
  refine if_pos_mpr (by kernel_rfl) ⟨.agg #[.int .u64 e87x0, .int .u64 e87x1, .int .u64 e87x2, .int .u64 e87x3, .int .u64 e87x4], fun Y hY => ?_, hK _ ?_⟩
  · obtain ⟨d0, d1, d2, d3, d4⟩ := cells5 (row_below Rg14.out hY)
    go_simp
  clear hK K
  try simp only [Act.put, List.setIfInBounds_toArray, List.set_cons_zero, List.set_cons_succ]
  refine wpQuiet_step (fun K hK => ?_)
  refine if_pos_mpr (by kernel_rfl) ⟨.agg (VI .u8 ke), fun Y hY => ?_, hK _ ?_⟩
  · go_simp
    exact (C91.out Y).mono fun e w' hh => ⟨hh.1, hY.trans (hh.2.mono hY.size)⟩
  clear hK K
  try simp only [Act.put, List.setIfInBounds_toArray, List.set_cons_zero, List.set_cons_succ]
  refine wpQuiet_step (fun K hK => ?_)
  go_simp
  first | refine hK _ ?_ | refine ⟨_, fun _ _ => rfl, hK _ ?_⟩
  clear hK K
  refine wpQuiet_step (fun K hK => ?_)
  go_simp
  first | refine hK _ ?_ | refine ⟨_, fun _ _ => rfl, hK _ ?_⟩
  clear hK K
  refine wpQuiet_step (fun K hK => ?_)
  refine if_pos_mpr (by kernel_rfl) ⟨.bool true, fun Y hY => ?_, hK _ ?_⟩
  · go_simp
    exact (C94.out Y).mono fun e w' hh => ⟨hh.1, hY.trans (hh.2.mono hY.size)⟩
  clear hK K
  try simp only [Act.put, List.setIfInBounds_toArray, List.set_cons_zero, List.set_cons_succ]
  refine wpQuiet_step (fun K hK => ?_)
  go_simp
  first | refine hK _ ?_ | refine ⟨_, fun _ _ => rfl, hK _ ?_⟩
  clear hK K
  refine wpQuiet_step (fun K hK => ?_)
  go_simp
  first | refine hK _ ?_ | refine ⟨_, fun _ _ => rfl, hK _ ?_⟩
  clear hK K
  refine wpQuiet_nil ?_
  exact fun W' hb => HH.out W' hb
end Go.Proofs.Ytfeoamkngnpcmaa
