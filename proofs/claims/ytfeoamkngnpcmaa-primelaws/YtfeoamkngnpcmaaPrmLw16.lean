import Derived.Test.YtfeoamkngnpcmaaPrmLw9
namespace Go.Proofs.Ytfeoamkngnpcmaa
set_option linter.unusedSimpArgs false
set_option linter.unusedVariables false
open Go.ChangeShapes Go.WideShapes Go.ChangeAt Go.RowKit Go.Pin Go.Prm
set_option maxRecDepth 100000 in
set_option maxHeartbeats 8000000 in
theorem laws_r16 {Q : Exit → Act → World → Prop} {W : World}  {kc kd : List Int} {g15 g16 g13 g14 : Nat} {e54x0 e54x1 e54x2 e54x3 e54x4 e57x0 e57x1 e57x2 e57x3 e57x4 e63x0 e63x1 e63x2 e63x3 e63x4 e66x0 e66x1 e66x2 e66x3 e66x4 : Int} {c0 c1 c2 c3 c4 c5 c6 c7 c8 c9 c10 c11 c12 c17 c18 c19 c20 c21 c22 c23 c24 c25 c26 c27 c28 c29 c30 c31 c32 c33 c34 c35 c36 c37 c38 c39 c40 c41 c42 c43 c44 c45 c46 c47 c48 c49 c50 c51 c52 c53 c54 c55 c56 c57 c58 c59 c60 c61 c62 c63 c64 c65 c66 c67 c68 c69 c70 c71 c72 c73 c74 c75 c76 c77 c78 c79 c80 c81 c82 c83 c84 c85 c86 c87 c88 c89 c90 c91 c92 c93 c94 c95 : Value}
    (Rg15 : Hid (rowAt W g15 [e54x0, e54x1, e54x2, e54x3, e54x4] 29))
    (C68 : Hid (∀ w, Calls Try.prog 13 #[.agg #[.int .u64 e54x0, .int .u64 e54x1, .int .u64 e54x2, .int .u64 e54x3, .int .u64 e54x4]] w fun e w' => e = .returned (.agg (VI .u8 kc)) ∧ Below w.heap.size w w'))
    (Rg16 : Hid (rowAt W g16 [e57x0, e57x1, e57x2, e57x3, e57x4] 29))
    (C70 : Hid (∀ w, Calls Try.prog 13 #[.agg #[.int .u64 e57x0, .int .u64 e57x1, .int .u64 e57x2, .int .u64 e57x3, .int .u64 e57x4]] w fun e w' => e = .returned (.agg (VI .u8 kc)) ∧ Below w.heap.size w w'))
    (Q1 : ∀ w, (Op.equalIn 10000 39 (.agg (VI .u8 kc)) (.agg (VI .u8 kc))).run Try.prog w = .ok true w)
    (Rg13 : Hid (rowAt W g13 [e63x0, e63x1, e63x2, e63x3, e63x4] 29))
    (C74 : Hid (∀ w, Calls Try.prog 13 #[.agg #[.int .u64 e63x0, .int .u64 e63x1, .int .u64 e63x2, .int .u64 e63x3, .int .u64 e63x4]] w fun e w' => e = .returned (.agg (VI .u8 kd)) ∧ Below w.heap.size w w'))
    (Rg14 : Hid (rowAt W g14 [e66x0, e66x1, e66x2, e66x3, e66x4] 29))
    (C76 : Hid (∀ w, Calls Try.prog 13 #[.agg #[.int .u64 e66x0, .int .u64 e66x1, .int .u64 e66x2, .int .u64 e66x3, .int .u64 e66x4]] w fun e w' => e = .returned (.agg (VI .u8 kd)) ∧ Below w.heap.size w w'))
    (Q2 : ∀ w, (Op.equalIn 10000 39 (.agg (VI .u8 kd)) (.agg (VI .u8 kd))).run Try.prog w = .ok true w)
    (H : ∀ W', Below W.heap.size W W' → Q .normal ⟨#[c0, c1, c2, c3, c4, c5, c6, c7, c8, c9, c10, c11, c12, .pointer (some ⟨g13, 0, none⟩), .pointer (some ⟨g14, 0, none⟩), .pointer (some ⟨g15, 0, none⟩), .pointer (some ⟨g16, 0, none⟩), c17, c18, c19, c20, c21, c22, c23, c24, c25, c26, c27, c28, c29, c30, c31, c32, c33, c34, c35, c36, c37, c38, c39, c40, c41, c42, c43, c44, c45, c46, c47, c48, c49, c50, c51, c52, c53, c54, c55, c56, c57, c58, c59, c60, c61, c62, c63, c64, c65, c66, .agg #[.int .u64 e54x0, .int .u64 e54x1, .int .u64 e54x2, .int .u64 e54x3, .int .u64 e54x4], .agg (VI .u8 kc), .agg #[.int .u64 e57x0, .int .u64 e57x1, .int .u64 e57x2, .int .u64 e57x3, .int .u64 e57x4], .agg (VI .u8 kc), .bool false, .bool false, .agg #[.int .u64 e63x0, .int .u64 e63x1, .int .u64 e63x2, .int .u64 e63x3, .int .u64 e63x4], .agg (VI .u8 kd), .agg #[.int .u64 e66x0, .int .u64 e66x1, .int .u64 e66x2, .int .u64 e66x3, .int .u64 e66x4], .agg (VI .u8 kd), .bool false, .bool false, c79, c80, c81, c82, c83, c84, c85, c86, c87, c88, c89, c90, c91, c92, c93, c94, c95], []⟩ W') :
    Code.wp Try.prog rgL16 Q ⟨#[c0, c1, c2, c3, c4, c5, c6, c7, c8, c9, c10, c11, c12, .pointer (some ⟨g13, 0, none⟩), .pointer (some ⟨g14, 0, none⟩), .pointer (some ⟨g15, 0, none⟩), .pointer (some ⟨g16, 0, none⟩), c17, c18, c19, c20, c21, c22, c23, c24, c25, c26, c27, c28, c29, c30, c31, c32, c33, c34, c35, c36, c37, c38, c39, c40, c41, c42, c43, c44, c45, c46, c47, c48, c49, c50, c51, c52, c53, c54, c55, c56, c57, c58, c59, c60, c61, c62, c63, c64, c65, c66, c67, c68, c69, c70, c71, c72, c73, c74, c75, c76, c77, c78, c79, c80, c81, c82, c83, c84, c85, c86, c87, c88, c89, c90, c91, c92, c93, c94, c95], []⟩ W := by
  have HH : Hid (∀ W', Below W.heap.size W W' → Q .normal ⟨#[c0, c1, c2, c3, c4, c5, c6, c7, c8, c9, c10, c11, c12, .pointer (some ⟨g13, 0, none⟩), .pointer (some ⟨g14, 0, none⟩), .pointer (some ⟨g15, 0, none⟩), .pointer (some ⟨g16, 0, none⟩), c17, c18, c19, c20, c21, c22, c23, c24, c25, c26, c27, c28, c29, c30, c31, c32, c33, c34, c35, c36, c37, c38, c39, c40, c41, c42, c43, c44, c45, c46, c47, c48, c49, c50, c51, c52, c53, c54, c55, c56, c57, c58, c59, c60, c61, c62, c63, c64, c65, c66, .agg #[.int .u64 e54x0, .int .u64 e54x1, .int .u64 e54x2, .int .u64 e54x3, .int .u64 e54x4], .agg (VI .u8 kc), .agg #[.int .u64 e57x0, .int .u64 e57x1, .int .u64 e57x2, .int .u64 e57x3, .int .u64 e57x4], .agg (VI .u8 kc), .bool false, .bool false, .agg #[.int .u64 e63x0, .int .u64 e63x1, .int .u64 e63x2, .int .u64 e63x3, .int .u64 e63x4], .agg (VI .u8 kd), .agg #[.int .u64 e66x0, .int .u64 e66x1, .int .u64 e66x2, .int .u64 e66x3, .int .u64 e66x4], .agg (VI .u8 kd), .bool false, .bool false, c79, c80, c81, c82, c83, c84, c85, c86, c87, c88, c89, c90, c91, c92, c93, c94, c95], []⟩ W') := H
  clear H
  conv => arg 2; whnf
  refine wp_region_quiet_in (C := fun Y => Below W.heap.size W Y) (by kernel_rfl) (by kernel_rfl) ((Below.refl _ _).drew) ?_
  refine wpQuiet_step (fun K hK => ?_)
  refine if_pos_mpr (by kernel_rfl) ⟨.agg #[.int .u64 e54x0, .int .u64 e54x1, .int .u64 e54x2, .int .u64 e54x3, .int .u64 e54x4], fun Y hY => ?_, hK _ ?_⟩
  · obtain ⟨d0, d1, d2, d3, d4⟩ := cells5 (row_below Rg15.out hY)
    go_simp
  clear hK K
  try simp only [Act.put, List.setIfInBounds_toArray, List.set_cons_zero, List.set_cons_succ]
  refine wpQuiet_step (fun K hK => ?_)
  refine if_pos_mpr (by kernel_rfl) ⟨.agg (VI .u8 kc), fun Y hY => ?_, hK _ ?_⟩
  · go_simp
    exact (C68.out Y).mono fun e w' hh => ⟨hh.1, hY.trans (hh.2.mono hY.size)⟩
  clear hK K
  try simp only [Act.put, List.setIfInBounds_toArray, List.set_cons_zero, List.set_cons_succ]
  refine wpQuiet_step (fun K hK => ?_)
  refine if_pos_mpr (by kernel_rfl) ⟨.agg #[.int .u64 e57x0, .int .u64 e57x1, .int .u64 e57x2, .int .u64 e57x3, .int .u64 e57x4], fun Y hY => ?_, hK _ ?_⟩
  · obtain ⟨d0, d1, d2, d3, d4⟩ := cells5 (row_below Rg16.out hY)
    go_simp
  clear hK K
  try simp only [Act.put, List.setIfInBounds_toArray, List.set_cons_zero, List.set_cons_succ]
  refine wpQuiet_step (fun K hK => ?_)
  refine if_pos_mpr (by kernel_rfl) ⟨.agg (VI .u8 kc), fun Y hY => ?_, hK _ ?_⟩
  · go_simp
    exact (C70.out Y).mono fun e w' hh => ⟨hh.1, hY.trans (hh.2.mono hY.size)⟩
  clear hK K
  try simp only [Act.put, List.setIfInBounds_toArray, List.set_cons_zero, List.set_cons_succ]
  refine wpQuiet_step (fun K hK => ?_)
  go_simp
  first | refine hK _ ?_ | refine ⟨_, fun _ _ => rfl, hK _ ?_⟩
  clear hK K
  refine wpQuiet_step (fun K hK => ?_)
  go_simp
  first | refine hK _ ?_ | refine ⟨_, fun _ _ => rfl, hK _ ?_⟩
  clear hK K
  refine wpQuiet_step (fun K hK => ?_)
  refine if_pos_mpr (by kernel_rfl) ⟨.agg #[.int .u64 e63x0, .int .u64 e63x1, .int .u64 e63x2, .int .u64 e63x3, .int .u64 e63x4], fun Y hY => ?_, hK _ ?_⟩
  · obtain ⟨d0, d1, d2, d3, d4⟩ := cells5 (row_below Rg13.out hY)
    go_simp
  clear hK K
  try simp only [Act.put, List.setIfInBounds_toArray, List.set_cons_zero, List.set_cons_succ]
  refine wpQuiet_step (fun K hK => ?_)
  refine if_pos_mpr (by kernel_rfl) ⟨.agg (VI .u8 kd), fun Y hY => ?_, hK _ ?_⟩
  · go_simp
    exact (C74.out Y).mono fun e w' hh => ⟨hh.1, hY.trans (hh.2.mono hY.size)⟩
  clear hK K
  try simp only [Act.put, List.setIfInBounds_toArray, List.set_cons_zero, List.set_cons_succ]
  refine wpQuiet_step (fun K hK => ?_)
  refine if_pos_mpr (by kernel_rfl) ⟨.agg #[.int .u64 e66x0, .int .u64 e66x1, .int .u64 e66x2, .int .u64 e66x3, .int .u64 e66x4], fun Y hY => ?_, hK _ ?_⟩
  · obtain ⟨d0, d1, d2, d3, d4⟩ := cells5 (row_below Rg14.out hY)
    go_simp
  clear hK K
  try simp only [Act.put, List.setIfInBounds_toArray, List.set_cons_zero, List.set_cons_succ]
  refine wpQuiet_step (fun K hK => ?_)
  refine if_pos_mpr (by kernel_rfl) ⟨.agg (VI .u8 kd), fun Y hY => ?_, hK _ ?_⟩
  · go_simp
    exact (C76.out Y).mono fun e w' hh => ⟨hh.1, hY.trans (hh.2.mono hY.size)⟩
  clear hK K
  try simp only [Act.put, List.setIfInBounds_toArray, List.set_cons_zero, List.set_cons_succ]
  refine wpQuiet_step (fun K hK => ?_)
  go_simp
  first | refine hK _ ?_ | refine ⟨_, fun _ _ => rfl, hK _ ?_⟩
  clear hK K
  refine wpQuiet_step (fun K hK => ?_)
  go_simp
  first | refine hK _ ?_ | refine ⟨_, fun _ _ => rfl, hK _ ?_⟩
  clear hK K
  refine wpQuiet_nil ?_
  exact fun W' hb => HH.out W' hb
end Go.Proofs.Ytfeoamkngnpcmaa
