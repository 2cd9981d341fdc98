import Derived.Test.YtfeoamkngnpcmaaPrmT
namespace Go.Proofs.Ytfeoamkngnpcmaa
set_option linter.unusedSimpArgs false
set_option linter.unusedVariables false
open Go.ChangeShapes Go.WideShapes Go.ChangeAt Go.RowKit Go.Pin Go.Prm
noncomputable def rgL9 : Code := ((Try.f6.body.bind (findReg 9)).getD .skip)
noncomputable def rgL16 : Code := ((Try.f6.body.bind (findReg 16)).getD .skip)
noncomputable def rgL21 : Code := ((Try.f6.body.bind (findReg 21)).getD .skip)
set_option maxRecDepth 100000 in
set_option maxHeartbeats 8000000 in
theorem laws_r9 {Q : Exit → Act → World → Prop} {W : World}  {ka kb : List Int} {g10 g11 g13 g14 : Nat} {e27x0 e27x1 e27x2 e27x3 e27x4 e30x0 e30x1 e30x2 e30x3 e30x4 e36x0 e36x1 e36x2 e36x3 e36x4 e39x0 e39x1 e39x2 e39x3 e39x4 : Int} {c0 c1 c2 c3 c4 c5 c6 c7 c8 c9 c12 c15 c16 c17 c18 c19 c20 c21 c22 c23 c24 c25 c26 c27 c28 c29 c30 c31 c32 c33 c34 c35 c36 c37 c38 c39 c40 c41 c42 c43 c44 c45 c46 c47 c48 c49 c50 c51 c52 c53 c54 c55 c56 c57 c58 c59 c60 c61 c62 c63 c64 c65 c66 c67 c68 c69 c70 c71 c72 c73 c74 c75 c76 c77 c78 c79 c80 c81 c82 c83 c84 c85 c86 c87 c88 c89 c90 c91 c92 c93 c94 c95 : Value}
    (Rg10 : Hid (rowAt W g10 [e27x0, e27x1, e27x2, e27x3, e27x4] 29))
    (C41 : Hid (∀ w, Calls Try.prog 13 #[.agg #[.int .u64 e27x0, .int .u64 e27x1, .int .u64 e27x2, .int .u64 e27x3, .int .u64 e27x4]] w fun e w' => e = .returned (.agg (VI .u8 ka)) ∧ Below w.heap.size w w'))
    (Rg11 : Hid (rowAt W g11 [e30x0, e30x1, e30x2, e30x3, e30x4] 29))
    (C43 : Hid (∀ w, Calls Try.prog 13 #[.agg #[.int .u64 e30x0, .int .u64 e30x1, .int .u64 e30x2, .int .u64 e30x3, .int .u64 e30x4]] w fun e w' => e = .returned (.agg (VI .u8 ka)) ∧ Below w.heap.size w w'))
    (Q1 : ∀ w, (Op.equalIn 10000 39 (.agg (VI .u8 ka)) (.agg (VI .u8 ka))).run Try.prog w = .ok true w)
    (Rg13 : Hid (rowAt W g13 [e36x0, e36x1, e36x2, e36x3, e36x4] 29))
    (C47 : Hid (∀ w, Calls Try.prog 13 #[.agg #[.int .u64 e36x0, .int .u64 e36x1, .int .u64 e36x2, .int .u64 e36x3, .int .u64 e36x4]] w fun e w' => e = .returned (.agg (VI .u8 kb)) ∧ Below w.heap.size w w'))
    (Rg14 : Hid (rowAt W g14 [e39x0, e39x1, e39x2, e39x3, e39x4] 29))
    (C49 : Hid (∀ w, Calls Try.prog 13 #[.agg #[.int .u64 e39x0, .int .u64 e39x1, .int .u64 e39x2, .int .u64 e39x3, .int .u64 e39x4]] w fun e w' => e = .returned (.agg (VI .u8 kb)) ∧ Below w.heap.size w w'))
    (Q2 : ∀ w, (Op.equalIn 10000 39 (.agg (VI .u8 kb)) (.agg (VI .u8 kb))).run Try.prog w = .ok true w)
    (H : ∀ W', Below W.heap.size W W' → Q .normal ⟨#[c0, c1, c2, c3, c4, c5, c6, c7, c8, c9, .pointer (some ⟨g10, 0, none⟩), .pointer (some ⟨g11, 0, none⟩), c12, .pointer (some ⟨g13, 0, none⟩), .pointer (some ⟨g14, 0, none⟩), c15, c16, c17, c18, c19, c20, c21, c22, c23, c24, c25, c26, c27, c28, c29, c30, c31, c32, c33, c34, c35, c36, c37, c38, c39, .agg #[.int .u64 e27x0, .int .u64 e27x1, .int .u64 e27x2, .int .u64 e27x3, .int .u64 e27x4], .agg (VI .u8 ka), .agg #[.int .u64 e30x0, .int .u64 e30x1, .int .u64 e30x2, .int .u64 e30x3, .int .u64 e30x4], .agg (VI .u8 ka), .bool false, .bool false, .agg #[.int .u64 e36x0, .int .u64 e36x1, .int .u64 e36x2, .int .u64 e36x3, .int .u64 e36x4], .agg (VI .u8 kb), .agg #[.int .u64 e39x0, .int .u64 e39x1, .int .u64 e39x2, .int .u64 e39x3, .int .u64 e39x4], .agg (VI .u8 kb), .bool false, .bool false, c52, c53, c54, c55, c56, c57, c58, c59, c60, c61, c62, c63, c64, c65, c66, c67, c68, c69, c70, c71, c72, c73, c74, c75, c76, c77, c78, c79, c80, c81, c82, c83, c84, c85, c86, c87, c88, c89, c90, c91, c92, c93, c94, c95], []⟩ W') :
    Code.wp Try.prog rgL9 Q ⟨#[c0, c1, c2, c3, c4, c5, c6, c7, c8, c9, .pointer (some ⟨g10, 0, none⟩), .pointer (some ⟨g11, 0, none⟩), c12, .pointer (some ⟨g13, 0, none⟩), .pointer (some ⟨g14, 0, none⟩), c15, c16, c17, c18, c19, c20, c21, c22, c23, c24, c25, c26, c27, c28, c29, c30, c31, c32, c33, c34, c35, c36, c37, c38, c39, c40, c41, c42, c43, c44, c45, c46, c47, c48, c49, c50, c51, c52, c53, c54, c55, c56, c57, c58, c59, c60, c61, c62, c63, c64, c65, c66, c67, c68, c69, c70, c71, c72, c73, c74, c75, c76, c77, c78, c79, c80, c81, c82, c83, c84, c85, c86, c87, c88, c89, c90, c91, c92, c93, c94, c95], []⟩ W := by
  have HH : Hid (∀ W', Below W.heap.size W W' → Q .normal ⟨#[c0, c1, c2, c3, c4, c5, c6, c7, c8, c9, .pointer (some ⟨g10, 0, none⟩), .pointer (some ⟨g11, 0, none⟩), c12, .pointer (some ⟨g13, 0, none⟩), .pointer (some ⟨g14, 0, none⟩), c15, c16, c17, c18, c19, c20, c21, c22, c23, c24, c25, c26, c27, c28, c29, c30, c31, c32, c33, c34, c35, c36, c37, c38, c39, .agg #[.int .u64 e27x0, .int .u64 e27x1, .int .u64 e27x2, .int .u64 e27x3, .int .u64 e27x4], .agg (VI .u8 ka), .agg #[.int .u64 e30x0, .int .u64 e30x1, .int .u64 e30x2, .int .u64 e30x3, .int .u64 e30x4], .agg (VI .u8 ka), .bool false, .bool false, .agg #[.int .u64 e36x0, .int .u64 e36x1, .int .u64 e36x2, .int .u64 e36x3, .int .u64 e36x4], .agg (VI .u8 kb), .agg #[.int .u64 e39x0, .int .u64 e39x1, .int .u64 e39x2, .int .u64 e39x3, .int .u64 e39x4], .agg (VI .u8 kb), .bool false, .bool false, c52, c53, c54, c55, c56, c57, c58, c59, c60, c61, c62, c63, c64, c65, c66, c67, c68, c69, c70, c71, c72, c73, c74, c75, c76, c77, c78, c79, c80, c81, c82, c83, c84, c85, c86, c87, c88, c89, c90, c91, c92, c93, c94, c95], []⟩ W') := H
  clear H
  conv => arg 2; whnf
  refine wp_region_quiet_in (C := fun Y => Below W.heap.size W Y) (by kernel_rfl) (by kernel_rfl) ((Below.refl _ _).drew) ?_
  refine wpQuiet_step (fun K hK => ?_)
  refine if_pos_mpr (by kernel_rfl) ⟨.agg #[.int .u64 e27x0, .int .u64 e27x1, .int .u64 e27x2, .int .u64 e27x3, .int .u64 e27x4], fun Y hY => ?_, hK _ ?_⟩
  · obtain ⟨d0, d1, d2, d3, d4⟩ := cells5 (row_below Rg10.out hY)
    go_simp
  clear hK K
  try simp only [Act.put, List.setIfInBounds_toArray, List.set_cons_zero, List.set_cons_succ]
  refine wpQuiet_step (fun K hK => ?_)
  refine if_pos_mpr (by kernel_rfl) ⟨.agg (VI .u8 ka), fun Y hY => ?_, hK _ ?_⟩
  · go_simp
    exact (C41.out Y).mono fun e w' hh => ⟨hh.1, hY.trans (hh.2.mono hY.size)⟩
  clear hK K
  try simp only [Act.put, List.setIfInBounds_toArray, List.set_cons_zero, List.set_cons_succ]
  refine wpQuiet_step (fun K hK => ?_)
  refine if_pos_mpr (by kernel_rfl) ⟨.agg #[.int .u64 e30x0, .int .u64 e30x1, .int .u64 e30x2, .int .u64 e30x3, .int .u64 e30x4], fun Y hY => ?_, hK _ ?_⟩
  · obtain ⟨d0, d1, d2, d3, d4⟩ := cells5 (row_below Rg11.out hY)
    go_simp
  clear hK K
  try simp only [Act.put, List.setIfInBounds_toArray, List.set_cons_zero, List.set_cons_succ]
  refine wpQuiet_step (fun K hK => ?_)
  refine if_pos_mpr (by kernel_rfl) ⟨.agg (VI .u8 ka), fun Y hY => ?_, hK _ ?_⟩
  · go_simp
    exact (C43.out Y).mono fun e w' hh => ⟨hh.1, hY.trans (hh.2.mono hY.size)⟩
  clear hK K
  try simp only [Act.put, List.setIfInBounds_toArray, List.set_cons_zero, List.set_cons_succ]
  refine wpQuiet_step (fun K hK => ?_)
  go_simp
  first | refine hK _ ?_ | refine ⟨_, fun _ _ => rfl, hK _ ?_⟩
  clear hK K
  refine wpQuiet_step (fun K hK => ?_)
  go_simp
  first | refine hK _ ?_ | refine ⟨_, fun _ _ => rfl, hK _ ?_⟩
  clear hK K
  refine wpQuiet_step (fun K hK => ?_)
  refine if_pos_mpr (by kernel_rfl) ⟨.agg #[.int .u64 e36x0, .int .u64 e36x1, .int .u64 e36x2, .int .u64 e36x3, .int .u64 e36x4], fun Y hY => ?_, hK _ ?_⟩
  · obtain ⟨d0, d1, d2, d3, d4⟩ := cells5 (row_below Rg13.out hY)
    go_simp
  clear hK K
  try simp only [Act.put, List.setIfInBounds_toArray, List.set_cons_zero, List.set_cons_succ]
  refine wpQuiet_step (fun K hK => ?_)
  refine if_pos_mpr (by kernel_rfl) ⟨.agg (VI .u8 kb), fun Y hY => ?_, hK _ ?_⟩
  · go_simp
    exact (C47.out Y).mono fun e w' hh => ⟨hh.1, hY.trans (hh.2.mono hY.size)⟩
  clear hK K
  try simp only [Act.put, List.setIfInBounds_toArray, List.set_cons_zero, List.set_cons_succ]
  refine wpQuiet_step (fun K hK => ?_)
  refine if_pos_mpr (by kernel_rfl) ⟨.agg #[.int .u64 e39x0, .int .u64 e39x1, .int .u64 e39x2, .int .u64 e39x3, .int .u64 e39x4], fun Y hY => ?_, hK _ ?_⟩
  · obtain ⟨d0, d1, d2, d3, d4⟩ := cells5 (row_below Rg14.out hY)
    go_simp
  clear hK K
  try simp only [Act.put, List.setIfInBounds_toArray, List.set_cons_zero, List.set_cons_succ]
  refine wpQuiet_step (fun K hK => ?_)
  refine if_pos_mpr (by kernel_rfl) ⟨.agg (VI .u8 kb), fun Y hY => ?_, hK _ ?_⟩
  · go_simp
    exact (C49.out Y).mono fun e w' hh => ⟨hh.1, hY.trans (hh.2.mono hY.size)⟩
  clear hK K
  try simp only [Act.put, List.setIfInBounds_toArray, List.set_cons_zero, List.set_cons_succ]
  refine wpQuiet_step (fun K hK => ?_)
  go_simp
  first | refine hK _ ?_ | refine ⟨_, fun _ _ => rfl, hK _ ?_⟩
  clear hK K
  refine wpQuiet_step (fun K hK => ?_)
  go_simp
  first | refine hK _ ?_ | refine ⟨_, fun _ _ => rfl, hK _ ?_⟩
  clear hK K
  refine wpQuiet_nil ?_
  exact fun W' hb => HH.out W' hb
end Go.Proofs.Ytfeoamkngnpcmaa
