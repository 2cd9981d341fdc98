import Derived.Test.YteimmjdiaophoaaFldRing6
namespace Go.Proofs.Yteimmjdiaophoaa
set_option linter.unusedSimpArgs false
set_option linter.unusedVariables false
open Go.ChangeShapes Go.WideShapes Go.ChangeAt Go.RowKit Go.Pin Go.Fld
set_option maxRecDepth 100000 in
set_option maxHeartbeats 8000000 in
theorem ring_r16 {Q : Exit → Act → World → Prop} {W : World} {n : Nat} (HN : Hid (n < 4294967296)) {g9 g17 : Nat} {e19x0 e19x1 e19x2 e19x3 e19x4 e177x0 e177x1 e177x2 e177x3 e177x4 e181x0 e181x1 e181x2 e181x3 e181x4 e182x0 e182x1 e182x2 e182x3 e182x4 : Int} {c0 c1 c2 c4 c5 c6 c7 c8 c10 c11 c13 c14 c15 c16 c18 c19 c20 c21 c22 c23 c24 c25 c26 c27 c28 c29 c30 c31 c32 c33 c34 c35 c36 c37 c38 c39 c40 c41 c42 c43 c44 c45 c46 c47 c48 c49 c50 c51 c52 c53 c54 c55 c56 c57 c58 c59 c60 c61 c62 c63 c64 c65 c66 c67 c68 c69 c70 c71 c72 c73 c74 c75 c76 c77 c78 c79 c80 c81 c82 c83 c84 c85 c86 c87 c88 c89 c90 c91 c92 c93 c94 c95 c96 c97 c98 c99 c100 c101 c102 c103 c104 c105 c106 c107 c108 c109 c110 c111 c112 c113 c114 c115 c116 c117 c118 c119 c120 c121 c122 c123 c124 c125 c126 c127 c128 c129 c130 c131 c132 c133 c134 c135 c136 c137 c138 c139 c140 c141 c142 c143 c144 c145 c146 c147 c148 c149 c150 c151 c152 c153 c154 c155 c156 c157 c158 c159 c160 c161 c162 c163 c164 c165 c166 c167 c168 c169 c170 c171 c172 c173 c174 c175 c176 c177 c178 c179 c180 c181 c182 c183 c184 c185 c186 : Value}
    (Rg9 : Hid (rowAt W g9 [e19x0, e19x1, e19x2, e19x3, e19x4] 27))
    (C177 : Hid (∀ w, Calls Try.prog 25 #[.pointer none, .agg #[.int .u64 e19x0, .int .u64 e19x1, .int .u64 e19x2, .int .u64 e19x3, .int .u64 e19x4], .int .u32 (n : Int)] w fun e w' => e = .returned (.agg #[.int .u64 e177x0, .int .u64 e177x1, .int .u64 e177x2, .int .u64 e177x3, .int .u64 e177x4]) ∧ Below w.heap.size w w'))
    (Rg17 : Hid (rowB W g17 (b4 n) 40))
    (C181 : Hid (∀ w, Calls Try.prog 18 #[.agg (VI .u8 (b4 n))] w fun e w' => e = .returned (.agg #[.int .u64 e181x0, .int .u64 e181x1, .int .u64 e181x2, .int .u64 e181x3, .int .u64 e181x4]) ∧ Below w.heap.size w w'))
    (C182 : Hid (∀ w, Calls Try.prog 23 #[.pointer none, .agg #[.int .u64 e19x0, .int .u64 e19x1, .int .u64 e19x2, .int .u64 e19x3, .int .u64 e19x4], .agg #[.int .u64 e181x0, .int .u64 e181x1, .int .u64 e181x2, .int .u64 e181x3, .int .u64 e181x4]] w fun e w' => e = .returned (.agg #[.int .u64 e182x0, .int .u64 e182x1, .int .u64 e182x2, .int .u64 e182x3, .int .u64 e182x4]) ∧ Below w.heap.size w w'))
    (C183 : Hid (∀ w, Calls Try.prog 21 #[.agg #[.int .u64 e177x0, .int .u64 e177x1, .int .u64 e177x2, .int .u64 e177x3, .int .u64 e177x4], .agg #[.int .u64 e182x0, .int .u64 e182x1, .int .u64 e182x2, .int .u64 e182x3, .int .u64 e182x4]] w fun e w' => e = .returned (.bool true) ∧ Below w.heap.size w w'))
    (C185 : Hid (∀ w, Calls Try.prog 15 #[] w fun e w' => e = .returned (.bool true) ∧ Below w.heap.size w w'))
    (H : ∀ W', Below W.heap.size W W' → Q .normal ⟨#[c0, c1, c2, .int .u32 (n : Int), c4, c5, c6, c7, .bool true, .pointer (some ⟨g9, 0, none⟩), c10, c11, .pointer none, c13, c14, c15, c16, .pointer (some ⟨g17, 0, none⟩), c18, c19, c20, c21, c22, c23, c24, c25, c26, c27, c28, c29, c30, c31, c32, c33, c34, c35, c36, c37, c38, c39, c40, c41, c42, c43, c44, c45, c46, c47, c48, c49, c50, c51, c52, c53, c54, c55, c56, c57, c58, c59, c60, c61, c62, c63, c64, c65, c66, c67, c68, c69, c70, c71, c72, c73, c74, c75, c76, c77, c78, c79, c80, c81, c82, c83, c84, c85, c86, c87, c88, c89, c90, c91, c92, c93, c94, c95, c96, c97, c98, c99, c100, c101, c102, c103, c104, c105, c106, c107, c108, c109, c110, c111, c112, c113, c114, c115, c116, c117, c118, c119, c120, c121, c122, c123, c124, c125, c126, c127, c128, c129, c130, c131, c132, c133, c134, c135, c136, c137, c138, c139, c140, c141, c142, c143, c144, c145, c146, c147, c148, c149, c150, c151, c152, c153, c154, c155, c156, c157, c158, c159, c160, c161, c162, c163, c164, c165, c166, c167, c168, c169, c170, c171, c172, c173, .pointer none, .agg #[.int .u64 e19x0, .int .u64 e19x1, .int .u64 e19x2, .int .u64 e19x3, .int .u64 e19x4], .int .u32 (n : Int), .agg #[.int .u64 e177x0, .int .u64 e177x1, .int .u64 e177x2, .int .u64 e177x3, .int .u64 e177x4], .pointer none, .agg #[.int .u64 e19x0, .int .u64 e19x1, .int .u64 e19x2, .int .u64 e19x3, .int .u64 e19x4], .agg (VI .u8 (b4 n)), .agg #[.int .u64 e181x0, .int .u64 e181x1, .int .u64 e181x2, .int .u64 e181x3, .int .u64 e181x4], .agg #[.int .u64 e182x0, .int .u64 e182x1, .int .u64 e182x2, .int .u64 e182x3, .int .u64 e182x4], .bool true, .bool true, .bool true, .bool true], []⟩ W') :
    Code.wp Try.prog rgR16 Q ⟨#[c0, c1, c2, .int .u32 (n : Int), c4, c5, c6, c7, c8, .pointer (some ⟨g9, 0, none⟩), c10, c11, .pointer none, c13, c14, c15, c16, .pointer (some ⟨g17, 0, none⟩), c18, c19, c20, c21, c22, c23, c24, c25, c26, c27, c28, c29, c30, c31, c32, c33, c34, c35, c36, c37, c38, c39, c40, c41, c42, c43, c44, c45, c46, c47, c48, c49, c50, c51, c52, c53, c54, c55, c56, c57, c58, c59, c60, c61, c62, c63, c64, c65, c66, c67, c68, c69, c70, c71, c72, c73, c74, c75, c76, c77, c78, c79, c80, c81, c82, c83, c84, c85, c86, c87, c88, c89, c90, c91, c92, c93, c94, c95, c96, c97, c98, c99, c100, c101, c102, c103, c104, c105, c106, c107, c108, c109, c110, c111, c112, c113, c114, c115, c116, c117, c118, c119, c120, c121, c122, c123, c124, c125, c126, c127, c128, c129, c130, c131, c132, c133, c134, c135, c136, c137, c138, c139, c140, c141, c142, c143, c144, c145, c146, c147, c148, c149, c150, c151, c152, c153, c154, c155, c156, c157, c158, c159, c160, c161, c162, c163, c164, c165, c166, c167, c168, c169, c170, c171, c172, c173, c174, c175, c176, c177, c178, c179, c180, c181, c182, c183, c184, c185, c186], []⟩ W := by
  have HH : Hid (∀ W', Below W.heap.size W W' → Q .normal ⟨#[c0, c1, c2, .int .u32 (n : Int), c4, c5, c6, c7, .bool true, .pointer (some ⟨g9, 0, none⟩), c10, c11, .pointer none, c13, c14, c15, c16, .pointer (some ⟨g17, 0, none⟩), c18, c19, c20, c21, c22, c23, c24, c25, c26, c27, c28, c29, c30, c31, c32, c33, c34, c35, c36, c37, c38, c39, c40, c41, c42, c43, c44, c45, c46, c47, c48, c49, c50, c51, c52, c53, c54, c55, c56, c57, c58, c59, c60, c61, c62, c63, c64, c65, c66, c67, c68, c69, c70, c71, c72, c73, c74, c75, c76, c77, c78, c79, c80, c81, c82, c83, c84, c85, c86, c87, c88, c89, c90, c91, c92, c93, c94, c95, c96, c97, c98, c99, c100, c101, c102, c103, c104, c105, c106, c107, c108, c109, c110, c111, c112, c113, c114, c115, c116, c117, c118, c119, c120, c121, c122, c123, c124, c125, c126, c127, c128, c129, c130, c131, c132, c133, c134, c135, c136, c137, c138, c139, c140, c141, c142, c143, c144, c145, c146, c147, c148, c149, c150, c151, c152, c153, c154, c155, c156, c157, c158, c159, c160, c161, c162, c163, c164, c165, c166, c167, c168, c169, c170, c171, c172, c173, .pointer none, .agg #[.int .u64 e19x0, .int .u64 e19x1, .int .u64 e19x2, .int .u64 e19x3, .int .u64 e19x4], .int .u32 (n : Int), .agg #[.int .u64 e177x0, .int .u64 e177x1, .int .u64 e177x2, .int .u64 e177x3, .int .u64 e177x4], .pointer none, .agg #[.int .u64 e19x0, .int .u64 e19x1, .int .u64 e19x2, .int .u64 e19x3, .int .u64 e19x4], .agg (VI .u8 (b4 n)), .agg #[.int .u64 e181x0, .int .u64 e181x1, .int .u64 e181x2, .int .u64 e181x3, .int .u64 e181x4], .agg #[.int .u64 e182x0, .int .u64 e182x1, .int .u64 e182x2, .int .u64 e182x3, .int .u64 e182x4], .bool true, .bool true, .bool true, .bool true], []⟩ W') := H
  clear H
  conv => arg 2; whnf
  refine wp_region_quiet_in (C := fun Y => Below W.heap.size W Y) (by kernel_rfl) (by kernel_rfl) ((Below.refl _ _).drew) ?_
  refine wpQuiet_step (fun K hK => ?_)
  go_simp
  first | refine hK _ ?_ | refine ⟨_, fun _ _ => rfl, hK _ ?_⟩
  clear hK K
  refine wpQuiet_step (fun K hK => ?_)
  refine if_pos_mpr (by kernel_rfl) ⟨.agg #[.int .u64 e19x0, .int .u64 e19x1, .int .u64 e19x2, .int .u64 e19x3, .int .u64 e19x4], fun Y hY => ?_, hK _ ?_⟩
  · obtain ⟨d0, d1, d2, d3, d4⟩ := cells5 (row_below Rg9.out hY)
    go_simp
  clear hK K
  try simp only [Act.put, List.setIfInBounds_toArray, List.set_cons_zero, List.set_cons_succ]
  refine wpQuiet_step (fun K hK => ?_)
  go_simp
  first | refine hK _ ?_ | refine ⟨_, fun _ _ => rfl, hK _ ?_⟩
  clear hK K
  refine wpQuiet_step (fun K hK => ?_)
  refine if_pos_mpr (by kernel_rfl) ⟨.agg #[.int .u64 e177x0, .int .u64 e177x1, .int .u64 e177x2, .int .u64 e177x3, .int .u64 e177x4], fun Y hY => ?_, hK _ ?_⟩
  · go_simp
    exact (C177.out Y).mono fun e w' hh => ⟨hh.1, hY.trans (hh.2.mono hY.size)⟩
  clear hK K
  try simp only [Act.put, List.setIfInBounds_toArray, List.set_cons_zero, List.set_cons_succ]
  refine wpQuiet_step (fun K hK => ?_)
  go_simp
  first | refine hK _ ?_ | refine ⟨_, fun _ _ => rfl, hK _ ?_⟩
  clear hK K
  refine wpQuiet_step (fun K hK => ?_)
  refine if_pos_mpr (by kernel_rfl) ⟨.agg #[.int .u64 e19x0, .int .u64 e19x1, .int .u64 e19x2, .int .u64 e19x3, .int .u64 e19x4], fun Y hY => ?_, hK _ ?_⟩
  · obtain ⟨d0, d1, d2, d3, d4⟩ := cells5 (row_below Rg9.out hY)
    go_simp
  clear hK K
  try simp only [Act.put, List.setIfInBounds_toArray, List.set_cons_zero, List.set_cons_succ]
  refine wpQuiet_step (fun K hK => ?_)
  refine if_pos_mpr (by kernel_rfl) ⟨.agg (VI .u8 (b4 n)), fun Y hY => quietAt_load_row 40 (.tmp 17) rfl (g17) rfl 40 (VI .u8 (b4 n)) (0, 0) _ ((hY.block _ (Array.getElem?_eq_some_iff.1 Rg17.out).1).trans Rg17.out) Try.underlying40 rfl ((b4_key n HN.out)).info, hK _ ?_⟩
  clear hK K
  try simp only [Act.put, List.setIfInBounds_toArray, List.set_cons_zero, List.set_cons_succ]
  refine wpQuiet_step (fun K hK => ?_)
  refine if_pos_mpr (by kernel_rfl) ⟨.agg #[.int .u64 e181x0, .int .u64 e181x1, .int .u64 e181x2, .int .u64 e181x3, .int .u64 e181x4], fun Y hY => ?_, hK _ ?_⟩
  · go_simp
    exact (C181.out Y).mono fun e w' hh => ⟨hh.1, hY.trans (hh.2.mono hY.size)⟩
  clear hK K
  try simp only [Act.put, List.setIfInBounds_toArray, List.set_cons_zero, List.set_cons_succ]
  refine wpQuiet_step (fun K hK => ?_)
  refine if_pos_mpr (by kernel_rfl) ⟨.agg #[.int .u64 e182x0, .int .u64 e182x1, .int .u64 e182x2, .int .u64 e182x3, .int .u64 e182x4], fun Y hY => ?_, hK _ ?_⟩
  · go_simp
    exact (C182.out Y).mono fun e w' hh => ⟨hh.1, hY.trans (hh.2.mono hY.size)⟩
  clear hK K
  try simp only [Act.put, List.setIfInBounds_toArray, List.set_cons_zero, List.set_cons_succ]
  refine wpQuiet_step (fun K hK => ?_)
  refine if_pos_mpr (by kernel_rfl) ⟨.bool true, fun Y hY => ?_, hK _ ?_⟩
  · go_simp
    exact (C183.out Y).mono fun e w' hh => ⟨hh.1, hY.trans (hh.2.mono hY.size)⟩
  clear hK K
  try simp only [Act.put, List.setIfInBounds_toArray, List.set_cons_zero, List.set_cons_succ]
  refine wpQuiet_step (fun K hK => ?_)
  go_simp
  first | refine hK _ ?_ | refine ⟨_, fun _ _ => rfl, hK _ ?_⟩
  clear hK K
  refine wpQuiet_step (fun K hK => ?_)
  refine if_pos_mpr (by kernel_rfl) ⟨.bool true, fun Y hY => ?_, hK _ ?_⟩
  · go_simp
    exact (C185.out Y).mono fun e w' hh => ⟨hh.1, hY.trans (hh.2.mono hY.size)⟩
  clear hK K
  try simp only [Act.put, List.setIfInBounds_toArray, List.set_cons_zero, List.set_cons_succ]
  refine wpQuiet_step (fun K hK => ?_)
  go_simp
  first | refine hK _ ?_ | refine ⟨_, fun _ _ => rfl, hK _ ?_⟩
  clear hK K
  refine wpQuiet_step (fun K hK => ?_)
  go_simp
  first | refine hK _ ?_ | refine ⟨_, fun _ _ => rfl, hK _ ?_⟩
  clear hK K
  refine wpQuiet_nil ?_
  exact fun W' hb => HH.out W' hb
end Go.Proofs.Yteimmjdiaophoaa
