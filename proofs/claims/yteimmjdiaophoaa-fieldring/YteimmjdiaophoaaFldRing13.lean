import Derived.Test.YteimmjdiaophoaaFldRing6
namespace Go.Proofs.Yteimmjdiaophoaa
set_option linter.unusedSimpArgs false
set_option linter.unusedVariables false
open Go.ChangeShapes Go.WideShapes Go.ChangeAt Go.RowKit Go.Pin Go.Fld
set_option maxRecDepth 100000 in
set_option maxHeartbeats 8000000 in
theorem ring_r13 {Q : Exit → Act → World → Prop} {W : World} {n : Nat} (HN : Hid (n < 4294967296)) {g9 g15 g16 : Nat} {e19x0 e19x1 e19x2 e19x3 e19x4 e120x0 e120x1 e120x2 e120x3 e120x4 e116x0 e116x1 e116x2 e116x3 e116x4 e128x0 e128x1 e128x2 e128x3 e128x4 e137x0 e137x1 e137x2 e137x3 e137x4 e146x0 e146x1 e146x2 e146x3 e146x4 e154x0 e154x1 e154x2 e154x3 e154x4 e158x0 e158x1 e158x2 e158x3 e158x4 : Int} {c0 c1 c2 c3 c4 c5 c6 c7 c8 c10 c11 c13 c14 c17 c18 c19 c20 c21 c22 c23 c24 c25 c26 c27 c28 c29 c30 c31 c32 c33 c34 c35 c36 c37 c38 c39 c40 c41 c42 c43 c44 c45 c46 c47 c48 c49 c50 c51 c52 c53 c54 c55 c56 c57 c58 c59 c60 c61 c62 c63 c64 c65 c66 c67 c68 c69 c70 c71 c72 c73 c74 c75 c76 c77 c78 c79 c80 c81 c82 c83 c84 c85 c86 c87 c88 c89 c90 c91 c92 c93 c94 c95 c96 c97 c98 c99 c100 c101 c102 c103 c104 c105 c106 c107 c108 c109 c110 c111 c112 c113 c114 c115 c116 c117 c118 c119 c120 c121 c122 c123 c124 c125 c126 c127 c128 c129 c130 c131 c132 c133 c134 c135 c136 c137 c138 c139 c140 c141 c142 c143 c144 c145 c146 c147 c148 c149 c150 c151 c152 c153 c154 c155 c156 c157 c158 c159 c160 c161 c162 c163 c164 c165 c166 c167 c168 c169 c170 c171 c172 c173 c174 c175 c176 c177 c178 c179 c180 c181 c182 c183 c184 c185 c186 : Value}
    (Rg9 : Hid (rowAt W g9 [e19x0, e19x1, e19x2, e19x3, e19x4] 27))
    (Rg15 : Hid (rowAt W g15 [0, 0, 0, 0, 0] 27))
    (C120 : Hid (∀ w, Calls Try.prog 20 #[.pointer none, .agg #[.int .u64 e19x0, .int .u64 e19x1, .int .u64 e19x2, .int .u64 e19x3, .int .u64 e19x4], .agg #[.int .u64 0, .int .u64 0, .int .u64 0, .int .u64 0, .int .u64 0]] w fun e w' => e = .returned (.agg #[.int .u64 e120x0, .int .u64 e120x1, .int .u64 e120x2, .int .u64 e120x3, .int .u64 e120x4]) ∧ Below w.heap.size w w'))
    (C122 : Hid (∀ w, Calls Try.prog 21 #[.agg #[.int .u64 e120x0, .int .u64 e120x1, .int .u64 e120x2, .int .u64 e120x3, .int .u64 e120x4], .agg #[.int .u64 e19x0, .int .u64 e19x1, .int .u64 e19x2, .int .u64 e19x3, .int .u64 e19x4]] w fun e w' => e = .returned (.bool true) ∧ Below w.heap.size w w'))
    (Rg16 : Hid (rowAt W g16 [e116x0, e116x1, e116x2, e116x3, e116x4] 27))
    (C128 : Hid (∀ w, Calls Try.prog 23 #[.pointer none, .agg #[.int .u64 e19x0, .int .u64 e19x1, .int .u64 e19x2, .int .u64 e19x3, .int .u64 e19x4], .agg #[.int .u64 e116x0, .int .u64 e116x1, .int .u64 e116x2, .int .u64 e116x3, .int .u64 e116x4]] w fun e w' => e = .returned (.agg #[.int .u64 e128x0, .int .u64 e128x1, .int .u64 e128x2, .int .u64 e128x3, .int .u64 e128x4]) ∧ Below w.heap.size w w'))
    (C130 : Hid (∀ w, Calls Try.prog 21 #[.agg #[.int .u64 e128x0, .int .u64 e128x1, .int .u64 e128x2, .int .u64 e128x3, .int .u64 e128x4], .agg #[.int .u64 e19x0, .int .u64 e19x1, .int .u64 e19x2, .int .u64 e19x3, .int .u64 e19x4]] w fun e w' => e = .returned (.bool true) ∧ Below w.heap.size w w'))
    (C137 : Hid (∀ w, Calls Try.prog 23 #[.pointer none, .agg #[.int .u64 e19x0, .int .u64 e19x1, .int .u64 e19x2, .int .u64 e19x3, .int .u64 e19x4], .agg #[.int .u64 0, .int .u64 0, .int .u64 0, .int .u64 0, .int .u64 0]] w fun e w' => e = .returned (.agg #[.int .u64 e137x0, .int .u64 e137x1, .int .u64 e137x2, .int .u64 e137x3, .int .u64 e137x4]) ∧ Below w.heap.size w w'))
    (C139 : Hid (∀ w, Calls Try.prog 21 #[.agg #[.int .u64 e137x0, .int .u64 e137x1, .int .u64 e137x2, .int .u64 e137x3, .int .u64 e137x4], .agg #[.int .u64 0, .int .u64 0, .int .u64 0, .int .u64 0, .int .u64 0]] w fun e w' => e = .returned (.bool true) ∧ Below w.heap.size w w'))
    (C146 : Hid (∀ w, Calls Try.prog 22 #[.pointer none, .agg #[.int .u64 e19x0, .int .u64 e19x1, .int .u64 e19x2, .int .u64 e19x3, .int .u64 e19x4], .agg #[.int .u64 e19x0, .int .u64 e19x1, .int .u64 e19x2, .int .u64 e19x3, .int .u64 e19x4]] w fun e w' => e = .returned (.agg #[.int .u64 e146x0, .int .u64 e146x1, .int .u64 e146x2, .int .u64 e146x3, .int .u64 e146x4]) ∧ Below w.heap.size w w'))
    (C148 : Hid (∀ w, Calls Try.prog 21 #[.agg #[.int .u64 e146x0, .int .u64 e146x1, .int .u64 e146x2, .int .u64 e146x3, .int .u64 e146x4], .agg #[.int .u64 0, .int .u64 0, .int .u64 0, .int .u64 0, .int .u64 0]] w fun e w' => e = .returned (.bool true) ∧ Below w.heap.size w w'))
    (C154 : Hid (∀ w, Calls Try.prog 24 #[.pointer none, .agg #[.int .u64 e19x0, .int .u64 e19x1, .int .u64 e19x2, .int .u64 e19x3, .int .u64 e19x4]] w fun e w' => e = .returned (.agg #[.int .u64 e154x0, .int .u64 e154x1, .int .u64 e154x2, .int .u64 e154x3, .int .u64 e154x4]) ∧ Below w.heap.size w w'))
    (C158 : Hid (∀ w, Calls Try.prog 23 #[.pointer none, .agg #[.int .u64 e19x0, .int .u64 e19x1, .int .u64 e19x2, .int .u64 e19x3, .int .u64 e19x4], .agg #[.int .u64 e19x0, .int .u64 e19x1, .int .u64 e19x2, .int .u64 e19x3, .int .u64 e19x4]] w fun e w' => e = .returned (.agg #[.int .u64 e158x0, .int .u64 e158x1, .int .u64 e158x2, .int .u64 e158x3, .int .u64 e158x4]) ∧ Below w.heap.size w w'))
    (C159 : Hid (∀ w, Calls Try.prog 21 #[.agg #[.int .u64 e154x0, .int .u64 e154x1, .int .u64 e154x2, .int .u64 e154x3, .int .u64 e154x4], .agg #[.int .u64 e158x0, .int .u64 e158x1, .int .u64 e158x2, .int .u64 e158x3, .int .u64 e158x4]] w fun e w' => e = .returned (.bool true) ∧ Below w.heap.size w w'))
    (H : ∀ W', Below W.heap.size W W' → Q .normal ⟨#[c0, c1, c2, c3, c4, c5, c6, c7, c8, .pointer (some ⟨g9, 0, none⟩), c10, c11, .pointer none, c13, c14, .pointer (some ⟨g15, 0, none⟩), .pointer (some ⟨g16, 0, none⟩), c17, c18, c19, c20, c21, c22, c23, c24, c25, c26, c27, c28, c29, c30, c31, c32, c33, c34, c35, c36, c37, c38, c39, c40, c41, c42, c43, c44, c45, c46, c47, c48, c49, c50, c51, c52, c53, c54, c55, c56, c57, c58, c59, c60, c61, c62, c63, c64, c65, c66, c67, c68, c69, c70, c71, c72, c73, c74, c75, c76, c77, c78, c79, c80, c81, c82, c83, c84, c85, c86, c87, c88, c89, c90, c91, c92, c93, c94, c95, c96, c97, c98, c99, c100, c101, c102, c103, c104, c105, c106, c107, c108, c109, c110, c111, c112, c113, c114, c115, c116, .pointer none, .agg #[.int .u64 e19x0, .int .u64 e19x1, .int .u64 e19x2, .int .u64 e19x3, .int .u64 e19x4], .agg #[.int .u64 0, .int .u64 0, .int .u64 0, .int .u64 0, .int .u64 0], .agg #[.int .u64 e120x0, .int .u64 e120x1, .int .u64 e120x2, .int .u64 e120x3, .int .u64 e120x4], .agg #[.int .u64 e19x0, .int .u64 e19x1, .int .u64 e19x2, .int .u64 e19x3, .int .u64 e19x4], .bool true, .bool false, .bool false, .pointer none, .agg #[.int .u64 e19x0, .int .u64 e19x1, .int .u64 e19x2, .int .u64 e19x3, .int .u64 e19x4], .agg #[.int .u64 e116x0, .int .u64 e116x1, .int .u64 e116x2, .int .u64 e116x3, .int .u64 e116x4], .agg #[.int .u64 e128x0, .int .u64 e128x1, .int .u64 e128x2, .int .u64 e128x3, .int .u64 e128x4], .agg #[.int .u64 e19x0, .int .u64 e19x1, .int .u64 e19x2, .int .u64 e19x3, .int .u64 e19x4], .bool true, .bool false, .bool false, .bool false, .pointer none, .agg #[.int .u64 e19x0, .int .u64 e19x1, .int .u64 e19x2, .int .u64 e19x3, .int .u64 e19x4], .agg #[.int .u64 0, .int .u64 0, .int .u64 0, .int .u64 0, .int .u64 0], .agg #[.int .u64 e137x0, .int .u64 e137x1, .int .u64 e137x2, .int .u64 e137x3, .int .u64 e137x4], .agg #[.int .u64 0, .int .u64 0, .int .u64 0, .int .u64 0, .int .u64 0], .bool true, .bool false, .bool false, .bool false, .pointer none, .agg #[.int .u64 e19x0, .int .u64 e19x1, .int .u64 e19x2, .int .u64 e19x3, .int .u64 e19x4], .agg #[.int .u64 e19x0, .int .u64 e19x1, .int .u64 e19x2, .int .u64 e19x3, .int .u64 e19x4], .agg #[.int .u64 e146x0, .int .u64 e146x1, .int .u64 e146x2, .int .u64 e146x3, .int .u64 e146x4], .agg #[.int .u64 0, .int .u64 0, .int .u64 0, .int .u64 0, .int .u64 0], .bool true, .bool false, .bool false, .bool false, .pointer none, .agg #[.int .u64 e19x0, .int .u64 e19x1, .int .u64 e19x2, .int .u64 e19x3, .int .u64 e19x4], .agg #[.int .u64 e154x0, .int .u64 e154x1, .int .u64 e154x2, .int .u64 e154x3, .int .u64 e154x4], .pointer none, .agg #[.int .u64 e19x0, .int .u64 e19x1, .int .u64 e19x2, .int .u64 e19x3, .int .u64 e19x4], .agg #[.int .u64 e19x0, .int .u64 e19x1, .int .u64 e19x2, .int .u64 e19x3, .int .u64 e19x4], .agg #[.int .u64 e158x0, .int .u64 e158x1, .int .u64 e158x2, .int .u64 e158x3, .int .u64 e158x4], .bool true, .bool false, .bool false, c162, c163, c164, c165, c166, c167, c168, c169, c170, c171, c172, c173, c174, c175, c176, c177, c178, c179, c180, c181, c182, c183, c184, c185, c186], []⟩ W') :
    Code.wp Try.prog rgR13 Q ⟨#[c0, c1, c2, c3, c4, c5, c6, c7, c8, .pointer (some ⟨g9, 0, none⟩), c10, c11, .pointer none, c13, c14, .pointer (some ⟨g15, 0, none⟩), .pointer (some ⟨g16, 0, none⟩), c17, c18, c19, c20, c21, c22, c23, c24, c25, c26, c27, c28, c29, c30, c31, c32, c33, c34, c35, c36, c37, c38, c39, c40, c41, c42, c43, c44, c45, c46, c47, c48, c49, c50, c51, c52, c53, c54, c55, c56, c57, c58, c59, c60, c61, c62, c63, c64, c65, c66, c67, c68, c69, c70, c71, c72, c73, c74, c75, c76, c77, c78, c79, c80, c81, c82, c83, c84, c85, c86, c87, c88, c89, c90, c91, c92, c93, c94, c95, c96, c97, c98, c99, c100, c101, c102, c103, c104, c105, c106, c107, c108, c109, c110, c111, c112, c113, c114, c115, c116, c117, c118, c119, c120, c121, c122, c123, c124, c125, c126, c127, c128, c129, c130, c131, c132, c133, c134, c135, c136, c137, c138, c139, c140, c141, c142, c143, c144, c145, c146, c147, c148, c149, c150, c151, c152, c153, c154, c155, c156, c157, c158, c159, c160, c161, c162, c163, c164, c165, c166, c167, c168, c169, c170, c171, c172, c173, c174, c175, c176, c177, c178, c179, c180, c181, c182, c183, c184, c185, c186], []⟩ W := by
  have HH : Hid (∀ W', Below W.heap.size W W' → Q .normal ⟨#[c0, c1, c2, c3, c4, c5, c6, c7, c8, .pointer (some ⟨g9, 0, none⟩), c10, c11, .pointer none, c13, c14, .pointer (some ⟨g15, 0, none⟩), .pointer (some ⟨g16, 0, none⟩), c17, c18, c19, c20, c21, c22, c23, c24, c25, c26, c27, c28, c29, c30, c31, c32, c33, c34, c35, c36, c37, c38, c39, c40, c41, c42, c43, c44, c45, c46, c47, c48, c49, c50, c51, c52, c53, c54, c55, c56, c57, c58, c59, c60, c61, c62, c63, c64, c65, c66, c67, c68, c69, c70, c71, c72, c73, c74, c75, c76, c77, c78, c79, c80, c81, c82, c83, c84, c85, c86, c87, c88, c89, c90, c91, c92, c93, c94, c95, c96, c97, c98, c99, c100, c101, c102, c103, c104, c105, c106, c107, c108, c109, c110, c111, c112, c113, c114, c115, c116, .pointer none, .agg #[.int .u64 e19x0, .int .u64 e19x1, .int .u64 e19x2, .int .u64 e19x3, .int .u64 e19x4], .agg #[.int .u64 0, .int .u64 0, .int .u64 0, .int .u64 0, .int .u64 0], .agg #[.int .u64 e120x0, .int .u64 e120x1, .int .u64 e120x2, .int .u64 e120x3, .int .u64 e120x4], .agg #[.int .u64 e19x0, .int .u64 e19x1, .int .u64 e19x2, .int .u64 e19x3, .int .u64 e19x4], .bool true, .bool false, .bool false, .pointer none, .agg #[.int .u64 e19x0, .int .u64 e19x1, .int .u64 e19x2, .int .u64 e19x3, .int .u64 e19x4], .agg #[.int .u64 e116x0, .int .u64 e116x1, .int .u64 e116x2, .int .u64 e116x3, .int .u64 e116x4], .agg #[.int .u64 e128x0, .int .u64 e128x1, .int .u64 e128x2, .int .u64 e128x3, .int .u64 e128x4], .agg #[.int .u64 e19x0, .int .u64 e19x1, .int .u64 e19x2, .int .u64 e19x3, .int .u64 e19x4], .bool true, .bool false, .bool false, .bool false, .pointer none, .agg #[.int .u64 e19x0, .int .u64 e19x1, .int .u64 e19x2, .int .u64 e19x3, .int .u64 e19x4], .agg #[.int .u64 0, .int .u64 0, .int .u64 0, .int .u64 0, .int .u64 0], .agg #[.int .u64 e137x0, .int .u64 e137x1, .int .u64 e137x2, .int .u64 e137x3, .int .u64 e137x4], .agg #[.int .u64 0, .int .u64 0, .int .u64 0, .int .u64 0, .int .u64 0], .bool true, .bool false, .bool false, .bool false, .pointer none, .agg #[.int .u64 e19x0, .int .u64 e19x1, .int .u64 e19x2, .int .u64 e19x3, .int .u64 e19x4], .agg #[.int .u64 e19x0, .int .u64 e19x1, .int .u64 e19x2, .int .u64 e19x3, .int .u64 e19x4], .agg #[.int .u64 e146x0, .int .u64 e146x1, .int .u64 e146x2, .int .u64 e146x3, .int .u64 e146x4], .agg #[.int .u64 0, .int .u64 0, .int .u64 0, .int .u64 0, .int .u64 0], .bool true, .bool false, .bool false, .bool false, .pointer none, .agg #[.int .u64 e19x0, .int .u64 e19x1, .int .u64 e19x2, .int .u64 e19x3, .int .u64 e19x4], .agg #[.int .u64 e154x0, .int .u64 e154x1, .int .u64 e154x2, .int .u64 e154x3, .int .u64 e154x4], .pointer none, .agg #[.int .u64 e19x0, .int .u64 e19x1, .int .u64 e19x2, .int .u64 e19x3, .int .u64 e19x4], .agg #[.int .u64 e19x0, .int .u64 e19x1, .int .u64 e19x2, .int .u64 e19x3, .int .u64 e19x4], .agg #[.int .u64 e158x0, .int .u64 e158x1, .int .u64 e158x2, .int .u64 e158x3, .int .u64 e158x4], .bool true, .bool false, .bool false, c162, c163, c164, c165, c166, c167, c168, c169, c170, c171, c172, c173, c174, c175, c176, c177, c178, c179, c180, c181, c182, c183, c184, c185, c186], []⟩ W') := H
  clear H
  conv => arg 2; whnf
  refine wp_region_quiet_in (C := fun Y => Below W.heap.size W Y) (by kernel_rfl) (by kernel_rfl) ((Below.refl _ _).drew) ?_
  refine wpQuiet_step (fun K hK => ?_)
  go_simp
  first | refine hK _ ?_ | refine ⟨_, fun _ _ => rfl, hK _ ?_⟩
  clear hK K
  refine wpQuiet_step (fun K hK => ?_)
  refine if_pos_mpr (by kernel_rfl) ⟨.agg #[.int .u64 e19x0, .int .u64 e19x1, .int .u64 e19x2, .int .u64 e19x3, .int .u64 e19x4], fun Y hY => ?_, hK _ ?_⟩
  · obtain ⟨d0, d1, d2, d3, d4⟩ := cells5 (row_below Rg9.out hY)
    go_simp
  clear hK K
  try simp only [Act.put, List.setIfInBounds_toArray, List.set_cons_zero, List.set_cons_succ]
  refine wpQuiet_step (fun K hK => ?_)
  refine if_pos_mpr (by kernel_rfl) ⟨.agg #[.int .u64 0, .int .u64 0, .int .u64 0, .int .u64 0, .int .u64 0], fun Y hY => ?_, hK _ ?_⟩
  · obtain ⟨d0, d1, d2, d3, d4⟩ := cells5 (row_below Rg15.out hY)
    go_simp
  clear hK K
  try simp only [Act.put, List.setIfInBounds_toArray, List.set_cons_zero, List.set_cons_succ]
  refine wpQuiet_step (fun K hK => ?_)
  refine if_pos_mpr (by kernel_rfl) ⟨.agg #[.int .u64 e120x0, .int .u64 e120x1, .int .u64 e120x2, .int .u64 e120x3, .int .u64 e120x4], fun Y hY => ?_, hK _ ?_⟩
  · go_simp
    exact (C120.out Y).mono fun e w' hh => ⟨hh.1, hY.trans (hh.2.mono hY.size)⟩
  clear hK K
  try simp only [Act.put, List.setIfInBounds_toArray, List.set_cons_zero, List.set_cons_succ]
  refine wpQuiet_step (fun K hK => ?_)
  refine if_pos_mpr (by kernel_rfl) ⟨.agg #[.int .u64 e19x0, .int .u64 e19x1, .int .u64 e19x2, .int .u64 e19x3, .int .u64 e19x4], fun Y hY => ?_, hK _ ?_⟩
  · obtain ⟨d0, d1, d2, d3, d4⟩ := cells5 (row_below Rg9.out hY)
    go_simp
  clear hK K
  try simp only [Act.put, List.setIfInBounds_toArray, List.set_cons_zero, List.set_cons_succ]
  refine wpQuiet_step (fun K hK => ?_)
  refine if_pos_mpr (by kernel_rfl) ⟨.bool true, fun Y hY => ?_, hK _ ?_⟩
  · go_simp
    exact (C122.out Y).mono fun e w' hh => ⟨hh.1, hY.trans (hh.2.mono hY.size)⟩
  clear hK K
  try simp only [Act.put, List.setIfInBounds_toArray, List.set_cons_zero, List.set_cons_succ]
  refine wpQuiet_step (fun K hK => ?_)
  go_simp
  first | refine hK _ ?_ | refine ⟨_, fun _ _ => rfl, hK _ ?_⟩
  clear hK K
  refine wpQuiet_step (fun K hK => ?_)
  go_simp
  first | refine hK _ ?_ | refine ⟨_, fun _ _ => rfl, hK _ ?_⟩
  clear hK K
  refine wpQuiet_step (fun K hK => ?_)
  go_simp
  first | refine hK _ ?_ | refine ⟨_, fun _ _ => rfl, hK _ ?_⟩
  clear hK K
  refine wpQuiet_step (fun K hK => ?_)
  refine if_pos_mpr (by kernel_rfl) ⟨.agg #[.int .u64 e19x0, .int .u64 e19x1, .int .u64 e19x2, .int .u64 e19x3, .int .u64 e19x4], fun Y hY => ?_, hK _ ?_⟩
  · obtain ⟨d0, d1, d2, d3, d4⟩ := cells5 (row_below Rg9.out hY)
    go_simp
  clear hK K
  try simp only [Act.put, List.setIfInBounds_toArray, List.set_cons_zero, List.set_cons_succ]
  refine wpQuiet_step (fun K hK => ?_)
  refine if_pos_mpr (by kernel_rfl) ⟨.agg #[.int .u64 e116x0, .int .u64 e116x1, .int .u64 e116x2, .int .u64 e116x3, .int .u64 e116x4], fun Y hY => ?_, hK _ ?_⟩
  · obtain ⟨d0, d1, d2, d3, d4⟩ := cells5 (row_below Rg16.out hY)
    go_simp
  clear hK K
  try simp only [Act.put, List.setIfInBounds_toArray, List.set_cons_zero, List.set_cons_succ]
  refine wpQuiet_step (fun K hK => ?_)
  refine if_pos_mpr (by kernel_rfl) ⟨.agg #[.int .u64 e128x0, .int .u64 e128x1, .int .u64 e128x2, .int .u64 e128x3, .int .u64 e128x4], fun Y hY => ?_, hK _ ?_⟩
  · go_simp
    exact (C128.out Y).mono fun e w' hh => ⟨hh.1, hY.trans (hh.2.mono hY.size)⟩
  clear hK K
  try simp only [Act.put, List.setIfInBounds_toArray, List.set_cons_zero, List.set_cons_succ]
  refine wpQuiet_step (fun K hK => ?_)
  refine if_pos_mpr (by kernel_rfl) ⟨.agg #[.int .u64 e19x0, .int .u64 e19x1, .int .u64 e19x2, .int .u64 e19x3, .int .u64 e19x4], fun Y hY => ?_, hK _ ?_⟩
  · obtain ⟨d0, d1, d2, d3, d4⟩ := cells5 (row_below Rg9.out hY)
    go_simp
  clear hK K
  try simp only [Act.put, List.setIfInBounds_toArray, List.set_cons_zero, List.set_cons_succ]
  refine wpQuiet_step (fun K hK => ?_)
  refine if_pos_mpr (by kernel_rfl) ⟨.bool true, fun Y hY => ?_, hK _ ?_⟩
  · go_simp
    exact (C130.out Y).mono fun e w' hh => ⟨hh.1, hY.trans (hh.2.mono hY.size)⟩
  clear hK K
  try simp only [Act.put, List.setIfInBounds_toArray, List.set_cons_zero, List.set_cons_succ]
  refine wpQuiet_step (fun K hK => ?_)
  go_simp
  first | refine hK _ ?_ | refine ⟨_, fun _ _ => rfl, hK _ ?_⟩
  clear hK K
  refine wpQuiet_step (fun K hK => ?_)
  go_simp
  first | refine hK _ ?_ | refine ⟨_, fun _ _ => rfl, hK _ ?_⟩
  clear hK K
  refine wpQuiet_step (fun K hK => ?_)
  go_simp
  first | refine hK _ ?_ | refine ⟨_, fun _ _ => rfl, hK _ ?_⟩
  clear hK K
  refine wpQuiet_step (fun K hK => ?_)
  go_simp
  first | refine hK _ ?_ | refine ⟨_, fun _ _ => rfl, hK _ ?_⟩
  clear hK K
  refine wpQuiet_step (fun K hK => ?_)
  refine if_pos_mpr (by kernel_rfl) ⟨.agg #[.int .u64 e19x0, .int .u64 e19x1, .int .u64 e19x2, .int .u64 e19x3, .int .u64 e19x4], fun Y hY => ?_, hK _ ?_⟩
  · obtain ⟨d0, d1, d2, d3, d4⟩ := cells5 (row_below Rg9.out hY)
    go_simp
  clear hK K
  try simp only [Act.put, List.setIfInBounds_toArray, List.set_cons_zero, List.set_cons_succ]
  refine wpQuiet_step (fun K hK => ?_)
  refine if_pos_mpr (by kernel_rfl) ⟨.agg #[.int .u64 0, .int .u64 0, .int .u64 0, .int .u64 0, .int .u64 0], fun Y hY => ?_, hK _ ?_⟩
  · obtain ⟨d0, d1, d2, d3, d4⟩ := cells5 (row_below Rg15.out hY)
    go_simp
  clear hK K
  try simp only [Act.put, List.setIfInBounds_toArray, List.set_cons_zero, List.set_cons_succ]
  refine wpQuiet_step (fun K hK => ?_)
  refine if_pos_mpr (by kernel_rfl) ⟨.agg #[.int .u64 e137x0, .int .u64 e137x1, .int .u64 e137x2, .int .u64 e137x3, .int .u64 e137x4], fun Y hY => ?_, hK _ ?_⟩
  · go_simp
    exact (C137.out Y).mono fun e w' hh => ⟨hh.1, hY.trans (hh.2.mono hY.size)⟩
  clear hK K
  try simp only [Act.put, List.setIfInBounds_toArray, List.set_cons_zero, List.set_cons_succ]
  refine wpQuiet_step (fun K hK => ?_)
  refine if_pos_mpr (by kernel_rfl) ⟨.agg #[.int .u64 0, .int .u64 0, .int .u64 0, .int .u64 0, .int .u64 0], fun Y hY => ?_, hK _ ?_⟩
  · obtain ⟨d0, d1, d2, d3, d4⟩ := cells5 (row_below Rg15.out hY)
    go_simp
  clear hK K
  try simp only [Act.put, List.setIfInBounds_toArray, List.set_cons_zero, List.set_cons_succ]
  refine wpQuiet_step (fun K hK => ?_)
  refine if_pos_mpr (by kernel_rfl) ⟨.bool true, fun Y hY => ?_, hK _ ?_⟩
  · go_simp
    exact (C139.out Y).mono fun e w' hh => ⟨hh.1, hY.trans (hh.2.mono hY.size)⟩
  clear hK K
  try simp only [Act.put, List.setIfInBounds_toArray, List.set_cons_zero, List.set_cons_succ]
  refine wpQuiet_step (fun K hK => ?_)
  go_simp
  first | refine hK _ ?_ | refine ⟨_, fun _ _ => rfl, hK _ ?_⟩
  clear hK K
  refine wpQuiet_step (fun K hK => ?_)
  go_simp
  first | refine hK _ ?_ | refine ⟨_, fun _ _ => rfl, hK _ ?_⟩
  clear hK K
  refine wpQuiet_step (fun K hK => ?_)
  go_simp
  first | refine hK _ ?_ | refine ⟨_, fun _ _ => rfl, hK _ ?_⟩
  clear hK K
  refine wpQuiet_step (fun K hK => ?_)
  go_simp
  first | refine hK _ ?_ | refine ⟨_, fun _ _ => rfl, hK _ ?_⟩
  clear hK K
  refine wpQuiet_step (fun K hK => ?_)
  refine if_pos_mpr (by kernel_rfl) ⟨.agg #[.int .u64 e19x0, .int .u64 e19x1, .int .u64 e19x2, .int .u64 e19x3, .int .u64 e19x4], fun Y hY => ?_, hK _ ?_⟩
  · obtain ⟨d0, d1, d2, d3, d4⟩ := cells5 (row_below Rg9.out hY)
    go_simp
  clear hK K
  try simp only [Act.put, List.setIfInBounds_toArray, List.set_cons_zero, List.set_cons_succ]
  refine wpQuiet_step (fun K hK => ?_)
  refine if_pos_mpr (by kernel_rfl) ⟨.agg #[.int .u64 e19x0, .int .u64 e19x1, .int .u64 e19x2, .int .u64 e19x3, .int .u64 e19x4], fun Y hY => ?_, hK _ ?_⟩
  · obtain ⟨d0, d1, d2, d3, d4⟩ := cells5 (row_below Rg9.out hY)
    go_simp
  clear hK K
  try simp only [Act.put, List.setIfInBounds_toArray, List.set_cons_zero, List.set_cons_succ]
  refine wpQuiet_step (fun K hK => ?_)
  refine if_pos_mpr (by kernel_rfl) ⟨.agg #[.int .u64 e146x0, .int .u64 e146x1, .int .u64 e146x2, .int .u64 e146x3, .int .u64 e146x4], fun Y hY => ?_, hK _ ?_⟩
  · go_simp
    exact (C146.out Y).mono fun e w' hh => ⟨hh.1, hY.trans (hh.2.mono hY.size)⟩
  clear hK K
  try simp only [Act.put, List.setIfInBounds_toArray, List.set_cons_zero, List.set_cons_succ]
  refine wpQuiet_step (fun K hK => ?_)
  refine if_pos_mpr (by kernel_rfl) ⟨.agg #[.int .u64 0, .int .u64 0, .int .u64 0, .int .u64 0, .int .u64 0], fun Y hY => ?_, hK _ ?_⟩
  · obtain ⟨d0, d1, d2, d3, d4⟩ := cells5 (row_below Rg15.out hY)
    go_simp
  clear hK K
  try simp only [Act.put, List.setIfInBounds_toArray, List.set_cons_zero, List.set_cons_succ]
  refine wpQuiet_step (fun K hK => ?_)
  refine if_pos_mpr (by kernel_rfl) ⟨.bool true, fun Y hY => ?_, hK _ ?_⟩
  · go_simp
    exact (C148.out Y).mono fun e w' hh => ⟨hh.1, hY.trans (hh.2.mono hY.size)⟩
  clear hK K
  try simp only [Act.put, List.setIfInBounds_toArray, List.set_cons_zero, List.set_cons_succ]
  refine wpQuiet_step (fun K hK => ?_)
  go_simp
  first | refine hK _ ?_ | refine ⟨_, fun _ _ => rfl, hK _ ?_⟩
  clear hK K
  refine wpQuiet_step (fun K hK => ?_)
  go_simp
  first | refine hK _ ?_ | refine ⟨_, fun _ _ => rfl, hK _ ?_⟩
  clear hK K
  refine wpQuiet_step (fun K hK => ?_)
  go_simp
  first | refine hK _ ?_ | refine ⟨_, fun _ _ => rfl, hK _ ?_⟩
  clear hK K
  refine wpQuiet_step (fun K hK => ?_)
  go_simp
  first | refine hK _ ?_ | refine ⟨_, fun _ _ => rfl, hK _ ?_⟩
  clear hK K
  refine wpQuiet_step (fun K hK => ?_)
  refine if_pos_mpr (by kernel_rfl) ⟨.agg #[.int .u64 e19x0, .int .u64 e19x1, .int .u64 e19x2, .int .u64 e19x3, .int .u64 e19x4], fun Y hY => ?_, hK _ ?_⟩
  · obtain ⟨d0, d1, d2, d3, d4⟩ := cells5 (row_below Rg9.out hY)
    go_simp
  clear hK K
  try simp only [Act.put, List.setIfInBounds_toArray, List.set_cons_zero, List.set_cons_succ]
  refine wpQuiet_step (fun K hK => ?_)
  refine if_pos_mpr (by kernel_rfl) ⟨.agg #[.int .u64 e154x0, .int .u64 e154x1, .int .u64 e154x2, .int .u64 e154x3, .int .u64 e154x4], fun Y hY => ?_, hK _ ?_⟩
  · go_simp
    exact (C154.out Y).mono fun e w' hh => ⟨hh.1, hY.trans (hh.2.mono hY.size)⟩
  clear hK K
  try simp only [Act.put, List.setIfInBounds_toArray, List.set_cons_zero, List.set_cons_succ]
  refine wpQuiet_step (fun K hK => ?_)
  go_simp
  first | refine hK _ ?_ | refine ⟨_, fun _ _ => rfl, hK _ ?_⟩
  clear hK K
  refine wpQuiet_step (fun K hK => ?_)
  refine if_pos_mpr (by kernel_rfl) ⟨.agg #[.int .u64 e19x0, .int .u64 e19x1, .int .u64 e19x2, .int .u64 e19x3, .int .u64 e19x4], fun Y hY => ?_, hK _ ?_⟩
  · obtain ⟨d0, d1, d2, d3, d4⟩ := cells5 (row_below Rg9.out hY)
    go_simp
  clear hK K
  try simp only [Act.put, List.setIfInBounds_toArray, List.set_cons_zero, List.set_cons_succ]
  refine wpQuiet_step (fun K hK => ?_)
  refine if_pos_mpr (by kernel_rfl) ⟨.agg #[.int .u64 e19x0, .int .u64 e19x1, .int .u64 e19x2, .int .u64 e19x3, .int .u64 e19x4], fun Y hY => ?_, hK _ ?_⟩
  · obtain ⟨d0, d1, d2, d3, d4⟩ := cells5 (row_below Rg9.out hY)
    go_simp
  clear hK K
  try simp only [Act.put, List.setIfInBounds_toArray, List.set_cons_zero, List.set_cons_succ]
  refine wpQuiet_step (fun K hK => ?_)
  refine if_pos_mpr (by kernel_rfl) ⟨.agg #[.int .u64 e158x0, .int .u64 e158x1, .int .u64 e158x2, .int .u64 e158x3, .int .u64 e158x4], fun Y hY => ?_, hK _ ?_⟩
  · go_simp
    exact (C158.out Y).mono fun e w' hh => ⟨hh.1, hY.trans (hh.2.mono hY.size)⟩
  clear hK K
  try simp only [Act.put, List.setIfInBounds_toArray, List.set_cons_zero, List.set_cons_succ]
  refine wpQuiet_step (fun K hK => ?_)
  refine if_pos_mpr (by kernel_rfl) ⟨.bool true, fun Y hY => ?_, hK _ ?_⟩
  · go_simp
    exact (C159.out Y).mono fun e w' hh => ⟨hh.1, hY.trans (hh.2.mono hY.size)⟩
  clear hK K
  try simp only [Act.put, List.setIfInBounds_toArray, List.set_cons_zero, List.set_cons_succ]
  refine wpQuiet_step (fun K hK => ?_)
  go_simp
  first | refine hK _ ?_ | refine ⟨_, fun _ _ => rfl, hK _ ?_⟩
  clear hK K
  refine wpQuiet_step (fun K hK => ?_)
  go_simp
  first | refine hK _ ?_ | refine ⟨_, fun _ _ => rfl, hK _ ?_⟩
  clear hK K
  refine wpQuiet_nil ?_
  exact fun W' hb => HH.out W' hb
end Go.Proofs.Yteimmjdiaophoaa
