import Derived.Test.YteimmjdiaophoaaFldRing6
namespace Go.Proofs.Yteimmjdiaophoaa
set_option linter.unusedSimpArgs false
set_option linter.unusedVariables false
open Go.ChangeShapes Go.WideShapes Go.ChangeAt Go.RowKit Go.Pin Go.Fld
set_option maxRecDepth 100000 in
set_option maxHeartbeats 8000000 in
theorem ring_r9 {Q : Exit → Act → World → Prop} {W : World} {n : Nat} (HN : Hid (n < 4294967296)) {g14 g10 g9 g11 : Nat} {e74x0 e74x1 e74x2 e74x3 e74x4 e21x0 e21x1 e21x2 e21x3 e21x4 e19x0 e19x1 e19x2 e19x3 e19x4 e79x0 e79x1 e79x2 e79x3 e79x4 e23x0 e23x1 e23x2 e23x3 e23x4 e86x0 e86x1 e86x2 e86x3 e86x4 e92x0 e92x1 e92x2 e92x3 e92x4 e93x0 e93x1 e93x2 e93x3 e93x4 e103x0 e103x1 e103x2 e103x3 e103x4 e104x0 e104x1 e104x2 e104x3 e104x4 e110x0 e110x1 e110x2 e110x3 e110x4 e111x0 e111x1 e111x2 e111x3 e111x4 : Int} {c0 c1 c2 c3 c4 c5 c6 c7 c8 c13 c15 c16 c17 c18 c19 c20 c21 c22 c23 c24 c25 c26 c27 c28 c29 c30 c31 c32 c33 c34 c35 c36 c37 c38 c39 c40 c41 c42 c43 c44 c45 c46 c47 c48 c49 c50 c51 c52 c53 c54 c55 c56 c57 c58 c59 c60 c61 c62 c63 c64 c65 c66 c67 c68 c69 c70 c71 c72 c73 c74 c75 c76 c77 c78 c79 c80 c81 c82 c83 c84 c85 c86 c87 c88 c89 c90 c91 c92 c93 c94 c95 c96 c97 c98 c99 c100 c101 c102 c103 c104 c105 c106 c107 c108 c109 c110 c111 c112 c113 c114 c115 c116 c117 c118 c119 c120 c121 c122 c123 c124 c125 c126 c127 c128 c129 c130 c131 c132 c133 c134 c135 c136 c137 c138 c139 c140 c141 c142 c143 c144 c145 c146 c147 c148 c149 c150 c151 c152 c153 c154 c155 c156 c157 c158 c159 c160 c161 c162 c163 c164 c165 c166 c167 c168 c169 c170 c171 c172 c173 c174 c175 c176 c177 c178 c179 c180 c181 c182 c183 c184 c185 c186 : Value}
    (Rg14 : Hid (rowAt W g14 [e74x0, e74x1, e74x2, e74x3, e74x4] 27))
    (Rg10 : Hid (rowAt W g10 [e21x0, e21x1, e21x2, e21x3, e21x4] 27))
    (Rg9 : Hid (rowAt W g9 [e19x0, e19x1, e19x2, e19x3, e19x4] 27))
    (C79 : Hid (∀ w, Calls Try.prog 23 #[.pointer none, .agg #[.int .u64 e21x0, .int .u64 e21x1, .int .u64 e21x2, .int .u64 e21x3, .int .u64 e21x4], .agg #[.int .u64 e19x0, .int .u64 e19x1, .int .u64 e19x2, .int .u64 e19x3, .int .u64 e19x4]] w fun e w' => e = .returned (.agg #[.int .u64 e79x0, .int .u64 e79x1, .int .u64 e79x2, .int .u64 e79x3, .int .u64 e79x4]) ∧ Below w.heap.size w w'))
    (C80 : Hid (∀ w, Calls Try.prog 21 #[.agg #[.int .u64 e74x0, .int .u64 e74x1, .int .u64 e74x2, .int .u64 e74x3, .int .u64 e74x4], .agg #[.int .u64 e79x0, .int .u64 e79x1, .int .u64 e79x2, .int .u64 e79x3, .int .u64 e79x4]] w fun e w' => e = .returned (.bool true) ∧ Below w.heap.size w w'))
    (Rg11 : Hid (rowAt W g11 [e23x0, e23x1, e23x2, e23x3, e23x4] 27))
    (C86 : Hid (∀ w, Calls Try.prog 23 #[.pointer none, .agg #[.int .u64 e74x0, .int .u64 e74x1, .int .u64 e74x2, .int .u64 e74x3, .int .u64 e74x4], .agg #[.int .u64 e23x0, .int .u64 e23x1, .int .u64 e23x2, .int .u64 e23x3, .int .u64 e23x4]] w fun e w' => e = .returned (.agg #[.int .u64 e86x0, .int .u64 e86x1, .int .u64 e86x2, .int .u64 e86x3, .int .u64 e86x4]) ∧ Below w.heap.size w w'))
    (C92 : Hid (∀ w, Calls Try.prog 23 #[.pointer none, .agg #[.int .u64 e21x0, .int .u64 e21x1, .int .u64 e21x2, .int .u64 e21x3, .int .u64 e21x4], .agg #[.int .u64 e23x0, .int .u64 e23x1, .int .u64 e23x2, .int .u64 e23x3, .int .u64 e23x4]] w fun e w' => e = .returned (.agg #[.int .u64 e92x0, .int .u64 e92x1, .int .u64 e92x2, .int .u64 e92x3, .int .u64 e92x4]) ∧ Below w.heap.size w w'))
    (C93 : Hid (∀ w, Calls Try.prog 23 #[.pointer none, .agg #[.int .u64 e19x0, .int .u64 e19x1, .int .u64 e19x2, .int .u64 e19x3, .int .u64 e19x4], .agg #[.int .u64 e92x0, .int .u64 e92x1, .int .u64 e92x2, .int .u64 e92x3, .int .u64 e92x4]] w fun e w' => e = .returned (.agg #[.int .u64 e93x0, .int .u64 e93x1, .int .u64 e93x2, .int .u64 e93x3, .int .u64 e93x4]) ∧ Below w.heap.size w w'))
    (C94 : Hid (∀ w, Calls Try.prog 21 #[.agg #[.int .u64 e86x0, .int .u64 e86x1, .int .u64 e86x2, .int .u64 e86x3, .int .u64 e86x4], .agg #[.int .u64 e93x0, .int .u64 e93x1, .int .u64 e93x2, .int .u64 e93x3, .int .u64 e93x4]] w fun e w' => e = .returned (.bool true) ∧ Below w.heap.size w w'))
    (C103 : Hid (∀ w, Calls Try.prog 20 #[.pointer none, .agg #[.int .u64 e21x0, .int .u64 e21x1, .int .u64 e21x2, .int .u64 e21x3, .int .u64 e21x4], .agg #[.int .u64 e23x0, .int .u64 e23x1, .int .u64 e23x2, .int .u64 e23x3, .int .u64 e23x4]] w fun e w' => e = .returned (.agg #[.int .u64 e103x0, .int .u64 e103x1, .int .u64 e103x2, .int .u64 e103x3, .int .u64 e103x4]) ∧ Below w.heap.size w w'))
    (C104 : Hid (∀ w, Calls Try.prog 23 #[.pointer none, .agg #[.int .u64 e19x0, .int .u64 e19x1, .int .u64 e19x2, .int .u64 e19x3, .int .u64 e19x4], .agg #[.int .u64 e103x0, .int .u64 e103x1, .int .u64 e103x2, .int .u64 e103x3, .int .u64 e103x4]] w fun e w' => e = .returned (.agg #[.int .u64 e104x0, .int .u64 e104x1, .int .u64 e104x2, .int .u64 e104x3, .int .u64 e104x4]) ∧ Below w.heap.size w w'))
    (C110 : Hid (∀ w, Calls Try.prog 23 #[.pointer none, .agg #[.int .u64 e19x0, .int .u64 e19x1, .int .u64 e19x2, .int .u64 e19x3, .int .u64 e19x4], .agg #[.int .u64 e23x0, .int .u64 e23x1, .int .u64 e23x2, .int .u64 e23x3, .int .u64 e23x4]] w fun e w' => e = .returned (.agg #[.int .u64 e110x0, .int .u64 e110x1, .int .u64 e110x2, .int .u64 e110x3, .int .u64 e110x4]) ∧ Below w.heap.size w w'))
    (C111 : Hid (∀ w, Calls Try.prog 20 #[.pointer none, .agg #[.int .u64 e74x0, .int .u64 e74x1, .int .u64 e74x2, .int .u64 e74x3, .int .u64 e74x4], .agg #[.int .u64 e110x0, .int .u64 e110x1, .int .u64 e110x2, .int .u64 e110x3, .int .u64 e110x4]] w fun e w' => e = .returned (.agg #[.int .u64 e111x0, .int .u64 e111x1, .int .u64 e111x2, .int .u64 e111x3, .int .u64 e111x4]) ∧ Below w.heap.size w w'))
    (C112 : Hid (∀ w, Calls Try.prog 21 #[.agg #[.int .u64 e104x0, .int .u64 e104x1, .int .u64 e104x2, .int .u64 e104x3, .int .u64 e104x4], .agg #[.int .u64 e111x0, .int .u64 e111x1, .int .u64 e111x2, .int .u64 e111x3, .int .u64 e111x4]] w fun e w' => e = .returned (.bool true) ∧ Below w.heap.size w w'))
    (H : ∀ W', Below W.heap.size W W' → Q .normal ⟨#[c0, c1, c2, c3, c4, c5, c6, c7, c8, .pointer (some ⟨g9, 0, none⟩), .pointer (some ⟨g10, 0, none⟩), .pointer (some ⟨g11, 0, none⟩), .pointer none, c13, .pointer (some ⟨g14, 0, none⟩), c15, c16, c17, c18, c19, c20, c21, c22, c23, c24, c25, c26, c27, c28, c29, c30, c31, c32, c33, c34, c35, c36, c37, c38, c39, c40, c41, c42, c43, c44, c45, c46, c47, c48, c49, c50, c51, c52, c53, c54, c55, c56, c57, c58, c59, c60, c61, c62, c63, c64, c65, c66, c67, c68, c69, c70, c71, c72, c73, c74, .agg #[.int .u64 e74x0, .int .u64 e74x1, .int .u64 e74x2, .int .u64 e74x3, .int .u64 e74x4], .pointer none, .agg #[.int .u64 e21x0, .int .u64 e21x1, .int .u64 e21x2, .int .u64 e21x3, .int .u64 e21x4], .agg #[.int .u64 e19x0, .int .u64 e19x1, .int .u64 e19x2, .int .u64 e19x3, .int .u64 e19x4], .agg #[.int .u64 e79x0, .int .u64 e79x1, .int .u64 e79x2, .int .u64 e79x3, .int .u64 e79x4], .bool true, .bool false, .bool false, .pointer none, .agg #[.int .u64 e74x0, .int .u64 e74x1, .int .u64 e74x2, .int .u64 e74x3, .int .u64 e74x4], .agg #[.int .u64 e23x0, .int .u64 e23x1, .int .u64 e23x2, .int .u64 e23x3, .int .u64 e23x4], .agg #[.int .u64 e86x0, .int .u64 e86x1, .int .u64 e86x2, .int .u64 e86x3, .int .u64 e86x4], .pointer none, .agg #[.int .u64 e19x0, .int .u64 e19x1, .int .u64 e19x2, .int .u64 e19x3, .int .u64 e19x4], .pointer none, .agg #[.int .u64 e21x0, .int .u64 e21x1, .int .u64 e21x2, .int .u64 e21x3, .int .u64 e21x4], .agg #[.int .u64 e23x0, .int .u64 e23x1, .int .u64 e23x2, .int .u64 e23x3, .int .u64 e23x4], .agg #[.int .u64 e92x0, .int .u64 e92x1, .int .u64 e92x2, .int .u64 e92x3, .int .u64 e92x4], .agg #[.int .u64 e93x0, .int .u64 e93x1, .int .u64 e93x2, .int .u64 e93x3, .int .u64 e93x4], .bool true, .bool false, .bool false, .bool false, .pointer none, .agg #[.int .u64 e19x0, .int .u64 e19x1, .int .u64 e19x2, .int .u64 e19x3, .int .u64 e19x4], .pointer none, .agg #[.int .u64 e21x0, .int .u64 e21x1, .int .u64 e21x2, .int .u64 e21x3, .int .u64 e21x4], .agg #[.int .u64 e23x0, .int .u64 e23x1, .int .u64 e23x2, .int .u64 e23x3, .int .u64 e23x4], .agg #[.int .u64 e103x0, .int .u64 e103x1, .int .u64 e103x2, .int .u64 e103x3, .int .u64 e103x4], .agg #[.int .u64 e104x0, .int .u64 e104x1, .int .u64 e104x2, .int .u64 e104x3, .int .u64 e104x4], .pointer none, .agg #[.int .u64 e74x0, .int .u64 e74x1, .int .u64 e74x2, .int .u64 e74x3, .int .u64 e74x4], .pointer none, .agg #[.int .u64 e19x0, .int .u64 e19x1, .int .u64 e19x2, .int .u64 e19x3, .int .u64 e19x4], .agg #[.int .u64 e23x0, .int .u64 e23x1, .int .u64 e23x2, .int .u64 e23x3, .int .u64 e23x4], .agg #[.int .u64 e110x0, .int .u64 e110x1, .int .u64 e110x2, .int .u64 e110x3, .int .u64 e110x4], .agg #[.int .u64 e111x0, .int .u64 e111x1, .int .u64 e111x2, .int .u64 e111x3, .int .u64 e111x4], .bool true, .bool false, .bool false, c115, c116, c117, c118, c119, c120, c121, c122, c123, c124, c125, c126, c127, c128, c129, c130, c131, c132, c133, c134, c135, c136, c137, c138, c139, c140, c141, c142, c143, c144, c145, c146, c147, c148, c149, c150, c151, c152, c153, c154, c155, c156, c157, c158, c159, c160, c161, c162, c163, c164, c165, c166, c167, c168, c169, c170, c171, c172, c173, c174, c175, c176, c177, c178, c179, c180, c181, c182, c183, c184, c185, c186], []⟩ W') :
    Code.wp Try.prog rgR9 Q ⟨#[c0, c1, c2, c3, c4, c5, c6, c7, c8, .pointer (some ⟨g9, 0, none⟩), .pointer (some ⟨g10, 0, none⟩), .pointer (some ⟨g11, 0, none⟩), .pointer none, c13, .pointer (some ⟨g14, 0, none⟩), c15, c16, c17, c18, c19, c20, c21, c22, c23, c24, c25, c26, c27, c28, c29, c30, c31, c32, c33, c34, c35, c36, c37, c38, c39, c40, c41, c42, c43, c44, c45, c46, c47, c48, c49, c50, c51, c52, c53, c54, c55, c56, c57, c58, c59, c60, c61, c62, c63, c64, c65, c66, c67, c68, c69, c70, c71, c72, c73, c74, c75, c76, c77, c78, c79, c80, c81, c82, c83, c84, c85, c86, c87, c88, c89, c90, c91, c92, c93, c94, c95, c96, c97, c98, c99, c100, c101, c102, c103, c104, c105, c106, c107, c108, c109, c110, c111, c112, c113, c114, c115, c116, c117, c118, c119, c120, c121, c122, c123, c124, c125, c126, c127, c128, c129, c130, c131, c132, c133, c134, c135, c136, c137, c138, c139, c140, c141, c142, c143, c144, c145, c146, c147, c148, c149, c150, c151, c152, c153, c154, c155, c156, c157, c158, c159, c160, c161, c162, c163, c164, c165, c166, c167, c168, c169, c170, c171, c172, c173, c174, c175, c176, c177, c178, c179, c180, c181, c182, c183, c184, c185, c186], []⟩ W := by
  have HH : Hid (∀ W', Below W.heap.size W W' → Q .normal ⟨#[c0, c1, c2, c3, c4, c5, c6, c7, c8, .pointer (some ⟨g9, 0, none⟩), .pointer (some ⟨g10, 0, none⟩), .pointer (some ⟨g11, 0, none⟩), .pointer none, c13, .pointer (some ⟨g14, 0, none⟩), c15, c16, c17, c18, c19, c20, c21, c22, c23, c24, c25, c26, c27, c28, c29, c30, c31, c32, c33, c34, c35, c36, c37, c38, c39, c40, c41, c42, c43, c44, c45, c46, c47, c48, c49, c50, c51, c52, c53, c54, c55, c56, c57, c58, c59, c60, c61, c62, c63, c64, c65, c66, c67, c68, c69, c70, c71, c72, c73, c74, .agg #[.int .u64 e74x0, .int .u64 e74x1, .int .u64 e74x2, .int .u64 e74x3, .int .u64 e74x4], .pointer none, .agg #[.int .u64 e21x0, .int .u64 e21x1, .int .u64 e21x2, .int .u64 e21x3, .int .u64 e21x4], .agg #[.int .u64 e19x0, .int .u64 e19x1, .int .u64 e19x2, .int .u64 e19x3, .int .u64 e19x4], .agg #[.int .u64 e79x0, .int .u64 e79x1, .int .u64 e79x2, .int .u64 e79x3, .int .u64 e79x4], .bool true, .bool false, .bool false, .pointer none, .agg #[.int .u64 e74x0, .int .u64 e74x1, .int .u64 e74x2, .int .u64 e74x3, .int .u64 e74x4], .agg #[.int .u64 e23x0, .int .u64 e23x1, .int .u64 e23x2, .int .u64 e23x3, .int .u64 e23x4], .agg #[.int .u64 e86x0, .int .u64 e86x1, .int .u64 e86x2, .int .u64 e86x3, .int .u64 e86x4], .pointer none, .agg #[.int .u64 e19x0, .int .u64 e19x1, .int .u64 e19x2, .int .u64 e19x3, .int .u64 e19x4], .pointer none, .agg #[.int .u64 e21x0, .int .u64 e21x1, .int .u64 e21x2, .int .u64 e21x3, .int .u64 e21x4], .agg #[.int .u64 e23x0, .int .u64 e23x1, .int .u64 e23x2, .int .u64 e23x3, .int .u64 e23x4], .agg #[.int .u64 e92x0, .int .u64 e92x1, .int .u64 e92x2, .int .u64 e92x3, .int .u64 e92x4], .agg #[.int .u64 e93x0, .int .u64 e93x1, .int .u64 e93x2, .int .u64 e93x3, .int .u64 e93x4], .bool true, .bool false, .bool false, .bool false, .pointer none, .agg #[.int .u64 e19x0, .int .u64 e19x1, .int .u64 e19x2, .int .u64 e19x3, .int .u64 e19x4], .pointer none, .agg #[.int .u64 e21x0, .int .u64 e21x1, .int .u64 e21x2, .int .u64 e21x3, .int .u64 e21x4], .agg #[.int .u64 e23x0, .int .u64 e23x1, .int .u64 e23x2, .int .u64 e23x3, .int .u64 e23x4], .agg #[.int .u64 e103x0, .int .u64 e103x1, .int .u64 e103x2, .int .u64 e103x3, .int .u64 e103x4], .agg #[.int .u64 e104x0, .int .u64 e104x1, .int .u64 e104x2, .int .u64 e104x3, .int .u64 e104x4], .pointer none, .agg #[.int .u64 e74x0, .int .u64 e74x1, .int .u64 e74x2, .int .u64 e74x3, .int .u64 e74x4], .pointer none, .agg #[.int .u64 e19x0, .int .u64 e19x1, .int .u64 e19x2, .int .u64 e19x3, .int .u64 e19x4], .agg #[.int .u64 e23x0, .int .u64 e23x1, .int .u64 e23x2, .int .u64 e23x3, .int .u64 e23x4], .agg #[.int .u64 e110x0, .int .u64 e110x1, .int .u64 e110x2, .int .u64 e110x3, .int .u64 e110x4], .agg #[.int .u64 e111x0, .int .u64 e111x1, .int .u64 e111x2, .int .u64 e111x3, .int .u64 e111x4], .bool true, .bool false, .bool false, c115, c116, c117, c118, c119, c120, c121, c122, c123, c124, c125, c126, c127, c128, c129, c130, c131, c132, c133, c134, c135, c136, c137, c138, c139, c140, c141, c142, c143, c144, c145, c146, c147, c148, c149, c150, c151, c152, c153, c154, c155, c156, c157, c158, c159, c160, c161, c162, c163, c164, c165, c166, c167, c168, c169, c170, c171, c172, c173, c174, c175, c176, c177, c178, c179, c180, c181, c182, c183, c184, c185, c186], []⟩ W') := H
  clear H
  conv => arg 2; whnf
  refine wp_region_quiet_in (C := fun Y => Below W.heap.size W Y) (by kernel_rfl) (by kernel_rfl) ((Below.refl _ _).drew) ?_
  refine wpQuiet_step (fun K hK => ?_)
  refine if_pos_mpr (by kernel_rfl) ⟨.agg #[.int .u64 e74x0, .int .u64 e74x1, .int .u64 e74x2, .int .u64 e74x3, .int .u64 e74x4], fun Y hY => ?_, hK _ ?_⟩
  · obtain ⟨d0, d1, d2, d3, d4⟩ := cells5 (row_below Rg14.out hY)
    go_simp
  clear hK K
  try simp only [Act.put, List.setIfInBounds_toArray, List.set_cons_zero, List.set_cons_succ]
  refine wpQuiet_step (fun K hK => ?_)
  go_simp
  first | refine hK _ ?_ | refine ⟨_, fun _ _ => rfl, hK _ ?_⟩
  clear hK K
  refine wpQuiet_step (fun K hK => ?_)
  refine if_pos_mpr (by kernel_rfl) ⟨.agg #[.int .u64 e21x0, .int .u64 e21x1, .int .u64 e21x2, .int .u64 e21x3, .int .u64 e21x4], fun Y hY => ?_, hK _ ?_⟩
  · obtain ⟨d0, d1, d2, d3, d4⟩ := cells5 (row_below Rg10.out hY)
    go_simp
  clear hK K
  try simp only [Act.put, List.setIfInBounds_toArray, List.set_cons_zero, List.set_cons_succ]
  refine wpQuiet_step (fun K hK => ?_)
  refine if_pos_mpr (by kernel_rfl) ⟨.agg #[.int .u64 e19x0, .int .u64 e19x1, .int .u64 e19x2, .int .u64 e19x3, .int .u64 e19x4], fun Y hY => ?_, hK _ ?_⟩
  · obtain ⟨d0, d1, d2, d3, d4⟩ := cells5 (row_below Rg9.out hY)
    go_simp
  clear hK K
  try simp only [Act.put, List.setIfInBounds_toArray, List.set_cons_zero, List.set_cons_succ]
  refine wpQuiet_step (fun K hK => ?_)
  refine if_pos_mpr (by kernel_rfl) ⟨.agg #[.int .u64 e79x0, .int .u64 e79x1, .int .u64 e79x2, .int .u64 e79x3, .int .u64 e79x4], fun Y hY => ?_, hK _ ?_⟩
  · go_simp
    exact (C79.out Y).mono fun e w' hh => ⟨hh.1, hY.trans (hh.2.mono hY.size)⟩
  clear hK K
  try simp only [Act.put, List.setIfInBounds_toArray, List.set_cons_zero, List.set_cons_succ]
  refine wpQuiet_step (fun K hK => ?_)
  refine if_pos_mpr (by kernel_rfl) ⟨.bool true, fun Y hY => ?_, hK _ ?_⟩
  · go_simp
    exact (C80.out Y).mono fun e w' hh => ⟨hh.1, hY.trans (hh.2.mono hY.size)⟩
  clear hK K
  try simp only [Act.put, List.setIfInBounds_toArray, List.set_cons_zero, List.set_cons_succ]
  refine wpQuiet_step (fun K hK => ?_)
  go_simp
  first | refine hK _ ?_ | refine ⟨_, fun _ _ => rfl, hK _ ?_⟩
  clear hK K
  refine wpQuiet_step (fun K hK => ?_)
  go_simp
  first | refine hK _ ?_ | refine ⟨_, fun _ _ => rfl, hK _ ?_⟩
  clear hK K
  refine wpQuiet_step (fun K hK => ?_)
  go_simp
  first | refine hK _ ?_ | refine ⟨_, fun _ _ => rfl, hK _ ?_⟩
  clear hK K
  refine wpQuiet_step (fun K hK => ?_)
  refine if_pos_mpr (by kernel_rfl) ⟨.agg #[.int .u64 e74x0, .int .u64 e74x1, .int .u64 e74x2, .int .u64 e74x3, .int .u64 e74x4], fun Y hY => ?_, hK _ ?_⟩
  · obtain ⟨d0, d1, d2, d3, d4⟩ := cells5 (row_below Rg14.out hY)
    go_simp
  clear hK K
  try simp only [Act.put, List.setIfInBounds_toArray, List.set_cons_zero, List.set_cons_succ]
  refine wpQuiet_step (fun K hK => ?_)
  refine if_pos_mpr (by kernel_rfl) ⟨.agg #[.int .u64 e23x0, .int .u64 e23x1, .int .u64 e23x2, .int .u64 e23x3, .int .u64 e23x4], fun Y hY => ?_, hK _ ?_⟩
  · obtain ⟨d0, d1, d2, d3, d4⟩ := cells5 (row_below Rg11.out hY)
    go_simp
  clear hK K
  try simp only [Act.put, List.setIfInBounds_toArray, List.set_cons_zero, List.set_cons_succ]
  refine wpQuiet_step (fun K hK => ?_)
  refine if_pos_mpr (by kernel_rfl) ⟨.agg #[.int .u64 e86x0, .int .u64 e86x1, .int .u64 e86x2, .int .u64 e86x3, .int .u64 e86x4], fun Y hY => ?_, hK _ ?_⟩
  · go_simp
    exact (C86.out Y).mono fun e w' hh => ⟨hh.1, hY.trans (hh.2.mono hY.size)⟩
  clear hK K
  try simp only [Act.put, List.setIfInBounds_toArray, List.set_cons_zero, List.set_cons_succ]
  refine wpQuiet_step (fun K hK => ?_)
  go_simp
  first | refine hK _ ?_ | refine ⟨_, fun _ _ => rfl, hK _ ?_⟩
  clear hK K
  refine wpQuiet_step (fun K hK => ?_)
  refine if_pos_mpr (by kernel_rfl) ⟨.agg #[.int .u64 e19x0, .int .u64 e19x1, .int .u64 e19x2, .int .u64 e19x3, .int .u64 e19x4], fun Y hY => ?_, hK _ ?_⟩
  · obtain ⟨d0, d1, d2, d3, d4⟩ := cells5 (row_below Rg9.out hY)
    go_simp
  clear hK K
  try simp only [Act.put, List.setIfInBounds_toArray, List.set_cons_zero, List.set_cons_succ]
  refine wpQuiet_step (fun K hK => ?_)
  go_simp
  first | refine hK _ ?_ | refine ⟨_, fun _ _ => rfl, hK _ ?_⟩
  clear hK K
  refine wpQuiet_step (fun K hK => ?_)
  refine if_pos_mpr (by kernel_rfl) ⟨.agg #[.int .u64 e21x0, .int .u64 e21x1, .int .u64 e21x2, .int .u64 e21x3, .int .u64 e21x4], fun Y hY => ?_, hK _ ?_⟩
  · obtain ⟨d0, d1, d2, d3, d4⟩ := cells5 (row_below Rg10.out hY)
    go_simp
  clear hK K
  try simp only [Act.put, List.setIfInBounds_toArray, List.set_cons_zero, List.set_cons_succ]
  refine wpQuiet_step (fun K hK => ?_)
  refine if_pos_mpr (by kernel_rfl) ⟨.agg #[.int .u64 e23x0, .int .u64 e23x1, .int .u64 e23x2, .int .u64 e23x3, .int .u64 e23x4], fun Y hY => ?_, hK _ ?_⟩
  · obtain ⟨d0, d1, d2, d3, d4⟩ := cells5 (row_below Rg11.out hY)
    go_simp
  clear hK K
  try simp only [Act.put, List.setIfInBounds_toArray, List.set_cons_zero, List.set_cons_succ]
  refine wpQuiet_step (fun K hK => ?_)
  refine if_pos_mpr (by kernel_rfl) ⟨.agg #[.int .u64 e92x0, .int .u64 e92x1, .int .u64 e92x2, .int .u64 e92x3, .int .u64 e92x4], fun Y hY => ?_, hK _ ?_⟩
  · go_simp
    exact (C92.out Y).mono fun e w' hh => ⟨hh.1, hY.trans (hh.2.mono hY.size)⟩
  clear hK K
  try simp only [Act.put, List.setIfInBounds_toArray, List.set_cons_zero, List.set_cons_succ]
  refine wpQuiet_step (fun K hK => ?_)
  refine if_pos_mpr (by kernel_rfl) ⟨.agg #[.int .u64 e93x0, .int .u64 e93x1, .int .u64 e93x2, .int .u64 e93x3, .int .u64 e93x4], fun Y hY => ?_, hK _ ?_⟩
  · go_simp
    exact (C93.out Y).mono fun e w' hh => ⟨hh.1, hY.trans (hh.2.mono hY.size)⟩
  clear hK K
  try simp only [Act.put, List.setIfInBounds_toArray, List.set_cons_zero, List.set_cons_succ]
  refine wpQuiet_step (fun K hK => ?_)
  refine if_pos_mpr (by kernel_rfl) ⟨.bool true, fun Y hY => ?_, hK _ ?_⟩
  · go_simp
    exact (C94.out Y).mono fun e w' hh => ⟨hh.1, hY.trans (hh.2.mono hY.size)⟩
  clear hK K
  try simp only [Act.put, List.setIfInBounds_toArray, List.set_cons_zero, List.set_cons_succ]
  refine wpQuiet_step (fun K hK => ?_)
  go_simp
  first | refine hK _ ?_ | refine ⟨_, fun _ _ => rfl, hK _ ?_⟩
  clear hK K
  refine wpQuiet_step (fun K hK => ?_)
  go_simp
  first | refine hK _ ?_ | refine ⟨_, fun _ _ => rfl, hK _ ?_⟩
  clear hK K
  refine wpQuiet_step (fun K hK => ?_)
  go_simp
  first | refine hK _ ?_ | refine ⟨_, fun _ _ => rfl, hK _ ?_⟩
  clear hK K
  refine wpQuiet_step (fun K hK => ?_)
  go_simp
  first | refine hK _ ?_ | refine ⟨_, fun _ _ => rfl, hK _ ?_⟩
  clear hK K
  refine wpQuiet_step (fun K hK => ?_)
  refine if_pos_mpr (by kernel_rfl) ⟨.agg #[.int .u64 e19x0, .int .u64 e19x1, .int .u64 e19x2, .int .u64 e19x3, .int .u64 e19x4], fun Y hY => ?_, hK _ ?_⟩
  · obtain ⟨d0, d1, d2, d3, d4⟩ := cells5 (row_below Rg9.out hY)
    go_simp
  clear hK K
  try simp only [Act.put, List.setIfInBounds_toArray, List.set_cons_zero, List.set_cons_succ]
  refine wpQuiet_step (fun K hK => ?_)
  go_simp
  first | refine hK _ ?_ | refine ⟨_, fun _ _ => rfl, hK _ ?_⟩
  clear hK K
  refine wpQuiet_step (fun K hK => ?_)
  refine if_pos_mpr (by kernel_rfl) ⟨.agg #[.int .u64 e21x0, .int .u64 e21x1, .int .u64 e21x2, .int .u64 e21x3, .int .u64 e21x4], fun Y hY => ?_, hK _ ?_⟩
  · obtain ⟨d0, d1, d2, d3, d4⟩ := cells5 (row_below Rg10.out hY)
    go_simp
  clear hK K
  try simp only [Act.put, List.setIfInBounds_toArray, List.set_cons_zero, List.set_cons_succ]
  refine wpQuiet_step (fun K hK => ?_)
  refine if_pos_mpr (by kernel_rfl) ⟨.agg #[.int .u64 e23x0, .int .u64 e23x1, .int .u64 e23x2, .int .u64 e23x3, .int .u64 e23x4], fun Y hY => ?_, hK _ ?_⟩
  · obtain ⟨d0, d1, d2, d3, d4⟩ := cells5 (row_below Rg11.out hY)
    go_simp
  clear hK K
  try simp only [Act.put, List.setIfInBounds_toArray, List.set_cons_zero, List.set_cons_succ]
  refine wpQuiet_step (fun K hK => ?_)
  refine if_pos_mpr (by kernel_rfl) ⟨.agg #[.int .u64 e103x0, .int .u64 e103x1, .int .u64 e103x2, .int .u64 e103x3, .int .u64 e103x4], fun Y hY => ?_, hK _ ?_⟩
  · go_simp
    exact (C103.out Y).mono fun e w' hh => ⟨hh.1, hY.trans (hh.2.mono hY.size)⟩
  clear hK K
  try simp only [Act.put, List.setIfInBounds_toArray, List.set_cons_zero, List.set_cons_succ]
  refine wpQuiet_step (fun K hK => ?_)
  refine if_pos_mpr (by kernel_rfl) ⟨.agg #[.int .u64 e104x0, .int .u64 e104x1, .int .u64 e104x2, .int .u64 e104x3, .int .u64 e104x4], fun Y hY => ?_, hK _ ?_⟩
  · go_simp
    exact (C104.out Y).mono fun e w' hh => ⟨hh.1, hY.trans (hh.2.mono hY.size)⟩
  clear hK K
  try simp only [Act.put, List.setIfInBounds_toArray, List.set_cons_zero, List.set_cons_succ]
  refine wpQuiet_step (fun K hK => ?_)
  go_simp
  first | refine hK _ ?_ | refine ⟨_, fun _ _ => rfl, hK _ ?_⟩
  clear hK K
  refine wpQuiet_step (fun K hK => ?_)
  refine if_pos_mpr (by kernel_rfl) ⟨.agg #[.int .u64 e74x0, .int .u64 e74x1, .int .u64 e74x2, .int .u64 e74x3, .int .u64 e74x4], fun Y hY => ?_, hK _ ?_⟩
  · obtain ⟨d0, d1, d2, d3, d4⟩ := cells5 (row_below Rg14.out hY)
    go_simp
  clear hK K
  try simp only [Act.put, List.setIfInBounds_toArray, List.set_cons_zero, List.set_cons_succ]
  refine wpQuiet_step (fun K hK => ?_)
  go_simp
  first | refine hK _ ?_ | refine ⟨_, fun _ _ => rfl, hK _ ?_⟩
  clear hK K
  refine wpQuiet_step (fun K hK => ?_)
  refine if_pos_mpr (by kernel_rfl) ⟨.agg #[.int .u64 e19x0, .int .u64 e19x1, .int .u64 e19x2, .int .u64 e19x3, .int .u64 e19x4], fun Y hY => ?_, hK _ ?_⟩
  · obtain ⟨d0, d1, d2, d3, d4⟩ := cells5 (row_below Rg9.out hY)
    go_simp
  clear hK K
  try simp only [Act.put, List.setIfInBounds_toArray, List.set_cons_zero, List.set_cons_succ]
  refine wpQuiet_step (fun K hK => ?_)
  refine if_pos_mpr (by kernel_rfl) ⟨.agg #[.int .u64 e23x0, .int .u64 e23x1, .int .u64 e23x2, .int .u64 e23x3, .int .u64 e23x4], fun Y hY => ?_, hK _ ?_⟩
  · obtain ⟨d0, d1, d2, d3, d4⟩ := cells5 (row_below Rg11.out hY)
    go_simp
  clear hK K
  try simp only [Act.put, List.setIfInBounds_toArray, List.set_cons_zero, List.set_cons_succ]
  refine wpQuiet_step (fun K hK => ?_)
  refine if_pos_mpr (by kernel_rfl) ⟨.agg #[.int .u64 e110x0, .int .u64 e110x1, .int .u64 e110x2, .int .u64 e110x3, .int .u64 e110x4], fun Y hY => ?_, hK _ ?_⟩
  · go_simp
    exact (C110.out Y).mono fun e w' hh => ⟨hh.1, hY.trans (hh.2.mono hY.size)⟩
  clear hK K
  try simp only [Act.put, List.setIfInBounds_toArray, List.set_cons_zero, List.set_cons_succ]
  refine wpQuiet_step (fun K hK => ?_)
  refine if_pos_mpr (by kernel_rfl) ⟨.agg #[.int .u64 e111x0, .int .u64 e111x1, .int .u64 e111x2, .int .u64 e111x3, .int .u64 e111x4], fun Y hY => ?_, hK _ ?_⟩
  · go_simp
    exact (C111.out Y).mono fun e w' hh => ⟨hh.1, hY.trans (hh.2.mono hY.size)⟩
  clear hK K
  try simp only [Act.put, List.setIfInBounds_toArray, List.set_cons_zero, List.set_cons_succ]
  refine wpQuiet_step (fun K hK => ?_)
  refine if_pos_mpr (by kernel_rfl) ⟨.bool true, fun Y hY => ?_, hK _ ?_⟩
  · go_simp
    exact (C112.out Y).mono fun e w' hh => ⟨hh.1, hY.trans (hh.2.mono hY.size)⟩
  clear hK K
  try simp only [Act.put, List.setIfInBounds_toArray, List.set_cons_zero, List.set_cons_succ]
  refine wpQuiet_step (fun K hK => ?_)
  go_simp
  first | refine hK _ ?_ | refine ⟨_, fun _ _ => rfl, hK _ ?_⟩
  clear hK K
  refine wpQuiet_step (fun K hK => ?_)
  go_simp
  first | refine hK _ ?_ | refine ⟨_, fun _ _ => rfl, hK _ ?_⟩
  clear hK K
  refine wpQuiet_nil ?_
  exact fun W' hb => HH.out W' hb
end Go.Proofs.Yteimmjdiaophoaa
