import Derived.Test.YteimmjdiaophoaaFldT
namespace Go.Proofs.Yteimmjdiaophoaa
set_option linter.unusedSimpArgs false
set_option linter.unusedVariables false
open Go.ChangeShapes Go.WideShapes Go.ChangeAt Go.RowKit Go.Pin Go.Fld
def findReg (n : Nat) : Code → Option Code
  | .region i ops d => if i = n then some (.region i ops d) else none
  | .seq a b => match findReg n a with
    | some c => some c
    | none => findReg n b
  | .block _ c => findReg n c
  | .loop c => findReg n c
  | .scope c => findReg n c
  | .cond _ a b => match findReg n a with
    | some c => some c
    | none => findReg n b
  | _ => none
noncomputable def rgR6 : Code := ((Try.f6.body.bind (findReg 6)).getD .skip)
noncomputable def rgR9 : Code := ((Try.f6.body.bind (findReg 9)).getD .skip)
noncomputable def rgR13 : Code := ((Try.f6.body.bind (findReg 13)).getD .skip)
noncomputable def rgR16 : Code := ((Try.f6.body.bind (findReg 16)).getD .skip)
set_option maxRecDepth 100000 in
set_option maxHeartbeats 8000000 in
theorem ring_r6 {Q : Exit → Act → World → Prop} {W : World} {n : Nat} (HN : Hid (n < 4294967296)) {g13 g10 g9 g11 : Nat} {e27x0 e27x1 e27x2 e27x3 e27x4 e21x0 e21x1 e21x2 e21x3 e21x4 e19x0 e19x1 e19x2 e19x3 e19x4 e32x0 e32x1 e32x2 e32x3 e32x4 e23x0 e23x1 e23x2 e23x3 e23x4 e39x0 e39x1 e39x2 e39x3 e39x4 e45x0 e45x1 e45x2 e45x3 e45x4 e46x0 e46x1 e46x2 e46x3 e46x4 e54x0 e54x1 e54x2 e54x3 e54x4 e64x0 e64x1 e64x2 e64x3 e64x4 e66x0 e66x1 e66x2 e66x3 e66x4 : Int} {c0 c1 c2 c3 c4 c5 c6 c7 c8 c14 c15 c16 c17 c18 c19 c20 c21 c22 c23 c24 c25 c26 c27 c28 c29 c30 c31 c32 c33 c34 c35 c36 c37 c38 c39 c40 c41 c42 c43 c44 c45 c46 c47 c48 c49 c50 c51 c52 c53 c54 c55 c56 c57 c58 c59 c60 c61 c62 c63 c64 c65 c66 c67 c68 c69 c70 c71 c72 c73 c74 c75 c76 c77 c78 c79 c80 c81 c82 c83 c84 c85 c86 c87 c88 c89 c90 c91 c92 c93 c94 c95 c96 c97 c98 c99 c100 c101 c102 c103 c104 c105 c106 c107 c108 c109 c110 c111 c112 c113 c114 c115 c116 c117 c118 c119 c120 c121 c122 c123 c124 c125 c126 c127 c128 c129 c130 c131 c132 c133 c134 c135 c136 c137 c138 c139 c140 c141 c142 c143 c144 c145 c146 c147 c148 c149 c150 c151 c152 c153 c154 c155 c156 c157 c158 c159 c160 c161 c162 c163 c164 c165 c166 c167 c168 c169 c170 c171 c172 c173 c174 c175 c176 c177 c178 c179 c180 c181 c182 c183 c184 c185 c186 : Value}
    (Rg13 : Hid (rowAt W g13 [e27x0, e27x1, e27x2, e27x3, e27x4] 27))
    (Rg10 : Hid (rowAt W g10 [e21x0, e21x1, e21x2, e21x3, e21x4] 27))
    (Rg9 : Hid (rowAt W g9 [e19x0, e19x1, e19x2, e19x3, e19x4] 27))
    (C32 : Hid (∀ w, Calls Try.prog 20 #[.pointer none, .agg #[.int .u64 e21x0, .int .u64 e21x1, .int .u64 e21x2, .int .u64 e21x3, .int .u64 e21x4], .agg #[.int .u64 e19x0, .int .u64 e19x1, .int .u64 e19x2, .int .u64 e19x3, .int .u64 e19x4]] w fun e w' => e = .returned (.agg #[.int .u64 e32x0, .int .u64 e32x1, .int .u64 e32x2, .int .u64 e32x3, .int .u64 e32x4]) ∧ Below w.heap.size w w'))
    (C33 : Hid (∀ w, Calls Try.prog 21 #[.agg #[.int .u64 e27x0, .int .u64 e27x1, .int .u64 e27x2, .int .u64 e27x3, .int .u64 e27x4], .agg #[.int .u64 e32x0, .int .u64 e32x1, .int .u64 e32x2, .int .u64 e32x3, .int .u64 e32x4]] w fun e w' => e = .returned (.bool true) ∧ Below w.heap.size w w'))
    (Rg11 : Hid (rowAt W g11 [e23x0, e23x1, e23x2, e23x3, e23x4] 27))
    (C39 : Hid (∀ w, Calls Try.prog 20 #[.pointer none, .agg #[.int .u64 e27x0, .int .u64 e27x1, .int .u64 e27x2, .int .u64 e27x3, .int .u64 e27x4], .agg #[.int .u64 e23x0, .int .u64 e23x1, .int .u64 e23x2, .int .u64 e23x3, .int .u64 e23x4]] w fun e w' => e = .returned (.agg #[.int .u64 e39x0, .int .u64 e39x1, .int .u64 e39x2, .int .u64 e39x3, .int .u64 e39x4]) ∧ Below w.heap.size w w'))
    (C45 : Hid (∀ w, Calls Try.prog 20 #[.pointer none, .agg #[.int .u64 e21x0, .int .u64 e21x1, .int .u64 e21x2, .int .u64 e21x3, .int .u64 e21x4], .agg #[.int .u64 e23x0, .int .u64 e23x1, .int .u64 e23x2, .int .u64 e23x3, .int .u64 e23x4]] w fun e w' => e = .returned (.agg #[.int .u64 e45x0, .int .u64 e45x1, .int .u64 e45x2, .int .u64 e45x3, .int .u64 e45x4]) ∧ Below w.heap.size w w'))
    (C46 : Hid (∀ w, Calls Try.prog 20 #[.pointer none, .agg #[.int .u64 e19x0, .int .u64 e19x1, .int .u64 e19x2, .int .u64 e19x3, .int .u64 e19x4], .agg #[.int .u64 e45x0, .int .u64 e45x1, .int .u64 e45x2, .int .u64 e45x3, .int .u64 e45x4]] w fun e w' => e = .returned (.agg #[.int .u64 e46x0, .int .u64 e46x1, .int .u64 e46x2, .int .u64 e46x3, .int .u64 e46x4]) ∧ Below w.heap.size w w'))
    (C47 : Hid (∀ w, Calls Try.prog 21 #[.agg #[.int .u64 e39x0, .int .u64 e39x1, .int .u64 e39x2, .int .u64 e39x3, .int .u64 e39x4], .agg #[.int .u64 e46x0, .int .u64 e46x1, .int .u64 e46x2, .int .u64 e46x3, .int .u64 e46x4]] w fun e w' => e = .returned (.bool true) ∧ Below w.heap.size w w'))
    (C54 : Hid (∀ w, Calls Try.prog 22 #[.pointer none, .agg #[.int .u64 e27x0, .int .u64 e27x1, .int .u64 e27x2, .int .u64 e27x3, .int .u64 e27x4], .agg #[.int .u64 e21x0, .int .u64 e21x1, .int .u64 e21x2, .int .u64 e21x3, .int .u64 e21x4]] w fun e w' => e = .returned (.agg #[.int .u64 e54x0, .int .u64 e54x1, .int .u64 e54x2, .int .u64 e54x3, .int .u64 e54x4]) ∧ Below w.heap.size w w'))
    (C56 : Hid (∀ w, Calls Try.prog 21 #[.agg #[.int .u64 e54x0, .int .u64 e54x1, .int .u64 e54x2, .int .u64 e54x3, .int .u64 e54x4], .agg #[.int .u64 e19x0, .int .u64 e19x1, .int .u64 e19x2, .int .u64 e19x3, .int .u64 e19x4]] w fun e w' => e = .returned (.bool true) ∧ Below w.heap.size w w'))
    (C64 : Hid (∀ w, Calls Try.prog 22 #[.pointer none, .agg #[.int .u64 e19x0, .int .u64 e19x1, .int .u64 e19x2, .int .u64 e19x3, .int .u64 e19x4], .agg #[.int .u64 e21x0, .int .u64 e21x1, .int .u64 e21x2, .int .u64 e21x3, .int .u64 e21x4]] w fun e w' => e = .returned (.agg #[.int .u64 e64x0, .int .u64 e64x1, .int .u64 e64x2, .int .u64 e64x3, .int .u64 e64x4]) ∧ Below w.heap.size w w'))
    (C66 : Hid (∀ w, Calls Try.prog 20 #[.pointer none, .agg #[.int .u64 e64x0, .int .u64 e64x1, .int .u64 e64x2, .int .u64 e64x3, .int .u64 e64x4], .agg #[.int .u64 e21x0, .int .u64 e21x1, .int .u64 e21x2, .int .u64 e21x3, .int .u64 e21x4]] w fun e w' => e = .returned (.agg #[.int .u64 e66x0, .int .u64 e66x1, .int .u64 e66x2, .int .u64 e66x3, .int .u64 e66x4]) ∧ Below w.heap.size w w'))
    (C68 : Hid (∀ w, Calls Try.prog 21 #[.agg #[.int .u64 e66x0, .int .u64 e66x1, .int .u64 e66x2, .int .u64 e66x3, .int .u64 e66x4], .agg #[.int .u64 e19x0, .int .u64 e19x1, .int .u64 e19x2, .int .u64 e19x3, .int .u64 e19x4]] w fun e w' => e = .returned (.bool true) ∧ Below w.heap.size w w'))
    (H : ∀ W', Below W.heap.size W W' → Q .normal ⟨#[c0, c1, c2, c3, c4, c5, c6, c7, c8, .pointer (some ⟨g9, 0, none⟩), .pointer (some ⟨g10, 0, none⟩), .pointer (some ⟨g11, 0, none⟩), .pointer none, .pointer (some ⟨g13, 0, none⟩), c14, c15, c16, c17, c18, c19, c20, c21, c22, c23, c24, c25, c26, c27, .agg #[.int .u64 e27x0, .int .u64 e27x1, .int .u64 e27x2, .int .u64 e27x3, .int .u64 e27x4], .pointer none, .agg #[.int .u64 e21x0, .int .u64 e21x1, .int .u64 e21x2, .int .u64 e21x3, .int .u64 e21x4], .agg #[.int .u64 e19x0, .int .u64 e19x1, .int .u64 e19x2, .int .u64 e19x3, .int .u64 e19x4], .agg #[.int .u64 e32x0, .int .u64 e32x1, .int .u64 e32x2, .int .u64 e32x3, .int .u64 e32x4], .bool true, .bool false, .bool false, .pointer none, .agg #[.int .u64 e27x0, .int .u64 e27x1, .int .u64 e27x2, .int .u64 e27x3, .int .u64 e27x4], .agg #[.int .u64 e23x0, .int .u64 e23x1, .int .u64 e23x2, .int .u64 e23x3, .int .u64 e23x4], .agg #[.int .u64 e39x0, .int .u64 e39x1, .int .u64 e39x2, .int .u64 e39x3, .int .u64 e39x4], .pointer none, .agg #[.int .u64 e19x0, .int .u64 e19x1, .int .u64 e19x2, .int .u64 e19x3, .int .u64 e19x4], .pointer none, .agg #[.int .u64 e21x0, .int .u64 e21x1, .int .u64 e21x2, .int .u64 e21x3, .int .u64 e21x4], .agg #[.int .u64 e23x0, .int .u64 e23x1, .int .u64 e23x2, .int .u64 e23x3, .int .u64 e23x4], .agg #[.int .u64 e45x0, .int .u64 e45x1, .int .u64 e45x2, .int .u64 e45x3, .int .u64 e45x4], .agg #[.int .u64 e46x0, .int .u64 e46x1, .int .u64 e46x2, .int .u64 e46x3, .int .u64 e46x4], .bool true, .bool false, .bool false, .bool false, .pointer none, .agg #[.int .u64 e27x0, .int .u64 e27x1, .int .u64 e27x2, .int .u64 e27x3, .int .u64 e27x4], .agg #[.int .u64 e21x0, .int .u64 e21x1, .int .u64 e21x2, .int .u64 e21x3, .int .u64 e21x4], .agg #[.int .u64 e54x0, .int .u64 e54x1, .int .u64 e54x2, .int .u64 e54x3, .int .u64 e54x4], .agg #[.int .u64 e19x0, .int .u64 e19x1, .int .u64 e19x2, .int .u64 e19x3, .int .u64 e19x4], .bool true, .bool false, .bool false, .bool false, .pointer none, .pointer none, .agg #[.int .u64 e19x0, .int .u64 e19x1, .int .u64 e19x2, .int .u64 e19x3, .int .u64 e19x4], .agg #[.int .u64 e21x0, .int .u64 e21x1, .int .u64 e21x2, .int .u64 e21x3, .int .u64 e21x4], .agg #[.int .u64 e64x0, .int .u64 e64x1, .int .u64 e64x2, .int .u64 e64x3, .int .u64 e64x4], .agg #[.int .u64 e21x0, .int .u64 e21x1, .int .u64 e21x2, .int .u64 e21x3, .int .u64 e21x4], .agg #[.int .u64 e66x0, .int .u64 e66x1, .int .u64 e66x2, .int .u64 e66x3, .int .u64 e66x4], .agg #[.int .u64 e19x0, .int .u64 e19x1, .int .u64 e19x2, .int .u64 e19x3, .int .u64 e19x4], .bool true, .bool false, .bool false, c71, c72, c73, c74, c75, c76, c77, c78, c79, c80, c81, c82, c83, c84, c85, c86, c87, c88, c89, c90, c91, c92, c93, c94, c95, c96, c97, c98, c99, c100, c101, c102, c103, c104, c105, c106, c107, c108, c109, c110, c111, c112, c113, c114, c115, c116, c117, c118, c119, c120, c121, c122, c123, c124, c125, c126, c127, c128, c129, c130, c131, c132, c133, c134, c135, c136, c137, c138, c139, c140, c141, c142, c143, c144, c145, c146, c147, c148, c149, c150, c151, c152, c153, c154, c155, c156, c157, c158, c159, c160, c161, c162, c163, c164, c165, c166, c167, c168, c169, c170, c171, c172, c173, c174, c175, c176, c177, c178, c179, c180, c181, c182, c183, c184, c185, c186], []⟩ W') :
    Code.wp Try.prog rgR6 Q ⟨#[c0, c1, c2, c3, c4, c5, c6, c7, c8, .pointer (some ⟨g9, 0, none⟩), .pointer (some ⟨g10, 0, none⟩), .pointer (some ⟨g11, 0, none⟩), .pointer none, .pointer (some ⟨g13, 0, none⟩), c14, c15, c16, c17, c18, c19, c20, c21, c22, c23, c24, c25, c26, c27, c28, c29, c30, c31, c32, c33, c34, c35, c36, c37, c38, c39, c40, c41, c42, c43, c44, c45, c46, c47, c48, c49, c50, c51, c52, c53, c54, c55, c56, c57, c58, c59, c60, c61, c62, c63, c64, c65, c66, c67, c68, c69, c70, c71, c72, c73, c74, c75, c76, c77, c78, c79, c80, c81, c82, c83, c84, c85, c86, c87, c88, c89, c90, c91, c92, c93, c94, c95, c96, c97, c98, c99, c100, c101, c102, c103, c104, c105, c106, c107, c108, c109, c110, c111, c112, c113, c114, c115, c116, c117, c118, c119, c120, c121, c122, c123, c124, c125, c126, c127, c128, c129, c130, c131, c132, c133, c134, c135, c136, c137, c138, c139, c140, c141, c142, c143, c144, c145, c146, c147, c148, c149, c150, c151, c152, c153, c154, c155, c156, c157, c158, c159, c160, c161, c162, c163, c164, c165, c166, c167, c168, c169, c170, c171, c172, c173, c174, c175, c176, c177, c178, c179, c180, c181, c182, c183, c184, c185, c186], []⟩ W := by
  have HH : Hid (∀ W', Below W.heap.size W W' → Q .normal ⟨#[c0, c1, c2, c3, c4, c5, c6, c7, c8, .pointer (some ⟨g9, 0, none⟩), .pointer (some ⟨g10, 0, none⟩), .pointer (some ⟨g11, 0, none⟩), .pointer none, .pointer (some ⟨g13, 0, none⟩), c14, c15, c16, c17, c18, c19, c20, c21, c22, c23, c24, c25, c26, c27, .agg #[.int .u64 e27x0, .int .u64 e27x1, .int .u64 e27x2, .int .u64 e27x3, .int .u64 e27x4], .pointer none, .agg #[.int .u64 e21x0, .int .u64 e21x1, .int .u64 e21x2, .int .u64 e21x3, .int .u64 e21x4], .agg #[.int .u64 e19x0, .int .u64 e19x1, .int .u64 e19x2, .int .u64 e19x3, .int .u64 e19x4], .agg #[.int .u64 e32x0, .int .u64 e32x1, .int .u64 e32x2, .int .u64 e32x3, .int .u64 e32x4], .bool true, .bool false, .bool false, .pointer none, .agg #[.int .u64 e27x0, .int .u64 e27x1, .int .u64 e27x2, .int .u64 e27x3, .int .u64 e27x4], .agg #[.int .u64 e23x0, .int .u64 e23x1, .int .u64 e23x2, .int .u64 e23x3, .int .u64 e23x4], .agg #[.int .u64 e39x0, .int .u64 e39x1, .int .u64 e39x2, .int .u64 e39x3, .int .u64 e39x4], .pointer none, .agg #[.int .u64 e19x0, .int .u64 e19x1, .int .u64 e19x2, .int .u64 e19x3, .int .u64 e19x4], .pointer none, .agg #[.int .u64 e21x0, .int .u64 e21x1, .int .u64 e21x2, .int .u64 e21x3, .int .u64 e21x4], .agg #[.int .u64 e23x0, .int .u64 e23x1, .int .u64 e23x2, .int .u64 e23x3, .int .u64 e23x4], .agg #[.int .u64 e45x0, .int .u64 e45x1, .int .u64 e45x2, .int .u64 e45x3, .int .u64 e45x4], .agg #[.int .u64 e46x0, .int .u64 e46x1, .int .u64 e46x2, .int .u64 e46x3, .int .u64 e46x4], .bool true, .bool false, .bool false, .bool false, .pointer none, .agg #[.int .u64 e27x0, .int .u64 e27x1, .int .u64 e27x2, .int .u64 e27x3, .int .u64 e27x4], .agg #[.int .u64 e21x0, .int .u64 e21x1, .int .u64 e21x2, .int .u64 e21x3, .int .u64 e21x4], .agg #[.int .u64 e54x0, .int .u64 e54x1, .int .u64 e54x2, .int .u64 e54x3, .int .u64 e54x4], .agg #[.int .u64 e19x0, .int .u64 e19x1, .int .u64 e19x2, .int .u64 e19x3, .int .u64 e19x4], .bool true, .bool false, .bool false, .bool false, .pointer none, .pointer none, .agg #[.int .u64 e19x0, .int .u64 e19x1, .int .u64 e19x2, .int .u64 e19x3, .int .u64 e19x4], .agg #[.int .u64 e21x0, .int .u64 e21x1, .int .u64 e21x2, .int .u64 e21x3, .int .u64 e21x4], .agg #[.int .u64 e64x0, .int .u64 e64x1, .int .u64 e64x2, .int .u64 e64x3, .int .u64 e64x4], .agg #[.int .u64 e21x0, .int .u64 e21x1, .int .u64 e21x2, .int .u64 e21x3, .int .u64 e21x4], .agg #[.int .u64 e66x0, .int .u64 e66x1, .int .u64 e66x2, .int .u64 e66x3, .int .u64 e66x4], .agg #[.int .u64 e19x0, .int .u64 e19x1, .int .u64 e19x2, .int .u64 e19x3, .int .u64 e19x4], .bool true, .bool false, .bool false, c71, c72, c73, c74, c75, c76, c77, c78, c79, c80, c81, c82, c83, c84, c85, c86, c87, c88, c89, c90, c91, c92, c93, c94, c95, c96, c97, c98, c99, c100, c101, c102, c103, c104, c105, c106, c107, c108, c109, c110, c111, c112, c113, c114, c115, c116, c117, c118, c119, c120, c121, c122, c123, c124, c125, c126, c127, c128, c129, c130, c131, c132, c133, c134, c135, c136, c137, c138, c139, c140, c141, c142, c143, c144, c145, c146, c147, c148, c149, c150, c151, c152, c153, c154, c155, c156, c157, c158, c159, c160, c161, c162, c163, c164, c165, c166, c167, c168, c169, c170, c171, c172, c173, c174, c175, c176, c177, c178, c179, c180, c181, c182, c183, c184, c185, c186], []⟩ W') := H
  clear H
  conv => arg 2; whnf
  refine wp_region_quiet_in (C := fun Y => Below W.heap.size W Y) (by kernel_rfl) (by kernel_rfl) ((Below.refl _ _).drew) ?_
  refine wpQuiet_step (fun K hK => ?_)
  refine if_pos_mpr (by kernel_rfl) ⟨.agg #[.int .u64 e27x0, .int .u64 e27x1, .int .u64 e27x2, .int .u64 e27x3, .int .u64 e27x4], fun Y hY => ?_, hK _ ?_⟩
  · obtain ⟨d0, d1, d2, d3, d4⟩ := cells5 (row_below Rg13.out hY)
    go_simp
  clear hK K
  try simp only [Act.put, List.setIfInBounds_toArray, List.set_cons_zero, List.set_cons_succ]
  refine wpQuiet_step (fun K hK => ?_)
  go_simp
  first | refine hK _ ?_ | refine ⟨_, fun _ _ => rfl, hK _ ?_⟩
  clear hK K
  refine wpQuiet_step (fun K hK => ?_)
  refine if_pos_mpr (by kernel_rfl) ⟨.agg #[.int .u64 e21x0, .int .u64 e21x1, .int .u64 e21x2, .int .u64 e21x3, .int .u64 e21x4], fun Y hY => ?_, hK _ ?_⟩
  · obtain ⟨d0, d1, d2, d3, d4⟩ := cells5 (row_below Rg10.out hY)
    go_simp
  clear hK K
  try simp only [Act.put, List.setIfInBounds_toArray, List.set_cons_zero, List.set_cons_succ]
  refine wpQuiet_step (fun K hK => ?_)
  refine if_pos_mpr (by kernel_rfl) ⟨.agg #[.int .u64 e19x0, .int .u64 e19x1, .int .u64 e19x2, .int .u64 e19x3, .int .u64 e19x4], fun Y hY => ?_, hK _ ?_⟩
  · obtain ⟨d0, d1, d2, d3, d4⟩ := cells5 (row_below Rg9.out hY)
    go_simp
  clear hK K
  try simp only [Act.put, List.setIfInBounds_toArray, List.set_cons_zero, List.set_cons_succ]
  refine wpQuiet_step (fun K hK => ?_)
  refine if_pos_mpr (by kernel_rfl) ⟨.agg #[.int .u64 e32x0, .int .u64 e32x1, .int .u64 e32x2, .int .u64 e32x3, .int .u64 e32x4], fun Y hY => ?_, hK _ ?_⟩
  · go_simp
    exact (C32.out Y).mono fun e w' hh => ⟨hh.1, hY.trans (hh.2.mono hY.size)⟩
  clear hK K
  try simp only [Act.put, List.setIfInBounds_toArray, List.set_cons_zero, List.set_cons_succ]
  refine wpQuiet_step (fun K hK => ?_)
  refine if_pos_mpr (by kernel_rfl) ⟨.bool true, fun Y hY => ?_, hK _ ?_⟩
  · go_simp
    exact (C33.out Y).mono fun e w' hh => ⟨hh.1, hY.trans (hh.2.mono hY.size)⟩
  clear hK K
  try simp only [Act.put, List.setIfInBounds_toArray, List.set_cons_zero, List.set_cons_succ]
  refine wpQuiet_step (fun K hK => ?_)
  go_simp
  first | refine hK _ ?_ | refine ⟨_, fun _ _ => rfl, hK _ ?_⟩
  clear hK K
  refine wpQuiet_step (fun K hK => ?_)
  go_simp
  first | refine hK _ ?_ | refine ⟨_, fun _ _ => rfl, hK _ ?_⟩
  clear hK K
  refine wpQuiet_step (fun K hK => ?_)
  go_simp
  first | refine hK _ ?_ | refine ⟨_, fun _ _ => rfl, hK _ ?_⟩
  clear hK K
  refine wpQuiet_step (fun K hK => ?_)
  refine if_pos_mpr (by kernel_rfl) ⟨.agg #[.int .u64 e27x0, .int .u64 e27x1, .int .u64 e27x2, .int .u64 e27x3, .int .u64 e27x4], fun Y hY => ?_, hK _ ?_⟩
  · obtain ⟨d0, d1, d2, d3, d4⟩ := cells5 (row_below Rg13.out hY)
    go_simp
  clear hK K
  try simp only [Act.put, List.setIfInBounds_toArray, List.set_cons_zero, List.set_cons_succ]
  refine wpQuiet_step (fun K hK => ?_)
  refine if_pos_mpr (by kernel_rfl) ⟨.agg #[.int .u64 e23x0, .int .u64 e23x1, .int .u64 e23x2, .int .u64 e23x3, .int .u64 e23x4], fun Y hY => ?_, hK _ ?_⟩
  · obtain ⟨d0, d1, d2, d3, d4⟩ := cells5 (row_below Rg11.out hY)
    go_simp
  clear hK K
  try simp only [Act.put, List.setIfInBounds_toArray, List.set_cons_zero, List.set_cons_succ]
  refine wpQuiet_step (fun K hK => ?_)
  refine if_pos_mpr (by kernel_rfl) ⟨.agg #[.int .u64 e39x0, .int .u64 e39x1, .int .u64 e39x2, .int .u64 e39x3, .int .u64 e39x4], fun Y hY => ?_, hK _ ?_⟩
  · go_simp
    exact (C39.out Y).mono fun e w' hh => ⟨hh.1, hY.trans (hh.2.mono hY.size)⟩
  clear hK K
  try simp only [Act.put, List.setIfInBounds_toArray, List.set_cons_zero, List.set_cons_succ]
  refine wpQuiet_step (fun K hK => ?_)
  go_simp
  first | refine hK _ ?_ | refine ⟨_, fun _ _ => rfl, hK _ ?_⟩
  clear hK K
  refine wpQuiet_step (fun K hK => ?_)
  refine if_pos_mpr (by kernel_rfl) ⟨.agg #[.int .u64 e19x0, .int .u64 e19x1, .int .u64 e19x2, .int .u64 e19x3, .int .u64 e19x4], fun Y hY => ?_, hK _ ?_⟩
  · obtain ⟨d0, d1, d2, d3, d4⟩ := cells5 (row_below Rg9.out hY)
    go_simp
  clear hK K
  try simp only [Act.put, List.setIfInBounds_toArray, List.set_cons_zero, List.set_cons_succ]
  refine wpQuiet_step (fun K hK => ?_)
  go_simp
  first | refine hK _ ?_ | refine ⟨_, fun _ _ => rfl, hK _ ?_⟩
  clear hK K
  refine wpQuiet_step (fun K hK => ?_)
  refine if_pos_mpr (by kernel_rfl) ⟨.agg #[.int .u64 e21x0, .int .u64 e21x1, .int .u64 e21x2, .int .u64 e21x3, .int .u64 e21x4], fun Y hY => ?_, hK _ ?_⟩
  · obtain ⟨d0, d1, d2, d3, d4⟩ := cells5 (row_below Rg10.out hY)
    go_simp
  clear hK K
  try simp only [Act.put, List.setIfInBounds_toArray, List.set_cons_zero, List.set_cons_succ]
  refine wpQuiet_step (fun K hK => ?_)
  refine if_pos_mpr (by kernel_rfl) ⟨.agg #[.int .u64 e23x0, .int .u64 e23x1, .int .u64 e23x2, .int .u64 e23x3, .int .u64 e23x4], fun Y hY => ?_, hK _ ?_⟩
  · obtain ⟨d0, d1, d2, d3, d4⟩ := cells5 (row_below Rg11.out hY)
    go_simp
  clear hK K
  try simp only [Act.put, List.setIfInBounds_toArray, List.set_cons_zero, List.set_cons_succ]
  refine wpQuiet_step (fun K hK => ?_)
  refine if_pos_mpr (by kernel_rfl) ⟨.agg #[.int .u64 e45x0, .int .u64 e45x1, .int .u64 e45x2, .int .u64 e45x3, .int .u64 e45x4], fun Y hY => ?_, hK _ ?_⟩
  · go_simp
    exact (C45.out Y).mono fun e w' hh => ⟨hh.1, hY.trans (hh.2.mono hY.size)⟩
  clear hK K
  try simp only [Act.put, List.setIfInBounds_toArray, List.set_cons_zero, List.set_cons_succ]
  refine wpQuiet_step (fun K hK => ?_)
  refine if_pos_mpr (by kernel_rfl) ⟨.agg #[.int .u64 e46x0, .int .u64 e46x1, .int .u64 e46x2, .int .u64 e46x3, .int .u64 e46x4], fun Y hY => ?_, hK _ ?_⟩
  · go_simp
    exact (C46.out Y).mono fun e w' hh => ⟨hh.1, hY.trans (hh.2.mono hY.size)⟩
  clear hK K
  try simp only [Act.put, List.setIfInBounds_toArray, List.set_cons_zero, List.set_cons_succ]
  refine wpQuiet_step (fun K hK => ?_)
  refine if_pos_mpr (by kernel_rfl) ⟨.bool true, fun Y hY => ?_, hK _ ?_⟩
  · go_simp
    exact (C47.out Y).mono fun e w' hh => ⟨hh.1, hY.trans (hh.2.mono hY.size)⟩
  clear hK K
  try simp only [Act.put, List.setIfInBounds_toArray, List.set_cons_zero, List.set_cons_succ]
  refine wpQuiet_step (fun K hK => ?_)
  go_simp
  first | refine hK _ ?_ | refine ⟨_, fun _ _ => rfl, hK _ ?_⟩
  clear hK K
  refine wpQuiet_step (fun K hK => ?_)
  go_simp
  first | refine hK _ ?_ | refine ⟨_, fun _ _ => rfl, hK _ ?_⟩
  clear hK K
  refine wpQuiet_step (fun K hK => ?_)
  go_simp
  first | refine hK _ ?_ | refine ⟨_, fun _ _ => rfl, hK _ ?_⟩
  clear hK K
  refine wpQuiet_step (fun K hK => ?_)
  go_simp
  first | refine hK _ ?_ | refine ⟨_, fun _ _ => rfl, hK _ ?_⟩
  clear hK K
  refine wpQuiet_step (fun K hK => ?_)
  refine if_pos_mpr (by kernel_rfl) ⟨.agg #[.int .u64 e27x0, .int .u64 e27x1, .int .u64 e27x2, .int .u64 e27x3, .int .u64 e27x4], fun Y hY => ?_, hK _ ?_⟩
  · obtain ⟨d0, d1, d2, d3, d4⟩ := cells5 (row_below Rg13.out hY)
    go_simp
  clear hK K
  try simp only [Act.put, List.setIfInBounds_toArray, List.set_cons_zero, List.set_cons_succ]
  refine wpQuiet_step (fun K hK => ?_)
  refine if_pos_mpr (by kernel_rfl) ⟨.agg #[.int .u64 e21x0, .int .u64 e21x1, .int .u64 e21x2, .int .u64 e21x3, .int .u64 e21x4], fun Y hY => ?_, hK _ ?_⟩
  · obtain ⟨d0, d1, d2, d3, d4⟩ := cells5 (row_below Rg10.out hY)
    go_simp
  clear hK K
  try simp only [Act.put, List.setIfInBounds_toArray, List.set_cons_zero, List.set_cons_succ]
  refine wpQuiet_step (fun K hK => ?_)
  refine if_pos_mpr (by kernel_rfl) ⟨.agg #[.int .u64 e54x0, .int .u64 e54x1, .int .u64 e54x2, .int .u64 e54x3, .int .u64 e54x4], fun Y hY => ?_, hK _ ?_⟩
  · go_simp
    exact (C54.out Y).mono fun e w' hh => ⟨hh.1, hY.trans (hh.2.mono hY.size)⟩
  clear hK K
  try simp only [Act.put, List.setIfInBounds_toArray, List.set_cons_zero, List.set_cons_succ]
  refine wpQuiet_step (fun K hK => ?_)
  refine if_pos_mpr (by kernel_rfl) ⟨.agg #[.int .u64 e19x0, .int .u64 e19x1, .int .u64 e19x2, .int .u64 e19x3, .int .u64 e19x4], fun Y hY => ?_, hK _ ?_⟩
  · obtain ⟨d0, d1, d2, d3, d4⟩ := cells5 (row_below Rg9.out hY)
    go_simp
  clear hK K
  try simp only [Act.put, List.setIfInBounds_toArray, List.set_cons_zero, List.set_cons_succ]
  refine wpQuiet_step (fun K hK => ?_)
  refine if_pos_mpr (by kernel_rfl) ⟨.bool true, fun Y hY => ?_, hK _ ?_⟩
  · go_simp
    exact (C56.out Y).mono fun e w' hh => ⟨hh.1, hY.trans (hh.2.mono hY.size)⟩
  clear hK K
  try simp only [Act.put, List.setIfInBounds_toArray, List.set_cons_zero, List.set_cons_succ]
  refine wpQuiet_step (fun K hK => ?_)
  go_simp
  first | refine hK _ ?_ | refine ⟨_, fun _ _ => rfl, hK _ ?_⟩
  clear hK K
  refine wpQuiet_step (fun K hK => ?_)
  go_simp
  first | refine hK _ ?_ | refine ⟨_, fun _ _ => rfl, hK _ ?_⟩
  clear hK K
  refine wpQuiet_step (fun K hK => ?_)
  go_simp
  first | refine hK _ ?_ | refine ⟨_, fun _ _ => rfl, hK _ ?_⟩
  clear hK K
  refine wpQuiet_step (fun K hK => ?_)
  go_simp
  first | refine hK _ ?_ | refine ⟨_, fun _ _ => rfl, hK _ ?_⟩
  clear hK K
  refine wpQuiet_step (fun K hK => ?_)
  go_simp
  first | refine hK _ ?_ | refine ⟨_, fun _ _ => rfl, hK _ ?_⟩
  clear hK K
  refine wpQuiet_step (fun K hK => ?_)
  refine if_pos_mpr (by kernel_rfl) ⟨.agg #[.int .u64 e19x0, .int .u64 e19x1, .int .u64 e19x2, .int .u64 e19x3, .int .u64 e19x4], fun Y hY => ?_, hK _ ?_⟩
  · obtain ⟨d0, d1, d2, d3, d4⟩ := cells5 (row_below Rg9.out hY)
    go_simp
  clear hK K
  try simp only [Act.put, List.setIfInBounds_toArray, List.set_cons_zero, List.set_cons_succ]
  refine wpQuiet_step (fun K hK => ?_)
  refine if_pos_mpr (by kernel_rfl) ⟨.agg #[.int .u64 e21x0, .int .u64 e21x1, .int .u64 e21x2, .int .u64 e21x3, .int .u64 e21x4], fun Y hY => ?_, hK _ ?_⟩
  · obtain ⟨d0, d1, d2, d3, d4⟩ := cells5 (row_below Rg10.out hY)
    go_simp
  clear hK K
  try simp only [Act.put, List.setIfInBounds_toArray, List.set_cons_zero, List.set_cons_succ]
  refine wpQuiet_step (fun K hK => ?_)
  refine if_pos_mpr (by kernel_rfl) ⟨.agg #[.int .u64 e64x0, .int .u64 e64x1, .int .u64 e64x2, .int .u64 e64x3, .int .u64 e64x4], fun Y hY => ?_, hK _ ?_⟩
  · go_simp
    exact (C64.out Y).mono fun e w' hh => ⟨hh.1, hY.trans (hh.2.mono hY.size)⟩
  clear hK K
  try simp only [Act.put, List.setIfInBounds_toArray, List.set_cons_zero, List.set_cons_succ]
  refine wpQuiet_step (fun K hK => ?_)
  refine if_pos_mpr (by kernel_rfl) ⟨.agg #[.int .u64 e21x0, .int .u64 e21x1, .int .u64 e21x2, .int .u64 e21x3, .int .u64 e21x4], fun Y hY => ?_, hK _ ?_⟩
  · obtain ⟨d0, d1, d2, d3, d4⟩ := cells5 (row_below Rg10.out hY)
    go_simp
  clear hK K
  try simp only [Act.put, List.setIfInBounds_toArray, List.set_cons_zero, List.set_cons_succ]
  refine wpQuiet_step (fun K hK => ?_)
  refine if_pos_mpr (by kernel_rfl) ⟨.agg #[.int .u64 e66x0, .int .u64 e66x1, .int .u64 e66x2, .int .u64 e66x3, .int .u64 e66x4], fun Y hY => ?_, hK _ ?_⟩
  · go_simp
    exact (C66.out Y).mono fun e w' hh => ⟨hh.1, hY.trans (hh.2.mono hY.size)⟩
  clear hK K
  try simp only [Act.put, List.setIfInBounds_toArray, List.set_cons_zero, List.set_cons_succ]
  refine wpQuiet_step (fun K hK => ?_)
  refine if_pos_mpr (by kernel_rfl) ⟨.agg #[.int .u64 e19x0, .int .u64 e19x1, .int .u64 e19x2, .int .u64 e19x3, .int .u64 e19x4], fun Y hY => ?_, hK _ ?_⟩
  · obtain ⟨d0, d1, d2, d3, d4⟩ := cells5 (row_below Rg9.out hY)
    go_simp
  clear hK K
  try simp only [Act.put, List.setIfInBounds_toArray, List.set_cons_zero, List.set_cons_succ]
  refine wpQuiet_step (fun K hK => ?_)
  refine if_pos_mpr (by kernel_rfl) ⟨.bool true, fun Y hY => ?_, hK _ ?_⟩
  · go_simp
    exact (C68.out Y).mono fun e w' hh => ⟨hh.1, hY.trans (hh.2.mono hY.size)⟩
  clear hK K
  try simp only [Act.put, List.setIfInBounds_toArray, List.set_cons_zero, List.set_cons_succ]
  refine wpQuiet_step (fun K hK => ?_)
  go_simp
  first | refine hK _ ?_ | refine ⟨_, fun _ _ => rfl, hK _ ?_⟩
  clear hK K
  refine wpQuiet_step (fun K hK => ?_)
  go_simp
  first | refine hK _ ?_ | refine ⟨_, fun _ _ => rfl, hK _ ?_⟩
  clear hK K
  refine wpQuiet_nil ?_
  exact fun W' hb => HH.out W' hb
end Go.Proofs.Yteimmjdiaophoaa
