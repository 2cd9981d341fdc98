import Derived.Test.YtacofgmnmofkpaaMfal
import Derived.Test.YtacofgmnmofkpaaMfam
namespace Go.Proofs.Ytacofgmnmofkpaa
set_option linter.unusedSimpArgs false
set_option linter.unusedVariables false
open Go.ChangeShapes Go.WideShapes Go.ChangeAt Go.RowKit Go.Pin Go.Fld
noncomputable def rgB33 : Code := ((Try.f17.body.bind (findReg 33)).getD .skip)
noncomputable def opB33 : Array Oper := opsOf rgB33
theorem rgB33_is : rgB33 = .region 33 opB33 true := by kernel_rfl
theorem opB33_ns : Region.noSelect opB33 = true := by kernel_rfl
theorem opB33_0 : opIs opB33 0 (.move (.tmp 1)) (some 261) := by unfold opIs; kernel_rfl
theorem opB33_1 : opIs opB33 1 (.fieldAddr 60 (.tmp 5) 6) (some 262) := by unfold opIs; kernel_rfl
theorem opB33_2 : opIs opB33 2 (.load 44 (.tmp 262)) (some 263) := by unfold opIs; kernel_rfl
theorem opB33_3 : opIs opB33 3 (.move (.tmp 0)) (some 264) := by unfold opIs; kernel_rfl
theorem opB33_4 : opIs opB33 4 (.move (.tmp 6)) (some 265) := by unfold opIs; kernel_rfl
theorem opB33_5 : opIs opB33 5 (.nilCheck (.tmp 264)) (some 266) := by unfold opIs; kernel_rfl
theorem opB33_6 : opIs opB33 6 (.fieldAddr 53 (.tmp 266) 0) (some 267) := by unfold opIs; kernel_rfl
theorem opB33_7 : opIs opB33 7 (.indexAddr 48 (.tmp 267) (.tmp 265)) (some 268) := by unfold opIs; kernel_rfl
theorem opB33_8 : opIs opB33 8 (.move (.tmp 0)) (some 269) := by unfold opIs; kernel_rfl
theorem opB33_9 : opIs opB33 9 (.move (.tmp 7)) (some 270) := by unfold opIs; kernel_rfl
theorem opB33_10 : opIs opB33 10 (.nilCheck (.tmp 269)) (some 271) := by unfold opIs; kernel_rfl
theorem opB33_11 : opIs opB33 11 (.fieldAddr 53 (.tmp 271) 0) (some 272) := by unfold opIs; kernel_rfl
theorem opB33_12 : opIs opB33 12 (.indexAddr 48 (.tmp 272) (.tmp 270)) (some 273) := by unfold opIs; kernel_rfl
theorem opB33_13 : opIs opB33 13 (.call { callee := .value (.func 46), args := #[.tmp 261, .tmp 263, .tmp 268, .tmp 273], argTypes := #[23, 44, 97, 97] }) (some 274) := by unfold opIs; kernel_rfl
set_option maxRecDepth 100000 in
set_option maxHeartbeats 4000000 in
theorem bk_r33 {Q : Exit → Act → World → Prop} {B : Nat} {w W : World} {rv vs : Value} {lr ll : List (Int × Int)} {g gx : Nat} {es : Nat → List Int} {ns : Nat → Nat} {bx : List (Nat × Obj)} {i k c : Nat} {D : List Int} {K0 A0 B0 C0 N T : Int}  {c2 c3 c4 c9 c10 c11 c12 c13 c14 c15 c16 c17 c18 c19 c20 c21 c22 c23 c24 c25 c26 c27 c28 c29 c30 c31 c32 c33 c34 c35 c36 c37 c38 c39 c40 c41 c42 c43 c44 c45 c46 c47 c48 c49 c50 c51 c52 c53 c54 c55 c56 c57 c58 c59 c60 c61 c62 c63 c64 c65 c66 c67 c68 c69 c70 c71 c72 c73 c74 c75 c76 c77 c78 c79 c80 c81 c82 c83 c84 c85 c86 c87 c88 c89 c90 c91 c92 c93 c94 c95 c96 c97 c98 c99 c100 c101 c102 c103 c104 c105 c106 c107 c108 c109 c110 c111 c112 c113 c114 c115 c116 c117 c118 c119 c120 c121 c122 c123 c124 c125 c126 c127 c128 c129 c130 c131 c132 c133 c134 c135 c136 c137 c138 c139 c140 c141 c142 c143 c144 c145 c146 c147 c148 c149 c150 c151 c152 c153 c154 c155 c156 c157 c158 c159 c160 c161 c162 c163 c164 c165 c166 c167 c168 c169 c170 c171 c172 c173 c174 c175 c176 c177 c178 c179 c180 c181 c182 c183 c184 c185 c186 c187 c188 c189 c190 c191 c192 c193 c194 c195 c196 c197 c198 c199 c200 c201 c202 c203 c204 c205 c206 c207 c208 c209 c210 c211 c212 c213 c214 c215 c216 c217 c218 c219 c220 c221 c222 c223 c224 c225 c226 c227 c228 c229 c230 c231 c232 c233 c234 c235 c236 c237 c238 c239 c240 c241 c242 c243 c244 c245 c246 c247 c248 c249 c250 c251 c252 c253 c254 c255 c256 c257 c258 c259 c260 c261 c262 c263 c264 c265 c266 c267 c268 c269 c270 c271 c272 c273 c274 c275 c276 c277 c278 c279 c280 c281 c282 c283 c284 c285 c286 c287 c288 c289 c290 c291 c292 c293 c294 c295 c296 c297 c298 c299 c300 c301 c302 c303 c304 c305 c306 c307 c308 c309 c310 c311 c312 c313 c314 c315 c316 c317 c318 c319 c320 c321 c322 c323 c324 c325 c326 c327 c328 c329 c330 c331 c332 c333 c334 c335 c336 c337 c338 c339 c340 : Value}
    (hi8 : Hid (i < 8)) (hk8 : Hid (k < 8)) (hc8 : Hid (c < 8)) (LD : Hid (D.length = 32))
    (HT : Hid (0 ≤ T ∧ T < 18446744073709551616)) (hl : Hid (lr.length ≤ 1000000))
    (mx : (gx, stO K0 A0 B0 C0 D N T) ∈ bx)
    (XX : SB B w rv lr g es ns vs ll bx W)
    (HPN : ∀ c (a : Act) d v w, Q (.panic c) (a.put d v) w → Q (.panic c) a w)
    (H : ∀ W', SB B w rv (lr ++ [(3, 7)]) g (upd (upd es i (swp T (es i) (es k))) k (swp T (es k) (es i))) ns vs ll bx W' → Q .normal ⟨#[.pointer (some ⟨g, 0, none⟩), rv, c2, c3, c4, .pointer (some ⟨gx, 0, none⟩), .int .i64 (i : Int), .int .i64 (k : Int), .int .i64 (c : Int), c9, c10, c11, c12, c13, c14, c15, c16, c17, c18, c19, c20, c21, c22, c23, c24, c25, c26, c27, c28, c29, c30, c31, c32, c33, c34, c35, c36, c37, c38, c39, c40, c41, c42, c43, c44, c45, c46, c47, c48, c49, c50, c51, c52, c53, c54, c55, c56, c57, c58, c59, c60, c61, c62, c63, c64, c65, c66, c67, c68, c69, c70, c71, c72, c73, c74, c75, c76, c77, c78, c79, c80, c81, c82, c83, c84, c85, c86, c87, c88, c89, c90, c91, c92, c93, c94, c95, c96, c97, c98, c99, c100, c101, c102, c103, c104, c105, c106, c107, c108, c109, c110, c111, c112, c113, c114, c115, c116, c117, c118, c119, c120, c121, c122, c123, c124, c125, c126, c127, c128, c129, c130, c131, c132, c133, c134, c135, c136, c137, c138, c139, c140, c141, c142, c143, c144, c145, c146, c147, c148, c149, c150, c151, c152, c153, c154, c155, c156, c157, c158, c159, c160, c161, c162, c163, c164, c165, c166, c167, c168, c169, c170, c171, c172, c173, c174, c175, c176, c177, c178, c179, c180, c181, c182, c183, c184, c185, c186, c187, c188, c189, c190, c191, c192, c193, c194, c195, c196, c197, c198, c199, c200, c201, c202, c203, c204, c205, c206, c207, c208, c209, c210, c211, c212, c213, c214, c215, c216, c217, c218, c219, c220, c221, c222, c223, c224, c225, c226, c227, c228, c229, c230, c231, c232, c233, c234, c235, c236, c237, c238, c239, c240, c241, c242, c243, c244, c245, c246, c247, c248, c249, c250, c251, c252, c253, c254, c255, c256, c257, c258, c259, c260, rv, .pointer (some ⟨gx, 37, none⟩), .int .u64 T, .pointer (some ⟨g, 0, none⟩), .int .i64 (i : Int), .pointer (some ⟨g, 0, none⟩), .pointer (some ⟨g, 0, none⟩), .pointer (some ⟨g, i * 5, none⟩), .pointer (some ⟨g, 0, none⟩), .int .i64 (k : Int), .pointer (some ⟨g, 0, none⟩), .pointer (some ⟨g, 0, none⟩), .pointer (some ⟨g, k * 5, none⟩), .tuple #[], c275, c276, c277, c278, c279, c280, c281, c282, c283, c284, c285, c286, c287, c288, c289, c290, c291, c292, c293, c294, c295, c296, c297, c298, c299, c300, c301, c302, c303, c304, c305, c306, c307, c308, c309, c310, c311, c312, c313, c314, c315, c316, c317, c318, c319, c320, c321, c322, c323, c324, c325, c326, c327, c328, c329, c330, c331, c332, c333, c334, c335, c336, c337, c338, c339, c340], []⟩ W') :
    Code.wp Try.prog rgB33 Q ⟨#[.pointer (some ⟨g, 0, none⟩), rv, c2, c3, c4, .pointer (some ⟨gx, 0, none⟩), .int .i64 (i : Int), .int .i64 (k : Int), .int .i64 (c : Int), c9, c10, c11, c12, c13, c14, c15, c16, c17, c18, c19, c20, c21, c22, c23, c24, c25, c26, c27, c28, c29, c30, c31, c32, c33, c34, c35, c36, c37, c38, c39, c40, c41, c42, c43, c44, c45, c46, c47, c48, c49, c50, c51, c52, c53, c54, c55, c56, c57, c58, c59, c60, c61, c62, c63, c64, c65, c66, c67, c68, c69, c70, c71, c72, c73, c74, c75, c76, c77, c78, c79, c80, c81, c82, c83, c84, c85, c86, c87, c88, c89, c90, c91, c92, c93, c94, c95, c96, c97, c98, c99, c100, c101, c102, c103, c104, c105, c106, c107, c108, c109, c110, c111, c112, c113, c114, c115, c116, c117, c118, c119, c120, c121, c122, c123, c124, c125, c126, c127, c128, c129, c130, c131, c132, c133, c134, c135, c136, c137, c138, c139, c140, c141, c142, c143, c144, c145, c146, c147, c148, c149, c150, c151, c152, c153, c154, c155, c156, c157, c158, c159, c160, c161, c162, c163, c164, c165, c166, c167, c168, c169, c170, c171, c172, c173, c174, c175, c176, c177, c178, c179, c180, c181, c182, c183, c184, c185, c186, c187, c188, c189, c190, c191, c192, c193, c194, c195, c196, c197, c198, c199, c200, c201, c202, c203, c204, c205, c206, c207, c208, c209, c210, c211, c212, c213, c214, c215, c216, c217, c218, c219, c220, c221, c222, c223, c224, c225, c226, c227, c228, c229, c230, c231, c232, c233, c234, c235, c236, c237, c238, c239, c240, c241, c242, c243, c244, c245, c246, c247, c248, c249, c250, c251, c252, c253, c254, c255, c256, c257, c258, c259, c260, c261, c262, c263, c264, c265, c266, c267, c268, c269, c270, c271, c272, c273, c274, c275, c276, c277, c278, c279, c280, c281, c282, c283, c284, c285, c286, c287, c288, c289, c290, c291, c292, c293, c294, c295, c296, c297, c298, c299, c300, c301, c302, c303, c304, c305, c306, c307, c308, c309, c310, c311, c312, c313, c314, c315, c316, c317, c318, c319, c320, c321, c322, c323, c324, c325, c326, c327, c328, c329, c330, c331, c332, c333, c334, c335, c336, c337, c338, c339, c340], []⟩ W := by
  rw [rgB33_is]
  refine wp_region_held_drew (S := fun Y => Y.heap[gx]? = some (stO K0 A0 B0 C0 D N T)) (by kernel_rfl) (XX.drew.row mx) (fun hH => ?_)
  have hV := XX.drew
  clear XX
  obtain ⟨V0, hV0⟩ : ∃ V, W.drew = V := ⟨_, rfl⟩
  rw [hV0] at hH hV ⊢
  clear hV0
  obtain ⟨a0, ha⟩ : ∃ a : Act, a = ⟨#[.pointer (some ⟨g, 0, none⟩), rv, c2, c3, c4, .pointer (some ⟨gx, 0, none⟩), .int .i64 (i : Int), .int .i64 (k : Int), .int .i64 (c : Int), c9, c10, c11, c12, c13, c14, c15, c16, c17, c18, c19, c20, c21, c22, c23, c24, c25, c26, c27, c28, c29, c30, c31, c32, c33, c34, c35, c36, c37, c38, c39, c40, c41, c42, c43, c44, c45, c46, c47, c48, c49, c50, c51, c52, c53, c54, c55, c56, c57, c58, c59, c60, c61, c62, c63, c64, c65, c66, c67, c68, c69, c70, c71, c72, c73, c74, c75, c76, c77, c78, c79, c80, c81, c82, c83, c84, c85, c86, c87, c88, c89, c90, c91, c92, c93, c94, c95, c96, c97, c98, c99, c100, c101, c102, c103, c104, c105, c106, c107, c108, c109, c110, c111, c112, c113, c114, c115, c116, c117, c118, c119, c120, c121, c122, c123, c124, c125, c126, c127, c128, c129, c130, c131, c132, c133, c134, c135, c136, c137, c138, c139, c140, c141, c142, c143, c144, c145, c146, c147, c148, c149, c150, c151, c152, c153, c154, c155, c156, c157, c158, c159, c160, c161, c162, c163, c164, c165, c166, c167, c168, c169, c170, c171, c172, c173, c174, c175, c176, c177, c178, c179, c180, c181, c182, c183, c184, c185, c186, c187, c188, c189, c190, c191, c192, c193, c194, c195, c196, c197, c198, c199, c200, c201, c202, c203, c204, c205, c206, c207, c208, c209, c210, c211, c212, c213, c214, c215, c216, c217, c218, c219, c220, c221, c222, c223, c224, c225, c226, c227, c228, c229, c230, c231, c232, c233, c234, c235, c236, c237, c238, c239, c240, c241, c242, c243, c244, c245, c246, c247, c248, c249, c250, c251, c252, c253, c254, c255, c256, c257, c258, c259, c260, c261, c262, c263, c264, c265, c266, c267, c268, c269, c270, c271, c272, c273, c274, c275, c276, c277, c278, c279, c280, c281, c282, c283, c284, c285, c286, c287, c288, c289, c290, c291, c292, c293, c294, c295, c296, c297, c298, c299, c300, c301, c302, c303, c304, c305, c306, c307, c308, c309, c310, c311, c312, c313, c314, c315, c316, c317, c318, c319, c320, c321, c322, c323, c324, c325, c326, c327, c328, c329, c330, c331, c332, c333, c334, c335, c336, c337, c338, c339, c340], []⟩ := ⟨_, rfl⟩
  have sz0 : a0.tmps.size = 341 := by rw [ha]; kernel_rfl
  have e0_0 : a0.eval (.tmp 0) = .pointer (some ⟨g, 0, none⟩) := by rw [ha]; kernel_rfl
  have e0_1 : a0.eval (.tmp 1) = rv := by rw [ha]; kernel_rfl
  have e0_5 : a0.eval (.tmp 5) = .pointer (some ⟨gx, 0, none⟩) := by rw [ha]; kernel_rfl
  have e0_6 : a0.eval (.tmp 6) = .int .i64 (i : Int) := by rw [ha]; kernel_rfl
  have e0_7 : a0.eval (.tmp 7) = .int .i64 (k : Int) := by rw [ha]; kernel_rfl
  rw [← ha]
  refine wpAnyH_as (l' := #[false, false, false, false, false, false, false, false, false, false, false, false, false, false]) (by kernel_rfl) ?_
  refine takeH (v := rv) opB33_0 opB33_ns (by kernel_rfl) (by kernel_rfl) HPN (fun w hw o ho => run_move ho e0_1 w) hH ?_
  refine wpAnyH_as (l' := #[true, false, false, false, false, false, false, false, false, false, false, false, false, false]) (by kernel_rfl) ?_
  obtain ⟨a1, h1⟩ : ∃ a' : Act, a' = a0.put (some 261) (rv) := ⟨_, rfl⟩
  rw [← h1]
  have sz1 : a1.tmps.size = 341 := by rw [h1, size_put]; exact sz0
  have e1_0 : a1.eval (.tmp 0) = .pointer (some ⟨g, 0, none⟩) := by rw [h1, eval_put_ne _ _ _ _ (by decide)]; exact e0_0
  have e1_5 : a1.eval (.tmp 5) = .pointer (some ⟨gx, 0, none⟩) := by rw [h1, eval_put_ne _ _ _ _ (by decide)]; exact e0_5
  have e1_6 : a1.eval (.tmp 6) = .int .i64 (i : Int) := by rw [h1, eval_put_ne _ _ _ _ (by decide)]; exact e0_6
  have e1_7 : a1.eval (.tmp 7) = .int .i64 (k : Int) := by rw [h1, eval_put_ne _ _ _ _ (by decide)]; exact e0_7
  have e1_261 : a1.eval (.tmp 261) = rv := by rw [h1]; exact eval_put_eq _ _ _ (by rw [sz0]; decide)
  clear e0_0 e0_1 e0_5 e0_6 e0_7 sz0
  refine takeH (v := .pointer (some ⟨gx, 37, none⟩)) opB33_1 opB33_ns (by kernel_rfl) (by kernel_rfl) HPN (fun w hw o ho => run_stBit ho e1_5 w) hH ?_
  refine wpAnyH_as (l' := #[true, true, false, false, false, false, false, false, false, false, false, false, false, false]) (by kernel_rfl) ?_
  obtain ⟨a2, h2⟩ : ∃ a' : Act, a' = a1.put (some 262) (.pointer (some ⟨gx, 37, none⟩)) := ⟨_, rfl⟩
  rw [← h2]
  have sz2 : a2.tmps.size = 341 := by rw [h2, size_put]; exact sz1
  have e2_0 : a2.eval (.tmp 0) = .pointer (some ⟨g, 0, none⟩) := by rw [h2, eval_put_ne _ _ _ _ (by decide)]; exact e1_0
  have e2_6 : a2.eval (.tmp 6) = .int .i64 (i : Int) := by rw [h2, eval_put_ne _ _ _ _ (by decide)]; exact e1_6
  have e2_7 : a2.eval (.tmp 7) = .int .i64 (k : Int) := by rw [h2, eval_put_ne _ _ _ _ (by decide)]; exact e1_7
  have e2_261 : a2.eval (.tmp 261) = rv := by rw [h2, eval_put_ne _ _ _ _ (by decide)]; exact e1_261
  have e2_262 : a2.eval (.tmp 262) = .pointer (some ⟨gx, 37, none⟩) := by rw [h2]; exact eval_put_eq _ _ _ (by rw [sz1]; decide)
  clear e1_0 e1_261 e1_5 e1_6 e1_7 sz1
  refine takeH (v := .int .u64 T) opB33_2 opB33_ns (by kernel_rfl) (by kernel_rfl) HPN (fun w hw o ho => run_loadU64 ho e2_262 w (st_bit hw LD.out)) hH ?_
  refine wpAnyH_as (l' := #[true, true, true, false, false, false, false, false, false, false, false, false, false, false]) (by kernel_rfl) ?_
  obtain ⟨a3, h3⟩ : ∃ a' : Act, a' = a2.put (some 263) (.int .u64 T) := ⟨_, rfl⟩
  rw [← h3]
  have sz3 : a3.tmps.size = 341 := by rw [h3, size_put]; exact sz2
  have e3_0 : a3.eval (.tmp 0) = .pointer (some ⟨g, 0, none⟩) := by rw [h3, eval_put_ne _ _ _ _ (by decide)]; exact e2_0
  have e3_6 : a3.eval (.tmp 6) = .int .i64 (i : Int) := by rw [h3, eval_put_ne _ _ _ _ (by decide)]; exact e2_6
  have e3_7 : a3.eval (.tmp 7) = .int .i64 (k : Int) := by rw [h3, eval_put_ne _ _ _ _ (by decide)]; exact e2_7
  have e3_261 : a3.eval (.tmp 261) = rv := by rw [h3, eval_put_ne _ _ _ _ (by decide)]; exact e2_261
  have e3_263 : a3.eval (.tmp 263) = .int .u64 T := by rw [h3]; exact eval_put_eq _ _ _ (by rw [sz2]; decide)
  clear e2_0 e2_261 e2_262 e2_6 e2_7 sz2
  refine takeH (v := .pointer (some ⟨g, 0, none⟩)) opB33_3 opB33_ns (by kernel_rfl) (by kernel_rfl) HPN (fun w hw o ho => run_move ho e3_0 w) hH ?_
  refine wpAnyH_as (l' := #[true, true, true, true, false, false, false, false, false, false, false, false, false, false]) (by kernel_rfl) ?_
  obtain ⟨a4, h4⟩ : ∃ a' : Act, a' = a3.put (some 264) (.pointer (some ⟨g, 0, none⟩)) := ⟨_, rfl⟩
  rw [← h4]
  have sz4 : a4.tmps.size = 341 := by rw [h4, size_put]; exact sz3
  have e4_0 : a4.eval (.tmp 0) = .pointer (some ⟨g, 0, none⟩) := by rw [h4, eval_put_ne _ _ _ _ (by decide)]; exact e3_0
  have e4_6 : a4.eval (.tmp 6) = .int .i64 (i : Int) := by rw [h4, eval_put_ne _ _ _ _ (by decide)]; exact e3_6
  have e4_7 : a4.eval (.tmp 7) = .int .i64 (k : Int) := by rw [h4, eval_put_ne _ _ _ _ (by decide)]; exact e3_7
  have e4_261 : a4.eval (.tmp 261) = rv := by rw [h4, eval_put_ne _ _ _ _ (by decide)]; exact e3_261
  have e4_263 : a4.eval (.tmp 263) = .int .u64 T := by rw [h4, eval_put_ne _ _ _ _ (by decide)]; exact e3_263
  have e4_264 : a4.eval (.tmp 264) = .pointer (some ⟨g, 0, none⟩) := by rw [h4]; exact eval_put_eq _ _ _ (by rw [sz3]; decide)
  clear e3_0 e3_261 e3_263 e3_6 e3_7 sz3
  refine takeH (v := .int .i64 (i : Int)) opB33_4 opB33_ns (by kernel_rfl) (by kernel_rfl) HPN (fun w hw o ho => run_move ho e4_6 w) hH ?_
  refine wpAnyH_as (l' := #[true, true, true, true, true, false, false, false, false, false, false, false, false, false]) (by kernel_rfl) ?_
  obtain ⟨a5, h5⟩ : ∃ a' : Act, a' = a4.put (some 265) (.int .i64 (i : Int)) := ⟨_, rfl⟩
  rw [← h5]
  have sz5 : a5.tmps.size = 341 := by rw [h5, size_put]; exact sz4
  have e5_0 : a5.eval (.tmp 0) = .pointer (some ⟨g, 0, none⟩) := by rw [h5, eval_put_ne _ _ _ _ (by decide)]; exact e4_0
  have e5_7 : a5.eval (.tmp 7) = .int .i64 (k : Int) := by rw [h5, eval_put_ne _ _ _ _ (by decide)]; exact e4_7
  have e5_261 : a5.eval (.tmp 261) = rv := by rw [h5, eval_put_ne _ _ _ _ (by decide)]; exact e4_261
  have e5_263 : a5.eval (.tmp 263) = .int .u64 T := by rw [h5, eval_put_ne _ _ _ _ (by decide)]; exact e4_263
  have e5_264 : a5.eval (.tmp 264) = .pointer (some ⟨g, 0, none⟩) := by rw [h5, eval_put_ne _ _ _ _ (by decide)]; exact e4_264
  have e5_265 : a5.eval (.tmp 265) = .int .i64 (i : Int) := by rw [h5]; exact eval_put_eq _ _ _ (by rw [sz4]; decide)
  clear e4_0 e4_261 e4_263 e4_264 e4_6 e4_7 sz4
  refine takeH (v := .pointer (some ⟨g, 0, none⟩)) opB33_5 opB33_ns (by kernel_rfl) (by kernel_rfl) HPN (fun w hw o ho => run_nilCheck ho e5_264 w) hH ?_
  refine wpAnyH_as (l' := #[true, true, true, true, true, true, false, false, false, false, false, false, false, false]) (by kernel_rfl) ?_
  obtain ⟨a6, h6⟩ : ∃ a' : Act, a' = a5.put (some 266) (.pointer (some ⟨g, 0, none⟩)) := ⟨_, rfl⟩
  rw [← h6]
  have sz6 : a6.tmps.size = 341 := by rw [h6, size_put]; exact sz5
  have e6_0 : a6.eval (.tmp 0) = .pointer (some ⟨g, 0, none⟩) := by rw [h6, eval_put_ne _ _ _ _ (by decide)]; exact e5_0
  have e6_7 : a6.eval (.tmp 7) = .int .i64 (k : Int) := by rw [h6, eval_put_ne _ _ _ _ (by decide)]; exact e5_7
  have e6_261 : a6.eval (.tmp 261) = rv := by rw [h6, eval_put_ne _ _ _ _ (by decide)]; exact e5_261
  have e6_263 : a6.eval (.tmp 263) = .int .u64 T := by rw [h6, eval_put_ne _ _ _ _ (by decide)]; exact e5_263
  have e6_265 : a6.eval (.tmp 265) = .int .i64 (i : Int) := by rw [h6, eval_put_ne _ _ _ _ (by decide)]; exact e5_265
  have e6_266 : a6.eval (.tmp 266) = .pointer (some ⟨g, 0, none⟩) := by rw [h6]; exact eval_put_eq _ _ _ (by rw [sz5]; decide)
  clear e5_0 e5_261 e5_263 e5_264 e5_265 e5_7 sz5
  refine takeH (v := .pointer (some ⟨g, 0, none⟩)) opB33_6 opB33_ns (by kernel_rfl) (by kernel_rfl) HPN (fun w hw o ho => run_fieldE ho e6_266 w) hH ?_
  refine wpAnyH_as (l' := #[true, true, true, true, true, true, true, false, false, false, false, false, false, false]) (by kernel_rfl) ?_
  obtain ⟨a7, h7⟩ : ∃ a' : Act, a' = a6.put (some 267) (.pointer (some ⟨g, 0, none⟩)) := ⟨_, rfl⟩
  rw [← h7]
  have sz7 : a7.tmps.size = 341 := by rw [h7, size_put]; exact sz6
  have e7_0 : a7.eval (.tmp 0) = .pointer (some ⟨g, 0, none⟩) := by rw [h7, eval_put_ne _ _ _ _ (by decide)]; exact e6_0
  have e7_7 : a7.eval (.tmp 7) = .int .i64 (k : Int) := by rw [h7, eval_put_ne _ _ _ _ (by decide)]; exact e6_7
  have e7_261 : a7.eval (.tmp 261) = rv := by rw [h7, eval_put_ne _ _ _ _ (by decide)]; exact e6_261
  have e7_263 : a7.eval (.tmp 263) = .int .u64 T := by rw [h7, eval_put_ne _ _ _ _ (by decide)]; exact e6_263
  have e7_265 : a7.eval (.tmp 265) = .int .i64 (i : Int) := by rw [h7, eval_put_ne _ _ _ _ (by decide)]; exact e6_265
  have e7_267 : a7.eval (.tmp 267) = .pointer (some ⟨g, 0, none⟩) := by rw [h7]; exact eval_put_eq _ _ _ (by rw [sz6]; decide)
  clear e6_0 e6_261 e6_263 e6_265 e6_266 e6_7 sz6
  refine takeH (v := .pointer (some ⟨g, i * 5, none⟩)) opB33_7 opB33_ns (by kernel_rfl) (by kernel_rfl) HPN (fun w hw o ho => run_indexE hi8.out ho e7_267 e7_265 w) hH ?_
  refine wpAnyH_as (l' := #[true, true, true, true, true, true, true, true, false, false, false, false, false, false]) (by kernel_rfl) ?_
  obtain ⟨a8, h8⟩ : ∃ a' : Act, a' = a7.put (some 268) (.pointer (some ⟨g, i * 5, none⟩)) := ⟨_, rfl⟩
  rw [← h8]
  have sz8 : a8.tmps.size = 341 := by rw [h8, size_put]; exact sz7
  have e8_0 : a8.eval (.tmp 0) = .pointer (some ⟨g, 0, none⟩) := by rw [h8, eval_put_ne _ _ _ _ (by decide)]; exact e7_0
  have e8_7 : a8.eval (.tmp 7) = .int .i64 (k : Int) := by rw [h8, eval_put_ne _ _ _ _ (by decide)]; exact e7_7
  have e8_261 : a8.eval (.tmp 261) = rv := by rw [h8, eval_put_ne _ _ _ _ (by decide)]; exact e7_261
  have e8_263 : a8.eval (.tmp 263) = .int .u64 T := by rw [h8, eval_put_ne _ _ _ _ (by decide)]; exact e7_263
  have e8_268 : a8.eval (.tmp 268) = .pointer (some ⟨g, i * 5, none⟩) := by rw [h8]; exact eval_put_eq _ _ _ (by rw [sz7]; decide)
  clear e7_0 e7_261 e7_263 e7_265 e7_267 e7_7 sz7
  refine takeH (v := .pointer (some ⟨g, 0, none⟩)) opB33_8 opB33_ns (by kernel_rfl) (by kernel_rfl) HPN (fun w hw o ho => run_move ho e8_0 w) hH ?_
  refine wpAnyH_as (l' := #[true, true, true, true, true, true, true, true, true, false, false, false, false, false]) (by kernel_rfl) ?_
  obtain ⟨a9, h9⟩ : ∃ a' : Act, a' = a8.put (some 269) (.pointer (some ⟨g, 0, none⟩)) := ⟨_, rfl⟩
  rw [← h9]
  have sz9 : a9.tmps.size = 341 := by rw [h9, size_put]; exact sz8
  have e9_7 : a9.eval (.tmp 7) = .int .i64 (k : Int) := by rw [h9, eval_put_ne _ _ _ _ (by decide)]; exact e8_7
  have e9_261 : a9.eval (.tmp 261) = rv := by rw [h9, eval_put_ne _ _ _ _ (by decide)]; exact e8_261
  have e9_263 : a9.eval (.tmp 263) = .int .u64 T := by rw [h9, eval_put_ne _ _ _ _ (by decide)]; exact e8_263
  have e9_268 : a9.eval (.tmp 268) = .pointer (some ⟨g, i * 5, none⟩) := by rw [h9, eval_put_ne _ _ _ _ (by decide)]; exact e8_268
  have e9_269 : a9.eval (.tmp 269) = .pointer (some ⟨g, 0, none⟩) := by rw [h9]; exact eval_put_eq _ _ _ (by rw [sz8]; decide)
  clear e8_0 e8_261 e8_263 e8_268 e8_7 sz8
  refine takeH (v := .int .i64 (k : Int)) opB33_9 opB33_ns (by kernel_rfl) (by kernel_rfl) HPN (fun w hw o ho => run_move ho e9_7 w) hH ?_
  refine wpAnyH_as (l' := #[true, true, true, true, true, true, true, true, true, true, false, false, false, false]) (by kernel_rfl) ?_
  obtain ⟨a10, h10⟩ : ∃ a' : Act, a' = a9.put (some 270) (.int .i64 (k : Int)) := ⟨_, rfl⟩
  rw [← h10]
  have sz10 : a10.tmps.size = 341 := by rw [h10, size_put]; exact sz9
  have e10_261 : a10.eval (.tmp 261) = rv := by rw [h10, eval_put_ne _ _ _ _ (by decide)]; exact e9_261
  have e10_263 : a10.eval (.tmp 263) = .int .u64 T := by rw [h10, eval_put_ne _ _ _ _ (by decide)]; exact e9_263
  have e10_268 : a10.eval (.tmp 268) = .pointer (some ⟨g, i * 5, none⟩) := by rw [h10, eval_put_ne _ _ _ _ (by decide)]; exact e9_268
  have e10_269 : a10.eval (.tmp 269) = .pointer (some ⟨g, 0, none⟩) := by rw [h10, eval_put_ne _ _ _ _ (by decide)]; exact e9_269
  have e10_270 : a10.eval (.tmp 270) = .int .i64 (k : Int) := by rw [h10]; exact eval_put_eq _ _ _ (by rw [sz9]; decide)
  clear e9_261 e9_263 e9_268 e9_269 e9_7 sz9
  refine takeH (v := .pointer (some ⟨g, 0, none⟩)) opB33_10 opB33_ns (by kernel_rfl) (by kernel_rfl) HPN (fun w hw o ho => run_nilCheck ho e10_269 w) hH ?_
  refine wpAnyH_as (l' := #[true, true, true, true, true, true, true, true, true, true, true, false, false, false]) (by kernel_rfl) ?_
  obtain ⟨a11, h11⟩ : ∃ a' : Act, a' = a10.put (some 271) (.pointer (some ⟨g, 0, none⟩)) := ⟨_, rfl⟩
  rw [← h11]
  have sz11 : a11.tmps.size = 341 := by rw [h11, size_put]; exact sz10
  have e11_261 : a11.eval (.tmp 261) = rv := by rw [h11, eval_put_ne _ _ _ _ (by decide)]; exact e10_261
  have e11_263 : a11.eval (.tmp 263) = .int .u64 T := by rw [h11, eval_put_ne _ _ _ _ (by decide)]; exact e10_263
  have e11_268 : a11.eval (.tmp 268) = .pointer (some ⟨g, i * 5, none⟩) := by rw [h11, eval_put_ne _ _ _ _ (by decide)]; exact e10_268
  have e11_270 : a11.eval (.tmp 270) = .int .i64 (k : Int) := by rw [h11, eval_put_ne _ _ _ _ (by decide)]; exact e10_270
  have e11_271 : a11.eval (.tmp 271) = .pointer (some ⟨g, 0, none⟩) := by rw [h11]; exact eval_put_eq _ _ _ (by rw [sz10]; decide)
  clear e10_261 e10_263 e10_268 e10_269 e10_270 sz10
  refine takeH (v := .pointer (some ⟨g, 0, none⟩)) opB33_11 opB33_ns (by kernel_rfl) (by kernel_rfl) HPN (fun w hw o ho => run_fieldE ho e11_271 w) hH ?_
  refine wpAnyH_as (l' := #[true, true, true, true, true, true, true, true, true, true, true, true, false, false]) (by kernel_rfl) ?_
  obtain ⟨a12, h12⟩ : ∃ a' : Act, a' = a11.put (some 272) (.pointer (some ⟨g, 0, none⟩)) := ⟨_, rfl⟩
  rw [← h12]
  have sz12 : a12.tmps.size = 341 := by rw [h12, size_put]; exact sz11
  have e12_261 : a12.eval (.tmp 261) = rv := by rw [h12, eval_put_ne _ _ _ _ (by decide)]; exact e11_261
  have e12_263 : a12.eval (.tmp 263) = .int .u64 T := by rw [h12, eval_put_ne _ _ _ _ (by decide)]; exact e11_263
  have e12_268 : a12.eval (.tmp 268) = .pointer (some ⟨g, i * 5, none⟩) := by rw [h12, eval_put_ne _ _ _ _ (by decide)]; exact e11_268
  have e12_270 : a12.eval (.tmp 270) = .int .i64 (k : Int) := by rw [h12, eval_put_ne _ _ _ _ (by decide)]; exact e11_270
  have e12_272 : a12.eval (.tmp 272) = .pointer (some ⟨g, 0, none⟩) := by rw [h12]; exact eval_put_eq _ _ _ (by rw [sz11]; decide)
  clear e11_261 e11_263 e11_268 e11_270 e11_271 sz11
  refine takeH (v := .pointer (some ⟨g, k * 5, none⟩)) opB33_12 opB33_ns (by kernel_rfl) (by kernel_rfl) HPN (fun w hw o ho => run_indexE hk8.out ho e12_272 e12_270 w) hH ?_
  refine wpAnyH_as (l' := #[true, true, true, true, true, true, true, true, true, true, true, true, true, false]) (by kernel_rfl) ?_
  obtain ⟨a13, h13⟩ : ∃ a' : Act, a' = a12.put (some 273) (.pointer (some ⟨g, k * 5, none⟩)) := ⟨_, rfl⟩
  rw [← h13]
  have sz13 : a13.tmps.size = 341 := by rw [h13, size_put]; exact sz12
  have e13_261 : a13.eval (.tmp 261) = rv := by rw [h13, eval_put_ne _ _ _ _ (by decide)]; exact e12_261
  have e13_263 : a13.eval (.tmp 263) = .int .u64 T := by rw [h13, eval_put_ne _ _ _ _ (by decide)]; exact e12_263
  have e13_268 : a13.eval (.tmp 268) = .pointer (some ⟨g, i * 5, none⟩) := by rw [h13, eval_put_ne _ _ _ _ (by decide)]; exact e12_268
  have e13_273 : a13.eval (.tmp 273) = .pointer (some ⟨g, k * 5, none⟩) := by rw [h13]; exact eval_put_eq _ _ _ (by rw [sz12]; decide)
  clear e12_261 e12_263 e12_268 e12_270 e12_272 sz12
  refine readyH opB33_13 (by kernel_rfl) (fun o ho hd => wpCall (v := .tuple #[]) ho hd (args := #[rv, .int .u64 T, .pointer (some ⟨g, i * 5, none⟩), .pointer (some ⟨g, k * 5, none⟩)]) (by simp only [List.map_toArray, List.map_cons, List.map_nil, e13_261, e13_263, e13_268, e13_273] <;> rfl) (fun _ => rfl) (sb_swap hV hi8.out hk8.out HT.out.1 HT.out.2 hl.out) (fun w1 hw1 => ?_))
  have hV1 := hw1
  refine ⟨hV1.row mx, ?_⟩
  have hH := hV1.row mx
  refine wpAnyH_as (l' := #[true, true, true, true, true, true, true, true, true, true, true, true, true, true]) (by kernel_rfl) ?_
  obtain ⟨a14, h14⟩ : ∃ a' : Act, a' = a13.put (some 274) (.tuple #[]) := ⟨_, rfl⟩
  rw [← h14]
  have sz14 : a14.tmps.size = 341 := by rw [h14, size_put]; exact sz13
  clear e13_261 e13_263 e13_268 e13_273 sz13
  refine wpAnyH_done (by kernel_rfl) ?_ _
  have hF : a14 = ⟨#[.pointer (some ⟨g, 0, none⟩), rv, c2, c3, c4, .pointer (some ⟨gx, 0, none⟩), .int .i64 (i : Int), .int .i64 (k : Int), .int .i64 (c : Int), c9, c10, c11, c12, c13, c14, c15, c16, c17, c18, c19, c20, c21, c22, c23, c24, c25, c26, c27, c28, c29, c30, c31, c32, c33, c34, c35, c36, c37, c38, c39, c40, c41, c42, c43, c44, c45, c46, c47, c48, c49, c50, c51, c52, c53, c54, c55, c56, c57, c58, c59, c60, c61, c62, c63, c64, c65, c66, c67, c68, c69, c70, c71, c72, c73, c74, c75, c76, c77, c78, c79, c80, c81, c82, c83, c84, c85, c86, c87, c88, c89, c90, c91, c92, c93, c94, c95, c96, c97, c98, c99, c100, c101, c102, c103, c104, c105, c106, c107, c108, c109, c110, c111, c112, c113, c114, c115, c116, c117, c118, c119, c120, c121, c122, c123, c124, c125, c126, c127, c128, c129, c130, c131, c132, c133, c134, c135, c136, c137, c138, c139, c140, c141, c142, c143, c144, c145, c146, c147, c148, c149, c150, c151, c152, c153, c154, c155, c156, c157, c158, c159, c160, c161, c162, c163, c164, c165, c166, c167, c168, c169, c170, c171, c172, c173, c174, c175, c176, c177, c178, c179, c180, c181, c182, c183, c184, c185, c186, c187, c188, c189, c190, c191, c192, c193, c194, c195, c196, c197, c198, c199, c200, c201, c202, c203, c204, c205, c206, c207, c208, c209, c210, c211, c212, c213, c214, c215, c216, c217, c218, c219, c220, c221, c222, c223, c224, c225, c226, c227, c228, c229, c230, c231, c232, c233, c234, c235, c236, c237, c238, c239, c240, c241, c242, c243, c244, c245, c246, c247, c248, c249, c250, c251, c252, c253, c254, c255, c256, c257, c258, c259, c260, rv, .pointer (some ⟨gx, 37, none⟩), .int .u64 T, .pointer (some ⟨g, 0, none⟩), .int .i64 (i : Int), .pointer (some ⟨g, 0, none⟩), .pointer (some ⟨g, 0, none⟩), .pointer (some ⟨g, i * 5, none⟩), .pointer (some ⟨g, 0, none⟩), .int .i64 (k : Int), .pointer (some ⟨g, 0, none⟩), .pointer (some ⟨g, 0, none⟩), .pointer (some ⟨g, k * 5, none⟩), .tuple #[], c275, c276, c277, c278, c279, c280, c281, c282, c283, c284, c285, c286, c287, c288, c289, c290, c291, c292, c293, c294, c295, c296, c297, c298, c299, c300, c301, c302, c303, c304, c305, c306, c307, c308, c309, c310, c311, c312, c313, c314, c315, c316, c317, c318, c319, c320, c321, c322, c323, c324, c325, c326, c327, c328, c329, c330, c331, c332, c333, c334, c335, c336, c337, c338, c339, c340], []⟩ := by rw [h14, h13, h12, h11, h10, h9, h8, h7, h6, h5, h4, h3, h2, h1, ha]; kernel_rfl
  rw [hF]
  exact H _ hV1
noncomputable def rgB38 : Code := ((Try.f17.body.bind (findReg 38)).getD .skip)
noncomputable def opB38 : Array Oper := opsOf rgB38
theorem rgB38_is : rgB38 = .region 38 opB38 true := by kernel_rfl
theorem opB38_ns : Region.noSelect opB38 = true := by kernel_rfl
theorem opB38_0 : opIs opB38 0 (.move (.tmp 1)) (some 305) := by unfold opIs; kernel_rfl
theorem opB38_1 : opIs opB38 1 (.fieldAddr 60 (.tmp 5) 6) (some 306) := by unfold opIs; kernel_rfl
theorem opB38_2 : opIs opB38 2 (.load 44 (.tmp 306)) (some 307) := by unfold opIs; kernel_rfl
theorem opB38_3 : opIs opB38 3 (.move (.tmp 0)) (some 308) := by unfold opIs; kernel_rfl
theorem opB38_4 : opIs opB38 4 (.move (.tmp 7)) (some 309) := by unfold opIs; kernel_rfl
theorem opB38_5 : opIs opB38 5 (.nilCheck (.tmp 308)) (some 310) := by unfold opIs; kernel_rfl
theorem opB38_6 : opIs opB38 6 (.fieldAddr 53 (.tmp 310) 0) (some 311) := by unfold opIs; kernel_rfl
theorem opB38_7 : opIs opB38 7 (.indexAddr 48 (.tmp 311) (.tmp 309)) (some 312) := by unfold opIs; kernel_rfl
theorem opB38_8 : opIs opB38 8 (.call { callee := .value (.func 46), args := #[.tmp 305, .tmp 307, .const (.pointer none), .tmp 312], argTypes := #[23, 44, 97, 97] }) (some 313) := by unfold opIs; kernel_rfl
set_option maxRecDepth 100000 in
set_option maxHeartbeats 4000000 in
theorem bk_r38 {Q : Exit → Act → World → Prop} {B : Nat} {w W : World} {rv vs : Value} {lr ll : List (Int × Int)} {g gx : Nat} {es : Nat → List Int} {ns : Nat → Nat} {bx : List (Nat × Obj)} {i k c : Nat} {D : List Int} {K0 A0 B0 C0 N T : Int}  {c2 c3 c4 c9 c10 c11 c12 c13 c14 c15 c16 c17 c18 c19 c20 c21 c22 c23 c24 c25 c26 c27 c28 c29 c30 c31 c32 c33 c34 c35 c36 c37 c38 c39 c40 c41 c42 c43 c44 c45 c46 c47 c48 c49 c50 c51 c52 c53 c54 c55 c56 c57 c58 c59 c60 c61 c62 c63 c64 c65 c66 c67 c68 c69 c70 c71 c72 c73 c74 c75 c76 c77 c78 c79 c80 c81 c82 c83 c84 c85 c86 c87 c88 c89 c90 c91 c92 c93 c94 c95 c96 c97 c98 c99 c100 c101 c102 c103 c104 c105 c106 c107 c108 c109 c110 c111 c112 c113 c114 c115 c116 c117 c118 c119 c120 c121 c122 c123 c124 c125 c126 c127 c128 c129 c130 c131 c132 c133 c134 c135 c136 c137 c138 c139 c140 c141 c142 c143 c144 c145 c146 c147 c148 c149 c150 c151 c152 c153 c154 c155 c156 c157 c158 c159 c160 c161 c162 c163 c164 c165 c166 c167 c168 c169 c170 c171 c172 c173 c174 c175 c176 c177 c178 c179 c180 c181 c182 c183 c184 c185 c186 c187 c188 c189 c190 c191 c192 c193 c194 c195 c196 c197 c198 c199 c200 c201 c202 c203 c204 c205 c206 c207 c208 c209 c210 c211 c212 c213 c214 c215 c216 c217 c218 c219 c220 c221 c222 c223 c224 c225 c226 c227 c228 c229 c230 c231 c232 c233 c234 c235 c236 c237 c238 c239 c240 c241 c242 c243 c244 c245 c246 c247 c248 c249 c250 c251 c252 c253 c254 c255 c256 c257 c258 c259 c260 c261 c262 c263 c264 c265 c266 c267 c268 c269 c270 c271 c272 c273 c274 c275 c276 c277 c278 c279 c280 c281 c282 c283 c284 c285 c286 c287 c288 c289 c290 c291 c292 c293 c294 c295 c296 c297 c298 c299 c300 c301 c302 c303 c304 c305 c306 c307 c308 c309 c310 c311 c312 c313 c314 c315 c316 c317 c318 c319 c320 c321 c322 c323 c324 c325 c326 c327 c328 c329 c330 c331 c332 c333 c334 c335 c336 c337 c338 c339 c340 : Value}
    (hi8 : Hid (i < 8)) (hk8 : Hid (k < 8)) (hc8 : Hid (c < 8)) (LD : Hid (D.length = 32))
    (mx : (gx, stO K0 A0 B0 C0 D N T) ∈ bx)
    (XX : SB B w rv lr g es ns vs ll bx W)
    (HPN : ∀ c (a : Act) d v w, Q (.panic c) (a.put d v) w → Q (.panic c) a w)
    (H : ∀ W', SB B w rv lr g es ns vs ll bx W' → Q .normal ⟨#[.pointer (some ⟨g, 0, none⟩), rv, c2, c3, c4, .pointer (some ⟨gx, 0, none⟩), .int .i64 (i : Int), .int .i64 (k : Int), .int .i64 (c : Int), c9, c10, c11, c12, c13, c14, c15, c16, c17, c18, c19, c20, c21, c22, c23, c24, c25, c26, c27, c28, c29, c30, c31, c32, c33, c34, c35, c36, c37, c38, c39, c40, c41, c42, c43, c44, c45, c46, c47, c48, c49, c50, c51, c52, c53, c54, c55, c56, c57, c58, c59, c60, c61, c62, c63, c64, c65, c66, c67, c68, c69, c70, c71, c72, c73, c74, c75, c76, c77, c78, c79, c80, c81, c82, c83, c84, c85, c86, c87, c88, c89, c90, c91, c92, c93, c94, c95, c96, c97, c98, c99, c100, c101, c102, c103, c104, c105, c106, c107, c108, c109, c110, c111, c112, c113, c114, c115, c116, c117, c118, c119, c120, c121, c122, c123, c124, c125, c126, c127, c128, c129, c130, c131, c132, c133, c134, c135, c136, c137, c138, c139, c140, c141, c142, c143, c144, c145, c146, c147, c148, c149, c150, c151, c152, c153, c154, c155, c156, c157, c158, c159, c160, c161, c162, c163, c164, c165, c166, c167, c168, c169, c170, c171, c172, c173, c174, c175, c176, c177, c178, c179, c180, c181, c182, c183, c184, c185, c186, c187, c188, c189, c190, c191, c192, c193, c194, c195, c196, c197, c198, c199, c200, c201, c202, c203, c204, c205, c206, c207, c208, c209, c210, c211, c212, c213, c214, c215, c216, c217, c218, c219, c220, c221, c222, c223, c224, c225, c226, c227, c228, c229, c230, c231, c232, c233, c234, c235, c236, c237, c238, c239, c240, c241, c242, c243, c244, c245, c246, c247, c248, c249, c250, c251, c252, c253, c254, c255, c256, c257, c258, c259, c260, c261, c262, c263, c264, c265, c266, c267, c268, c269, c270, c271, c272, c273, c274, c275, c276, c277, c278, c279, c280, c281, c282, c283, c284, c285, c286, c287, c288, c289, c290, c291, c292, c293, c294, c295, c296, c297, c298, c299, c300, c301, c302, c303, c304, rv, .pointer (some ⟨gx, 37, none⟩), .int .u64 T, .pointer (some ⟨g, 0, none⟩), .int .i64 (k : Int), .pointer (some ⟨g, 0, none⟩), .pointer (some ⟨g, 0, none⟩), .pointer (some ⟨g, k * 5, none⟩), .tuple #[], c314, c315, c316, c317, c318, c319, c320, c321, c322, c323, c324, c325, c326, c327, c328, c329, c330, c331, c332, c333, c334, c335, c336, c337, c338, c339, c340], []⟩ W') :
    Code.wp Try.prog rgB38 Q ⟨#[.pointer (some ⟨g, 0, none⟩), rv, c2, c3, c4, .pointer (some ⟨gx, 0, none⟩), .int .i64 (i : Int), .int .i64 (k : Int), .int .i64 (c : Int), c9, c10, c11, c12, c13, c14, c15, c16, c17, c18, c19, c20, c21, c22, c23, c24, c25, c26, c27, c28, c29, c30, c31, c32, c33, c34, c35, c36, c37, c38, c39, c40, c41, c42, c43, c44, c45, c46, c47, c48, c49, c50, c51, c52, c53, c54, c55, c56, c57, c58, c59, c60, c61, c62, c63, c64, c65, c66, c67, c68, c69, c70, c71, c72, c73, c74, c75, c76, c77, c78, c79, c80, c81, c82, c83, c84, c85, c86, c87, c88, c89, c90, c91, c92, c93, c94, c95, c96, c97, c98, c99, c100, c101, c102, c103, c104, c105, c106, c107, c108, c109, c110, c111, c112, c113, c114, c115, c116, c117, c118, c119, c120, c121, c122, c123, c124, c125, c126, c127, c128, c129, c130, c131, c132, c133, c134, c135, c136, c137, c138, c139, c140, c141, c142, c143, c144, c145, c146, c147, c148, c149, c150, c151, c152, c153, c154, c155, c156, c157, c158, c159, c160, c161, c162, c163, c164, c165, c166, c167, c168, c169, c170, c171, c172, c173, c174, c175, c176, c177, c178, c179, c180, c181, c182, c183, c184, c185, c186, c187, c188, c189, c190, c191, c192, c193, c194, c195, c196, c197, c198, c199, c200, c201, c202, c203, c204, c205, c206, c207, c208, c209, c210, c211, c212, c213, c214, c215, c216, c217, c218, c219, c220, c221, c222, c223, c224, c225, c226, c227, c228, c229, c230, c231, c232, c233, c234, c235, c236, c237, c238, c239, c240, c241, c242, c243, c244, c245, c246, c247, c248, c249, c250, c251, c252, c253, c254, c255, c256, c257, c258, c259, c260, c261, c262, c263, c264, c265, c266, c267, c268, c269, c270, c271, c272, c273, c274, c275, c276, c277, c278, c279, c280, c281, c282, c283, c284, c285, c286, c287, c288, c289, c290, c291, c292, c293, c294, c295, c296, c297, c298, c299, c300, c301, c302, c303, c304, c305, c306, c307, c308, c309, c310, c311, c312, c313, c314, c315, c316, c317, c318, c319, c320, c321, c322, c323, c324, c325, c326, c327, c328, c329, c330, c331, c332, c333, c334, c335, c336, c337, c338, c339, c340], []⟩ W := by
  rw [rgB38_is]
  refine wp_region_held_drew (S := fun Y => Y.heap[gx]? = some (stO K0 A0 B0 C0 D N T)) (by kernel_rfl) (XX.drew.row mx) (fun hH => ?_)
  have hV := XX.drew
  clear XX
  obtain ⟨V0, hV0⟩ : ∃ V, W.drew = V := ⟨_, rfl⟩
  rw [hV0] at hH hV ⊢
  clear hV0
  obtain ⟨a0, ha⟩ : ∃ a : Act, a = ⟨#[.pointer (some ⟨g, 0, none⟩), rv, c2, c3, c4, .pointer (some ⟨gx, 0, none⟩), .int .i64 (i : Int), .int .i64 (k : Int), .int .i64 (c : Int), c9, c10, c11, c12, c13, c14, c15, c16, c17, c18, c19, c20, c21, c22, c23, c24, c25, c26, c27, c28, c29, c30, c31, c32, c33, c34, c35, c36, c37, c38, c39, c40, c41, c42, c43, c44, c45, c46, c47, c48, c49, c50, c51, c52, c53, c54, c55, c56, c57, c58, c59, c60, c61, c62, c63, c64, c65, c66, c67, c68, c69, c70, c71, c72, c73, c74, c75, c76, c77, c78, c79, c80, c81, c82, c83, c84, c85, c86, c87, c88, c89, c90, c91, c92, c93, c94, c95, c96, c97, c98, c99, c100, c101, c102, c103, c104, c105, c106, c107, c108, c109, c110, c111, c112, c113, c114, c115, c116, c117, c118, c119, c120, c121, c122, c123, c124, c125, c126, c127, c128, c129, c130, c131, c132, c133, c134, c135, c136, c137, c138, c139, c140, c141, c142, c143, c144, c145, c146, c147, c148, c149, c150, c151, c152, c153, c154, c155, c156, c157, c158, c159, c160, c161, c162, c163, c164, c165, c166, c167, c168, c169, c170, c171, c172, c173, c174, c175, c176, c177, c178, c179, c180, c181, c182, c183, c184, c185, c186, c187, c188, c189, c190, c191, c192, c193, c194, c195, c196, c197, c198, c199, c200, c201, c202, c203, c204, c205, c206, c207, c208, c209, c210, c211, c212, c213, c214, c215, c216, c217, c218, c219, c220, c221, c222, c223, c224, c225, c226, c227, c228, c229, c230, c231, c232, c233, c234, c235, c236, c237, c238, c239, c240, c241, c242, c243, c244, c245, c246, c247, c248, c249, c250, c251, c252, c253, c254, c255, c256, c257, c258, c259, c260, c261, c262, c263, c264, c265, c266, c267, c268, c269, c270, c271, c272, c273, c274, c275, c276, c277, c278, c279, c280, c281, c282, c283, c284, c285, c286, c287, c288, c289, c290, c291, c292, c293, c294, c295, c296, c297, c298, c299, c300, c301, c302, c303, c304, c305, c306, c307, c308, c309, c310, c311, c312, c313, c314, c315, c316, c317, c318, c319, c320, c321, c322, c323, c324, c325, c326, c327, c328, c329, c330, c331, c332, c333, c334, c335, c336, c337, c338, c339, c340], []⟩ := ⟨_, rfl⟩
  have sz0 : a0.tmps.size = 341 := by rw [ha]; kernel_rfl
  have e0_0 : a0.eval (.tmp 0) = .pointer (some ⟨g, 0, none⟩) := by rw [ha]; kernel_rfl
  have e0_1 : a0.eval (.tmp 1) = rv := by rw [ha]; kernel_rfl
  have e0_5 : a0.eval (.tmp 5) = .pointer (some ⟨gx, 0, none⟩) := by rw [ha]; kernel_rfl
  have e0_7 : a0.eval (.tmp 7) = .int .i64 (k : Int) := by rw [ha]; kernel_rfl
  rw [← ha]
  refine wpAnyH_as (l' := #[false, false, false, false, false, false, false, false, false]) (by kernel_rfl) ?_
  refine takeH (v := rv) opB38_0 opB38_ns (by kernel_rfl) (by kernel_rfl) HPN (fun w hw o ho => run_move ho e0_1 w) hH ?_
  refine wpAnyH_as (l' := #[true, false, false, false, false, false, false, false, false]) (by kernel_rfl) ?_
  obtain ⟨a1, h1⟩ : ∃ a' : Act, a' = a0.put (some 305) (rv) := ⟨_, rfl⟩
  rw [← h1]
  have sz1 : a1.tmps.size = 341 := by rw [h1, size_put]; exact sz0
  have e1_0 : a1.eval (.tmp 0) = .pointer (some ⟨g, 0, none⟩) := by rw [h1, eval_put_ne _ _ _ _ (by decide)]; exact e0_0
  have e1_5 : a1.eval (.tmp 5) = .pointer (some ⟨gx, 0, none⟩) := by rw [h1, eval_put_ne _ _ _ _ (by decide)]; exact e0_5
  have e1_7 : a1.eval (.tmp 7) = .int .i64 (k : Int) := by rw [h1, eval_put_ne _ _ _ _ (by decide)]; exact e0_7
  have e1_305 : a1.eval (.tmp 305) = rv := by rw [h1]; exact eval_put_eq _ _ _ (by rw [sz0]; decide)
  clear e0_0 e0_1 e0_5 e0_7 sz0
  refine takeH (v := .pointer (some ⟨gx, 37, none⟩)) opB38_1 opB38_ns (by kernel_rfl) (by kernel_rfl) HPN (fun w hw o ho => run_stBit ho e1_5 w) hH ?_
  refine wpAnyH_as (l' := #[true, true, false, false, false, false, false, false, false]) (by kernel_rfl) ?_
  obtain ⟨a2, h2⟩ : ∃ a' : Act, a' = a1.put (some 306) (.pointer (some ⟨gx, 37, none⟩)) := ⟨_, rfl⟩
  rw [← h2]
  have sz2 : a2.tmps.size = 341 := by rw [h2, size_put]; exact sz1
  have e2_0 : a2.eval (.tmp 0) = .pointer (some ⟨g, 0, none⟩) := by rw [h2, eval_put_ne _ _ _ _ (by decide)]; exact e1_0
  have e2_7 : a2.eval (.tmp 7) = .int .i64 (k : Int) := by rw [h2, eval_put_ne _ _ _ _ (by decide)]; exact e1_7
  have e2_305 : a2.eval (.tmp 305) = rv := by rw [h2, eval_put_ne _ _ _ _ (by decide)]; exact e1_305
  have e2_306 : a2.eval (.tmp 306) = .pointer (some ⟨gx, 37, none⟩) := by rw [h2]; exact eval_put_eq _ _ _ (by rw [sz1]; decide)
  clear e1_0 e1_305 e1_5 e1_7 sz1
  refine takeH (v := .int .u64 T) opB38_2 opB38_ns (by kernel_rfl) (by kernel_rfl) HPN (fun w hw o ho => run_loadU64 ho e2_306 w (st_bit hw LD.out)) hH ?_
  refine wpAnyH_as (l' := #[true, true, true, false, false, false, false, false, false]) (by kernel_rfl) ?_
  obtain ⟨a3, h3⟩ : ∃ a' : Act, a' = a2.put (some 307) (.int .u64 T) := ⟨_, rfl⟩
  rw [← h3]
  have sz3 : a3.tmps.size = 341 := by rw [h3, size_put]; exact sz2
  have e3_0 : a3.eval (.tmp 0) = .pointer (some ⟨g, 0, none⟩) := by rw [h3, eval_put_ne _ _ _ _ (by decide)]; exact e2_0
  have e3_7 : a3.eval (.tmp 7) = .int .i64 (k : Int) := by rw [h3, eval_put_ne _ _ _ _ (by decide)]; exact e2_7
  have e3_305 : a3.eval (.tmp 305) = rv := by rw [h3, eval_put_ne _ _ _ _ (by decide)]; exact e2_305
  have e3_307 : a3.eval (.tmp 307) = .int .u64 T := by rw [h3]; exact eval_put_eq _ _ _ (by rw [sz2]; decide)
  clear e2_0 e2_305 e2_306 e2_7 sz2
  refine takeH (v := .pointer (some ⟨g, 0, none⟩)) opB38_3 opB38_ns (by kernel_rfl) (by kernel_rfl) HPN (fun w hw o ho => run_move ho e3_0 w) hH ?_
  refine wpAnyH_as (l' := #[true, true, true, true, false, false, false, false, false]) (by kernel_rfl) ?_
  obtain ⟨a4, h4⟩ : ∃ a' : Act, a' = a3.put (some 308) (.pointer (some ⟨g, 0, none⟩)) := ⟨_, rfl⟩
  rw [← h4]
  have sz4 : a4.tmps.size = 341 := by rw [h4, size_put]; exact sz3
  have e4_7 : a4.eval (.tmp 7) = .int .i64 (k : Int) := by rw [h4, eval_put_ne _ _ _ _ (by decide)]; exact e3_7
  have e4_305 : a4.eval (.tmp 305) = rv := by rw [h4, eval_put_ne _ _ _ _ (by decide)]; exact e3_305
  have e4_307 : a4.eval (.tmp 307) = .int .u64 T := by rw [h4, eval_put_ne _ _ _ _ (by decide)]; exact e3_307
  have e4_308 : a4.eval (.tmp 308) = .pointer (some ⟨g, 0, none⟩) := by rw [h4]; exact eval_put_eq _ _ _ (by rw [sz3]; decide)
  clear e3_0 e3_305 e3_307 e3_7 sz3
  refine takeH (v := .int .i64 (k : Int)) opB38_4 opB38_ns (by kernel_rfl) (by kernel_rfl) HPN (fun w hw o ho => run_move ho e4_7 w) hH ?_
  refine wpAnyH_as (l' := #[true, true, true, true, true, false, false, false, false]) (by kernel_rfl) ?_
  obtain ⟨a5, h5⟩ : ∃ a' : Act, a' = a4.put (some 309) (.int .i64 (k : Int)) := ⟨_, rfl⟩
  rw [← h5]
  have sz5 : a5.tmps.size = 341 := by rw [h5, size_put]; exact sz4
  have e5_305 : a5.eval (.tmp 305) = rv := by rw [h5, eval_put_ne _ _ _ _ (by decide)]; exact e4_305
  have e5_307 : a5.eval (.tmp 307) = .int .u64 T := by rw [h5, eval_put_ne _ _ _ _ (by decide)]; exact e4_307
  have e5_308 : a5.eval (.tmp 308) = .pointer (some ⟨g, 0, none⟩) := by rw [h5, eval_put_ne _ _ _ _ (by decide)]; exact e4_308
  have e5_309 : a5.eval (.tmp 309) = .int .i64 (k : Int) := by rw [h5]; exact eval_put_eq _ _ _ (by rw [sz4]; decide)
  clear e4_305 e4_307 e4_308 e4_7 sz4
  refine takeH (v := .pointer (some ⟨g, 0, none⟩)) opB38_5 opB38_ns (by kernel_rfl) (by kernel_rfl) HPN (fun w hw o ho => run_nilCheck ho e5_308 w) hH ?_
  refine wpAnyH_as (l' := #[true, true, true, true, true, true, false, false, false]) (by kernel_rfl) ?_
  obtain ⟨a6, h6⟩ : ∃ a' : Act, a' = a5.put (some 310) (.pointer (some ⟨g, 0, none⟩)) := ⟨_, rfl⟩
  rw [← h6]
  have sz6 : a6.tmps.size = 341 := by rw [h6, size_put]; exact sz5
  have e6_305 : a6.eval (.tmp 305) = rv := by rw [h6, eval_put_ne _ _ _ _ (by decide)]; exact e5_305
  have e6_307 : a6.eval (.tmp 307) = .int .u64 T := by rw [h6, eval_put_ne _ _ _ _ (by decide)]; exact e5_307
  have e6_309 : a6.eval (.tmp 309) = .int .i64 (k : Int) := by rw [h6, eval_put_ne _ _ _ _ (by decide)]; exact e5_309
  have e6_310 : a6.eval (.tmp 310) = .pointer (some ⟨g, 0, none⟩) := by rw [h6]; exact eval_put_eq _ _ _ (by rw [sz5]; decide)
  clear e5_305 e5_307 e5_308 e5_309 sz5
  refine takeH (v := .pointer (some ⟨g, 0, none⟩)) opB38_6 opB38_ns (by kernel_rfl) (by kernel_rfl) HPN (fun w hw o ho => run_fieldE ho e6_310 w) hH ?_
  refine wpAnyH_as (l' := #[true, true, true, true, true, true, true, false, false]) (by kernel_rfl) ?_
  obtain ⟨a7, h7⟩ : ∃ a' : Act, a' = a6.put (some 311) (.pointer (some ⟨g, 0, none⟩)) := ⟨_, rfl⟩
  rw [← h7]
  have sz7 : a7.tmps.size = 341 := by rw [h7, size_put]; exact sz6
  have e7_305 : a7.eval (.tmp 305) = rv := by rw [h7, eval_put_ne _ _ _ _ (by decide)]; exact e6_305
  have e7_307 : a7.eval (.tmp 307) = .int .u64 T := by rw [h7, eval_put_ne _ _ _ _ (by decide)]; exact e6_307
  have e7_309 : a7.eval (.tmp 309) = .int .i64 (k : Int) := by rw [h7, eval_put_ne _ _ _ _ (by decide)]; exact e6_309
  have e7_311 : a7.eval (.tmp 311) = .pointer (some ⟨g, 0, none⟩) := by rw [h7]; exact eval_put_eq _ _ _ (by rw [sz6]; decide)
  clear e6_305 e6_307 e6_309 e6_310 sz6
  refine takeH (v := .pointer (some ⟨g, k * 5, none⟩)) opB38_7 opB38_ns (by kernel_rfl) (by kernel_rfl) HPN (fun w hw o ho => run_indexE hk8.out ho e7_311 e7_309 w) hH ?_
  refine wpAnyH_as (l' := #[true, true, true, true, true, true, true, true, false]) (by kernel_rfl) ?_
  obtain ⟨a8, h8⟩ : ∃ a' : Act, a' = a7.put (some 312) (.pointer (some ⟨g, k * 5, none⟩)) := ⟨_, rfl⟩
  rw [← h8]
  have sz8 : a8.tmps.size = 341 := by rw [h8, size_put]; exact sz7
  have e8_305 : a8.eval (.tmp 305) = rv := by rw [h8, eval_put_ne _ _ _ _ (by decide)]; exact e7_305
  have e8_307 : a8.eval (.tmp 307) = .int .u64 T := by rw [h8, eval_put_ne _ _ _ _ (by decide)]; exact e7_307
  have e8_312 : a8.eval (.tmp 312) = .pointer (some ⟨g, k * 5, none⟩) := by rw [h8]; exact eval_put_eq _ _ _ (by rw [sz7]; decide)
  clear e7_305 e7_307 e7_309 e7_311 sz7
  refine readyH opB38_8 (by kernel_rfl) (fun o ho hd => wpCall (v := .tuple #[]) ho hd (args := #[rv, .int .u64 T, .pointer none, .pointer (some ⟨g, k * 5, none⟩)]) (by simp only [List.map_toArray, List.map_cons, List.map_nil, e8_305, e8_307, e8_312] <;> rfl) (fun _ => rfl) ((fswap_nil1 rv T _ _)) (fun w1 hw1 => ?_))
  have hV1 := (by subst hw1; exact hV)
  refine ⟨hV1.row mx, ?_⟩
  have hH := hV1.row mx
  refine wpAnyH_as (l' := #[true, true, true, true, true, true, true, true, true]) (by kernel_rfl) ?_
  obtain ⟨a9, h9⟩ : ∃ a' : Act, a' = a8.put (some 313) (.tuple #[]) := ⟨_, rfl⟩
  rw [← h9]
  have sz9 : a9.tmps.size = 341 := by rw [h9, size_put]; exact sz8
  clear e8_305 e8_307 e8_312 sz8
  refine wpAnyH_done (by kernel_rfl) ?_ _
  have hF : a9 = ⟨#[.pointer (some ⟨g, 0, none⟩), rv, c2, c3, c4, .pointer (some ⟨gx, 0, none⟩), .int .i64 (i : Int), .int .i64 (k : Int), .int .i64 (c : Int), c9, c10, c11, c12, c13, c14, c15, c16, c17, c18, c19, c20, c21, c22, c23, c24, c25, c26, c27, c28, c29, c30, c31, c32, c33, c34, c35, c36, c37, c38, c39, c40, c41, c42, c43, c44, c45, c46, c47, c48, c49, c50, c51, c52, c53, c54, c55, c56, c57, c58, c59, c60, c61, c62, c63, c64, c65, c66, c67, c68, c69, c70, c71, c72, c73, c74, c75, c76, c77, c78, c79, c80, c81, c82, c83, c84, c85, c86, c87, c88, c89, c90, c91, c92, c93, c94, c95, c96, c97, c98, c99, c100, c101, c102, c103, c104, c105, c106, c107, c108, c109, c110, c111, c112, c113, c114, c115, c116, c117, c118, c119, c120, c121, c122, c123, c124, c125, c126, c127, c128, c129, c130, c131, c132, c133, c134, c135, c136, c137, c138, c139, c140, c141, c142, c143, c144, c145, c146, c147, c148, c149, c150, c151, c152, c153, c154, c155, c156, c157, c158, c159, c160, c161, c162, c163, c164, c165, c166, c167, c168, c169, c170, c171, c172, c173, c174, c175, c176, c177, c178, c179, c180, c181, c182, c183, c184, c185, c186, c187, c188, c189, c190, c191, c192, c193, c194, c195, c196, c197, c198, c199, c200, c201, c202, c203, c204, c205, c206, c207, c208, c209, c210, c211, c212, c213, c214, c215, c216, c217, c218, c219, c220, c221, c222, c223, c224, c225, c226, c227, c228, c229, c230, c231, c232, c233, c234, c235, c236, c237, c238, c239, c240, c241, c242, c243, c244, c245, c246, c247, c248, c249, c250, c251, c252, c253, c254, c255, c256, c257, c258, c259, c260, c261, c262, c263, c264, c265, c266, c267, c268, c269, c270, c271, c272, c273, c274, c275, c276, c277, c278, c279, c280, c281, c282, c283, c284, c285, c286, c287, c288, c289, c290, c291, c292, c293, c294, c295, c296, c297, c298, c299, c300, c301, c302, c303, c304, rv, .pointer (some ⟨gx, 37, none⟩), .int .u64 T, .pointer (some ⟨g, 0, none⟩), .int .i64 (k : Int), .pointer (some ⟨g, 0, none⟩), .pointer (some ⟨g, 0, none⟩), .pointer (some ⟨g, k * 5, none⟩), .tuple #[], c314, c315, c316, c317, c318, c319, c320, c321, c322, c323, c324, c325, c326, c327, c328, c329, c330, c331, c332, c333, c334, c335, c336, c337, c338, c339, c340], []⟩ := by rw [h9, h8, h7, h6, h5, h4, h3, h2, h1, ha]; kernel_rfl
  rw [hF]
  exact H _ hV1
noncomputable def rgB39 : Code := ((Try.f17.body.bind (findReg 39)).getD .skip)
noncomputable def opB39 : Array Oper := opsOf rgB39
theorem rgB39_is : rgB39 = .region 39 opB39 true := by kernel_rfl
theorem opB39_ns : Region.noSelect opB39 = true := by kernel_rfl
theorem opB39_0 : opIs opB39 0 (.move (.tmp 1)) (some 314) := by unfold opIs; kernel_rfl
theorem opB39_1 : opIs opB39 1 (.fieldAddr 60 (.tmp 5) 6) (some 315) := by unfold opIs; kernel_rfl
theorem opB39_2 : opIs opB39 2 (.load 44 (.tmp 315)) (some 316) := by unfold opIs; kernel_rfl
theorem opB39_3 : opIs opB39 3 (.move (.tmp 0)) (some 317) := by unfold opIs; kernel_rfl
theorem opB39_4 : opIs opB39 4 (.move (.tmp 6)) (some 318) := by unfold opIs; kernel_rfl
theorem opB39_5 : opIs opB39 5 (.nilCheck (.tmp 317)) (some 319) := by unfold opIs; kernel_rfl
theorem opB39_6 : opIs opB39 6 (.fieldAddr 53 (.tmp 319) 0) (some 320) := by unfold opIs; kernel_rfl
theorem opB39_7 : opIs opB39 7 (.indexAddr 48 (.tmp 320) (.tmp 318)) (some 321) := by unfold opIs; kernel_rfl
theorem opB39_8 : opIs opB39 8 (.call { callee := .value (.func 46), args := #[.tmp 314, .tmp 316, .tmp 321, .const (.pointer none)], argTypes := #[23, 44, 97, 97] }) (some 322) := by unfold opIs; kernel_rfl
set_option maxRecDepth 100000 in
set_option maxHeartbeats 4000000 in
theorem bk_r39 {Q : Exit → Act → World → Prop} {B : Nat} {w W : World} {rv vs : Value} {lr ll : List (Int × Int)} {g gx : Nat} {es : Nat → List Int} {ns : Nat → Nat} {bx : List (Nat × Obj)} {i k c : Nat} {D : List Int} {K0 A0 B0 C0 N T : Int}  {c2 c3 c4 c9 c10 c11 c12 c13 c14 c15 c16 c17 c18 c19 c20 c21 c22 c23 c24 c25 c26 c27 c28 c29 c30 c31 c32 c33 c34 c35 c36 c37 c38 c39 c40 c41 c42 c43 c44 c45 c46 c47 c48 c49 c50 c51 c52 c53 c54 c55 c56 c57 c58 c59 c60 c61 c62 c63 c64 c65 c66 c67 c68 c69 c70 c71 c72 c73 c74 c75 c76 c77 c78 c79 c80 c81 c82 c83 c84 c85 c86 c87 c88 c89 c90 c91 c92 c93 c94 c95 c96 c97 c98 c99 c100 c101 c102 c103 c104 c105 c106 c107 c108 c109 c110 c111 c112 c113 c114 c115 c116 c117 c118 c119 c120 c121 c122 c123 c124 c125 c126 c127 c128 c129 c130 c131 c132 c133 c134 c135 c136 c137 c138 c139 c140 c141 c142 c143 c144 c145 c146 c147 c148 c149 c150 c151 c152 c153 c154 c155 c156 c157 c158 c159 c160 c161 c162 c163 c164 c165 c166 c167 c168 c169 c170 c171 c172 c173 c174 c175 c176 c177 c178 c179 c180 c181 c182 c183 c184 c185 c186 c187 c188 c189 c190 c191 c192 c193 c194 c195 c196 c197 c198 c199 c200 c201 c202 c203 c204 c205 c206 c207 c208 c209 c210 c211 c212 c213 c214 c215 c216 c217 c218 c219 c220 c221 c222 c223 c224 c225 c226 c227 c228 c229 c230 c231 c232 c233 c234 c235 c236 c237 c238 c239 c240 c241 c242 c243 c244 c245 c246 c247 c248 c249 c250 c251 c252 c253 c254 c255 c256 c257 c258 c259 c260 c261 c262 c263 c264 c265 c266 c267 c268 c269 c270 c271 c272 c273 c274 c275 c276 c277 c278 c279 c280 c281 c282 c283 c284 c285 c286 c287 c288 c289 c290 c291 c292 c293 c294 c295 c296 c297 c298 c299 c300 c301 c302 c303 c304 c305 c306 c307 c308 c309 c310 c311 c312 c313 c314 c315 c316 c317 c318 c319 c320 c321 c322 c323 c324 c325 c326 c327 c328 c329 c330 c331 c332 c333 c334 c335 c336 c337 c338 c339 c340 : Value}
    (hi8 : Hid (i < 8)) (hk8 : Hid (k < 8)) (hc8 : Hid (c < 8)) (LD : Hid (D.length = 32))
    (mx : (gx, stO K0 A0 B0 C0 D N T) ∈ bx)
    (XX : SB B w rv lr g es ns vs ll bx W)
    (HPN : ∀ c (a : Act) d v w, Q (.panic c) (a.put d v) w → Q (.panic c) a w)
    (H : ∀ W', SB B w rv lr g es ns vs ll bx W' → Q .normal ⟨#[.pointer (some ⟨g, 0, none⟩), rv, c2, c3, c4, .pointer (some ⟨gx, 0, none⟩), .int .i64 (i : Int), .int .i64 (k : Int), .int .i64 (c : Int), c9, c10, c11, c12, c13, c14, c15, c16, c17, c18, c19, c20, c21, c22, c23, c24, c25, c26, c27, c28, c29, c30, c31, c32, c33, c34, c35, c36, c37, c38, c39, c40, c41, c42, c43, c44, c45, c46, c47, c48, c49, c50, c51, c52, c53, c54, c55, c56, c57, c58, c59, c60, c61, c62, c63, c64, c65, c66, c67, c68, c69, c70, c71, c72, c73, c74, c75, c76, c77, c78, c79, c80, c81, c82, c83, c84, c85, c86, c87, c88, c89, c90, c91, c92, c93, c94, c95, c96, c97, c98, c99, c100, c101, c102, c103, c104, c105, c106, c107, c108, c109, c110, c111, c112, c113, c114, c115, c116, c117, c118, c119, c120, c121, c122, c123, c124, c125, c126, c127, c128, c129, c130, c131, c132, c133, c134, c135, c136, c137, c138, c139, c140, c141, c142, c143, c144, c145, c146, c147, c148, c149, c150, c151, c152, c153, c154, c155, c156, c157, c158, c159, c160, c161, c162, c163, c164, c165, c166, c167, c168, c169, c170, c171, c172, c173, c174, c175, c176, c177, c178, c179, c180, c181, c182, c183, c184, c185, c186, c187, c188, c189, c190, c191, c192, c193, c194, c195, c196, c197, c198, c199, c200, c201, c202, c203, c204, c205, c206, c207, c208, c209, c210, c211, c212, c213, c214, c215, c216, c217, c218, c219, c220, c221, c222, c223, c224, c225, c226, c227, c228, c229, c230, c231, c232, c233, c234, c235, c236, c237, c238, c239, c240, c241, c242, c243, c244, c245, c246, c247, c248, c249, c250, c251, c252, c253, c254, c255, c256, c257, c258, c259, c260, c261, c262, c263, c264, c265, c266, c267, c268, c269, c270, c271, c272, c273, c274, c275, c276, c277, c278, c279, c280, c281, c282, c283, c284, c285, c286, c287, c288, c289, c290, c291, c292, c293, c294, c295, c296, c297, c298, c299, c300, c301, c302, c303, c304, c305, c306, c307, c308, c309, c310, c311, c312, c313, rv, .pointer (some ⟨gx, 37, none⟩), .int .u64 T, .pointer (some ⟨g, 0, none⟩), .int .i64 (i : Int), .pointer (some ⟨g, 0, none⟩), .pointer (some ⟨g, 0, none⟩), .pointer (some ⟨g, i * 5, none⟩), .tuple #[], c323, c324, c325, c326, c327, c328, c329, c330, c331, c332, c333, c334, c335, c336, c337, c338, c339, c340], []⟩ W') :
    Code.wp Try.prog rgB39 Q ⟨#[.pointer (some ⟨g, 0, none⟩), rv, c2, c3, c4, .pointer (some ⟨gx, 0, none⟩), .int .i64 (i : Int), .int .i64 (k : Int), .int .i64 (c : Int), c9, c10, c11, c12, c13, c14, c15, c16, c17, c18, c19, c20, c21, c22, c23, c24, c25, c26, c27, c28, c29, c30, c31, c32, c33, c34, c35, c36, c37, c38, c39, c40, c41, c42, c43, c44, c45, c46, c47, c48, c49, c50, c51, c52, c53, c54, c55, c56, c57, c58, c59, c60, c61, c62, c63, c64, c65, c66, c67, c68, c69, c70, c71, c72, c73, c74, c75, c76, c77, c78, c79, c80, c81, c82, c83, c84, c85, c86, c87, c88, c89, c90, c91, c92, c93, c94, c95, c96, c97, c98, c99, c100, c101, c102, c103, c104, c105, c106, c107, c108, c109, c110, c111, c112, c113, c114, c115, c116, c117, c118, c119, c120, c121, c122, c123, c124, c125, c126, c127, c128, c129, c130, c131, c132, c133, c134, c135, c136, c137, c138, c139, c140, c141, c142, c143, c144, c145, c146, c147, c148, c149, c150, c151, c152, c153, c154, c155, c156, c157, c158, c159, c160, c161, c162, c163, c164, c165, c166, c167, c168, c169, c170, c171, c172, c173, c174, c175, c176, c177, c178, c179, c180, c181, c182, c183, c184, c185, c186, c187, c188, c189, c190, c191, c192, c193, c194, c195, c196, c197, c198, c199, c200, c201, c202, c203, c204, c205, c206, c207, c208, c209, c210, c211, c212, c213, c214, c215, c216, c217, c218, c219, c220, c221, c222, c223, c224, c225, c226, c227, c228, c229, c230, c231, c232, c233, c234, c235, c236, c237, c238, c239, c240, c241, c242, c243, c244, c245, c246, c247, c248, c249, c250, c251, c252, c253, c254, c255, c256, c257, c258, c259, c260, c261, c262, c263, c264, c265, c266, c267, c268, c269, c270, c271, c272, c273, c274, c275, c276, c277, c278, c279, c280, c281, c282, c283, c284, c285, c286, c287, c288, c289, c290, c291, c292, c293, c294, c295, c296, c297, c298, c299, c300, c301, c302, c303, c304, c305, c306, c307, c308, c309, c310, c311, c312, c313, c314, c315, c316, c317, c318, c319, c320, c321, c322, c323, c324, c325, c326, c327, c328, c329, c330, c331, c332, c333, c334, c335, c336, c337, c338, c339, c340], []⟩ W := by
  rw [rgB39_is]
  refine wp_region_held_drew (S := fun Y => Y.heap[gx]? = some (stO K0 A0 B0 C0 D N T)) (by kernel_rfl) (XX.drew.row mx) (fun hH => ?_)
  have hV := XX.drew
  clear XX
  obtain ⟨V0, hV0⟩ : ∃ V, W.drew = V := ⟨_, rfl⟩
  rw [hV0] at hH hV ⊢
  clear hV0
  obtain ⟨a0, ha⟩ : ∃ a : Act, a = ⟨#[.pointer (some ⟨g, 0, none⟩), rv, c2, c3, c4, .pointer (some ⟨gx, 0, none⟩), .int .i64 (i : Int), .int .i64 (k : Int), .int .i64 (c : Int), c9, c10, c11, c12, c13, c14, c15, c16, c17, c18, c19, c20, c21, c22, c23, c24, c25, c26, c27, c28, c29, c30, c31, c32, c33, c34, c35, c36, c37, c38, c39, c40, c41, c42, c43, c44, c45, c46, c47, c48, c49, c50, c51, c52, c53, c54, c55, c56, c57, c58, c59, c60, c61, c62, c63, c64, c65, c66, c67, c68, c69, c70, c71, c72, c73, c74, c75, c76, c77, c78, c79, c80, c81, c82, c83, c84, c85, c86, c87, c88, c89, c90, c91, c92, c93, c94, c95, c96, c97, c98, c99, c100, c101, c102, c103, c104, c105, c106, c107, c108, c109, c110, c111, c112, c113, c114, c115, c116, c117, c118, c119, c120, c121, c122, c123, c124, c125, c126, c127, c128, c129, c130, c131, c132, c133, c134, c135, c136, c137, c138, c139, c140, c141, c142, c143, c144, c145, c146, c147, c148, c149, c150, c151, c152, c153, c154, c155, c156, c157, c158, c159, c160, c161, c162, c163, c164, c165, c166, c167, c168, c169, c170, c171, c172, c173, c174, c175, c176, c177, c178, c179, c180, c181, c182, c183, c184, c185, c186, c187, c188, c189, c190, c191, c192, c193, c194, c195, c196, c197, c198, c199, c200, c201, c202, c203, c204, c205, c206, c207, c208, c209, c210, c211, c212, c213, c214, c215, c216, c217, c218, c219, c220, c221, c222, c223, c224, c225, c226, c227, c228, c229, c230, c231, c232, c233, c234, c235, c236, c237, c238, c239, c240, c241, c242, c243, c244, c245, c246, c247, c248, c249, c250, c251, c252, c253, c254, c255, c256, c257, c258, c259, c260, c261, c262, c263, c264, c265, c266, c267, c268, c269, c270, c271, c272, c273, c274, c275, c276, c277, c278, c279, c280, c281, c282, c283, c284, c285, c286, c287, c288, c289, c290, c291, c292, c293, c294, c295, c296, c297, c298, c299, c300, c301, c302, c303, c304, c305, c306, c307, c308, c309, c310, c311, c312, c313, c314, c315, c316, c317, c318, c319, c320, c321, c322, c323, c324, c325, c326, c327, c328, c329, c330, c331, c332, c333, c334, c335, c336, c337, c338, c339, c340], []⟩ := ⟨_, rfl⟩
  have sz0 : a0.tmps.size = 341 := by rw [ha]; kernel_rfl
  have e0_0 : a0.eval (.tmp 0) = .pointer (some ⟨g, 0, none⟩) := by rw [ha]; kernel_rfl
  have e0_1 : a0.eval (.tmp 1) = rv := by rw [ha]; kernel_rfl
  have e0_5 : a0.eval (.tmp 5) = .pointer (some ⟨gx, 0, none⟩) := by rw [ha]; kernel_rfl
  have e0_6 : a0.eval (.tmp 6) = .int .i64 (i : Int) := by rw [ha]; kernel_rfl
  rw [← ha]
  refine wpAnyH_as (l' := #[false, false, false, false, false, false, false, false, false]) (by kernel_rfl) ?_
  refine takeH (v := rv) opB39_0 opB39_ns (by kernel_rfl) (by kernel_rfl) HPN (fun w hw o ho => run_move ho e0_1 w) hH ?_
  refine wpAnyH_as (l' := #[true, false, false, false, false, false, false, false, false]) (by kernel_rfl) ?_
  obtain ⟨a1, h1⟩ : ∃ a' : Act, a' = a0.put (some 314) (rv) := ⟨_, rfl⟩
  rw [← h1]
  have sz1 : a1.tmps.size = 341 := by rw [h1, size_put]; exact sz0
  have e1_0 : a1.eval (.tmp 0) = .pointer (some ⟨g, 0, none⟩) := by rw [h1, eval_put_ne _ _ _ _ (by decide)]; exact e0_0
  have e1_5 : a1.eval (.tmp 5) = .pointer (some ⟨gx, 0, none⟩) := by rw [h1, eval_put_ne _ _ _ _ (by decide)]; exact e0_5
  have e1_6 : a1.eval (.tmp 6) = .int .i64 (i : Int) := by rw [h1, eval_put_ne _ _ _ _ (by decide)]; exact e0_6
  have e1_314 : a1.eval (.tmp 314) = rv := by rw [h1]; exact eval_put_eq _ _ _ (by rw [sz0]; decide)
  clear e0_0 e0_1 e0_5 e0_6 sz0
  refine takeH (v := .pointer (some ⟨gx, 37, none⟩)) opB39_1 opB39_ns (by kernel_rfl) (by kernel_rfl) HPN (fun w hw o ho => run_stBit ho e1_5 w) hH ?_
  refine wpAnyH_as (l' := #[true, true, false, false, false, false, false, false, false]) (by kernel_rfl) ?_
  obtain ⟨a2, h2⟩ : ∃ a' : Act, a' = a1.put (some 315) (.pointer (some ⟨gx, 37, none⟩)) := ⟨_, rfl⟩
  rw [← h2]
  have sz2 : a2.tmps.size = 341 := by rw [h2, size_put]; exact sz1
  have e2_0 : a2.eval (.tmp 0) = .pointer (some ⟨g, 0, none⟩) := by rw [h2, eval_put_ne _ _ _ _ (by decide)]; exact e1_0
  have e2_6 : a2.eval (.tmp 6) = .int .i64 (i : Int) := by rw [h2, eval_put_ne _ _ _ _ (by decide)]; exact e1_6
  have e2_314 : a2.eval (.tmp 314) = rv := by rw [h2, eval_put_ne _ _ _ _ (by decide)]; exact e1_314
  have e2_315 : a2.eval (.tmp 315) = .pointer (some ⟨gx, 37, none⟩) := by rw [h2]; exact eval_put_eq _ _ _ (by rw [sz1]; decide)
  clear e1_0 e1_314 e1_5 e1_6 sz1
  refine takeH (v := .int .u64 T) opB39_2 opB39_ns (by kernel_rfl) (by kernel_rfl) HPN (fun w hw o ho => run_loadU64 ho e2_315 w (st_bit hw LD.out)) hH ?_
  refine wpAnyH_as (l' := #[true, true, true, false, false, false, false, false, false]) (by kernel_rfl) ?_
  obtain ⟨a3, h3⟩ : ∃ a' : Act, a' = a2.put (some 316) (.int .u64 T) := ⟨_, rfl⟩
  rw [← h3]
  have sz3 : a3.tmps.size = 341 := by rw [h3, size_put]; exact sz2
  have e3_0 : a3.eval (.tmp 0) = .pointer (some ⟨g, 0, none⟩) := by rw [h3, eval_put_ne _ _ _ _ (by decide)]; exact e2_0
  have e3_6 : a3.eval (.tmp 6) = .int .i64 (i : Int) := by rw [h3, eval_put_ne _ _ _ _ (by decide)]; exact e2_6
  have e3_314 : a3.eval (.tmp 314) = rv := by rw [h3, eval_put_ne _ _ _ _ (by decide)]; exact e2_314
  have e3_316 : a3.eval (.tmp 316) = .int .u64 T := by rw [h3]; exact eval_put_eq _ _ _ (by rw [sz2]; decide)
  clear e2_0 e2_314 e2_315 e2_6 sz2
  refine takeH (v := .pointer (some ⟨g, 0, none⟩)) opB39_3 opB39_ns (by kernel_rfl) (by kernel_rfl) HPN (fun w hw o ho => run_move ho e3_0 w) hH ?_
  refine wpAnyH_as (l' := #[true, true, true, true, false, false, false, false, false]) (by kernel_rfl) ?_
  obtain ⟨a4, h4⟩ : ∃ a' : Act, a' = a3.put (some 317) (.pointer (some ⟨g, 0, none⟩)) := ⟨_, rfl⟩
  rw [← h4]
  have sz4 : a4.tmps.size = 341 := by rw [h4, size_put]; exact sz3
  have e4_6 : a4.eval (.tmp 6) = .int .i64 (i : Int) := by rw [h4, eval_put_ne _ _ _ _ (by decide)]; exact e3_6
  have e4_314 : a4.eval (.tmp 314) = rv := by rw [h4, eval_put_ne _ _ _ _ (by decide)]; exact e3_314
  have e4_316 : a4.eval (.tmp 316) = .int .u64 T := by rw [h4, eval_put_ne _ _ _ _ (by decide)]; exact e3_316
  have e4_317 : a4.eval (.tmp 317) = .pointer (some ⟨g, 0, none⟩) := by rw [h4]; exact eval_put_eq _ _ _ (by rw [sz3]; decide)
  clear e3_0 e3_314 e3_316 e3_6 sz3
  refine takeH (v := .int .i64 (i : Int)) opB39_4 opB39_ns (by kernel_rfl) (by kernel_rfl) HPN (fun w hw o ho => run_move ho e4_6 w) hH ?_
  refine wpAnyH_as (l' := #[true, true, true, true, true, false, false, false, false]) (by kernel_rfl) ?_
  obtain ⟨a5, h5⟩ : ∃ a' : Act, a' = a4.put (some 318) (.int .i64 (i : Int)) := ⟨_, rfl⟩
  rw [← h5]
  have sz5 : a5.tmps.size = 341 := by rw [h5, size_put]; exact sz4
  have e5_314 : a5.eval (.tmp 314) = rv := by rw [h5, eval_put_ne _ _ _ _ (by decide)]; exact e4_314
  have e5_316 : a5.eval (.tmp 316) = .int .u64 T := by rw [h5, eval_put_ne _ _ _ _ (by decide)]; exact e4_316
  have e5_317 : a5.eval (.tmp 317) = .pointer (some ⟨g, 0, none⟩) := by rw [h5, eval_put_ne _ _ _ _ (by decide)]; exact e4_317
  have e5_318 : a5.eval (.tmp 318) = .int .i64 (i : Int) := by rw [h5]; exact eval_put_eq _ _ _ (by rw [sz4]; decide)
  clear e4_314 e4_316 e4_317 e4_6 sz4
  refine takeH (v := .pointer (some ⟨g, 0, none⟩)) opB39_5 opB39_ns (by kernel_rfl) (by kernel_rfl) HPN (fun w hw o ho => run_nilCheck ho e5_317 w) hH ?_
  refine wpAnyH_as (l' := #[true, true, true, true, true, true, false, false, false]) (by kernel_rfl) ?_
  obtain ⟨a6, h6⟩ : ∃ a' : Act, a' = a5.put (some 319) (.pointer (some ⟨g, 0, none⟩)) := ⟨_, rfl⟩
  rw [← h6]
  have sz6 : a6.tmps.size = 341 := by rw [h6, size_put]; exact sz5
  have e6_314 : a6.eval (.tmp 314) = rv := by rw [h6, eval_put_ne _ _ _ _ (by decide)]; exact e5_314
  have e6_316 : a6.eval (.tmp 316) = .int .u64 T := by rw [h6, eval_put_ne _ _ _ _ (by decide)]; exact e5_316
  have e6_318 : a6.eval (.tmp 318) = .int .i64 (i : Int) := by rw [h6, eval_put_ne _ _ _ _ (by decide)]; exact e5_318
  have e6_319 : a6.eval (.tmp 319) = .pointer (some ⟨g, 0, none⟩) := by rw [h6]; exact eval_put_eq _ _ _ (by rw [sz5]; decide)
  clear e5_314 e5_316 e5_317 e5_318 sz5
  refine takeH (v := .pointer (some ⟨g, 0, none⟩)) opB39_6 opB39_ns (by kernel_rfl) (by kernel_rfl) HPN (fun w hw o ho => run_fieldE ho e6_319 w) hH ?_
  refine wpAnyH_as (l' := #[true, true, true, true, true, true, true, false, false]) (by kernel_rfl) ?_
  obtain ⟨a7, h7⟩ : ∃ a' : Act, a' = a6.put (some 320) (.pointer (some ⟨g, 0, none⟩)) := ⟨_, rfl⟩
  rw [← h7]
  have sz7 : a7.tmps.size = 341 := by rw [h7, size_put]; exact sz6
  have e7_314 : a7.eval (.tmp 314) = rv := by rw [h7, eval_put_ne _ _ _ _ (by decide)]; exact e6_314
  have e7_316 : a7.eval (.tmp 316) = .int .u64 T := by rw [h7, eval_put_ne _ _ _ _ (by decide)]; exact e6_316
  have e7_318 : a7.eval (.tmp 318) = .int .i64 (i : Int) := by rw [h7, eval_put_ne _ _ _ _ (by decide)]; exact e6_318
  have e7_320 : a7.eval (.tmp 320) = .pointer (some ⟨g, 0, none⟩) := by rw [h7]; exact eval_put_eq _ _ _ (by rw [sz6]; decide)
  clear e6_314 e6_316 e6_318 e6_319 sz6
  refine takeH (v := .pointer (some ⟨g, i * 5, none⟩)) opB39_7 opB39_ns (by kernel_rfl) (by kernel_rfl) HPN (fun w hw o ho => run_indexE hi8.out ho e7_320 e7_318 w) hH ?_
  refine wpAnyH_as (l' := #[true, true, true, true, true, true, true, true, false]) (by kernel_rfl) ?_
  obtain ⟨a8, h8⟩ : ∃ a' : Act, a' = a7.put (some 321) (.pointer (some ⟨g, i * 5, none⟩)) := ⟨_, rfl⟩
  rw [← h8]
  have sz8 : a8.tmps.size = 341 := by rw [h8, size_put]; exact sz7
  have e8_314 : a8.eval (.tmp 314) = rv := by rw [h8, eval_put_ne _ _ _ _ (by decide)]; exact e7_314
  have e8_316 : a8.eval (.tmp 316) = .int .u64 T := by rw [h8, eval_put_ne _ _ _ _ (by decide)]; exact e7_316
  have e8_321 : a8.eval (.tmp 321) = .pointer (some ⟨g, i * 5, none⟩) := by rw [h8]; exact eval_put_eq _ _ _ (by rw [sz7]; decide)
  clear e7_314 e7_316 e7_318 e7_320 sz7
  refine readyH opB39_8 (by kernel_rfl) (fun o ho hd => wpCall (v := .tuple #[]) ho hd (args := #[rv, .int .u64 T, .pointer (some ⟨g, i * 5, none⟩), .pointer none]) (by simp only [List.map_toArray, List.map_cons, List.map_nil, e8_314, e8_316, e8_321] <;> rfl) (fun _ => rfl) ((fswap_nil2 rv T _ _)) (fun w1 hw1 => ?_))
  have hV1 := (by subst hw1; exact hV)
  refine ⟨hV1.row mx, ?_⟩
  have hH := hV1.row mx
  refine wpAnyH_as (l' := #[true, true, true, true, true, true, true, true, true]) (by kernel_rfl) ?_
  obtain ⟨a9, h9⟩ : ∃ a' : Act, a' = a8.put (some 322) (.tuple #[]) := ⟨_, rfl⟩
  rw [← h9]
  have sz9 : a9.tmps.size = 341 := by rw [h9, size_put]; exact sz8
  clear e8_314 e8_316 e8_321 sz8
  refine wpAnyH_done (by kernel_rfl) ?_ _
  have hF : a9 = ⟨#[.pointer (some ⟨g, 0, none⟩), rv, c2, c3, c4, .pointer (some ⟨gx, 0, none⟩), .int .i64 (i : Int), .int .i64 (k : Int), .int .i64 (c : Int), c9, c10, c11, c12, c13, c14, c15, c16, c17, c18, c19, c20, c21, c22, c23, c24, c25, c26, c27, c28, c29, c30, c31, c32, c33, c34, c35, c36, c37, c38, c39, c40, c41, c42, c43, c44, c45, c46, c47, c48, c49, c50, c51, c52, c53, c54, c55, c56, c57, c58, c59, c60, c61, c62, c63, c64, c65, c66, c67, c68, c69, c70, c71, c72, c73, c74, c75, c76, c77, c78, c79, c80, c81, c82, c83, c84, c85, c86, c87, c88, c89, c90, c91, c92, c93, c94, c95, c96, c97, c98, c99, c100, c101, c102, c103, c104, c105, c106, c107, c108, c109, c110, c111, c112, c113, c114, c115, c116, c117, c118, c119, c120, c121, c122, c123, c124, c125, c126, c127, c128, c129, c130, c131, c132, c133, c134, c135, c136, c137, c138, c139, c140, c141, c142, c143, c144, c145, c146, c147, c148, c149, c150, c151, c152, c153, c154, c155, c156, c157, c158, c159, c160, c161, c162, c163, c164, c165, c166, c167, c168, c169, c170, c171, c172, c173, c174, c175, c176, c177, c178, c179, c180, c181, c182, c183, c184, c185, c186, c187, c188, c189, c190, c191, c192, c193, c194, c195, c196, c197, c198, c199, c200, c201, c202, c203, c204, c205, c206, c207, c208, c209, c210, c211, c212, c213, c214, c215, c216, c217, c218, c219, c220, c221, c222, c223, c224, c225, c226, c227, c228, c229, c230, c231, c232, c233, c234, c235, c236, c237, c238, c239, c240, c241, c242, c243, c244, c245, c246, c247, c248, c249, c250, c251, c252, c253, c254, c255, c256, c257, c258, c259, c260, c261, c262, c263, c264, c265, c266, c267, c268, c269, c270, c271, c272, c273, c274, c275, c276, c277, c278, c279, c280, c281, c282, c283, c284, c285, c286, c287, c288, c289, c290, c291, c292, c293, c294, c295, c296, c297, c298, c299, c300, c301, c302, c303, c304, c305, c306, c307, c308, c309, c310, c311, c312, c313, rv, .pointer (some ⟨gx, 37, none⟩), .int .u64 T, .pointer (some ⟨g, 0, none⟩), .int .i64 (i : Int), .pointer (some ⟨g, 0, none⟩), .pointer (some ⟨g, 0, none⟩), .pointer (some ⟨g, i * 5, none⟩), .tuple #[], c323, c324, c325, c326, c327, c328, c329, c330, c331, c332, c333, c334, c335, c336, c337, c338, c339, c340], []⟩ := by rw [h9, h8, h7, h6, h5, h4, h3, h2, h1, ha]; kernel_rfl
  rw [hF]
  exact H _ hV1
end Go.Proofs.Ytacofgmnmofkpaa
