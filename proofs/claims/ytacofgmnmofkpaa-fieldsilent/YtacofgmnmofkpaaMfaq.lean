import Derived.Test.YtacofgmnmofkpaaMfal
import Derived.Test.YtacofgmnmofkpaaMfam
namespace Go.Proofs.Ytacofgmnmofkpaa
set_option linter.unusedSimpArgs false
set_option linter.unusedVariables false
open Go.ChangeShapes Go.WideShapes Go.ChangeAt Go.RowKit Go.Pin Go.Fld
noncomputable def rgB29 : Code := ((Try.f17.body.bind (findReg 29)).getD .skip)
noncomputable def opB29 : Array Oper := opsOf rgB29
theorem rgB29_is : rgB29 = .region 29 opB29 true := by kernel_rfl
theorem opB29_ns : Region.noSelect opB29 = true := by kernel_rfl
theorem opB29_0 : opIs opB29 0 (.move (.tmp 0)) (some 232) := by unfold opIs; kernel_rfl
theorem opB29_1 : opIs opB29 1 (.move (.tmp 8)) (some 233) := by unfold opIs; kernel_rfl
theorem opB29_2 : opIs opB29 2 (.move (.tmp 1)) (some 234) := by unfold opIs; kernel_rfl
theorem opB29_3 : opIs opB29 3 (.move (.tmp 0)) (some 235) := by unfold opIs; kernel_rfl
theorem opB29_4 : opIs opB29 4 (.move (.tmp 6)) (some 236) := by unfold opIs; kernel_rfl
theorem opB29_5 : opIs opB29 5 (.nilCheck (.tmp 235)) (some 237) := by unfold opIs; kernel_rfl
theorem opB29_6 : opIs opB29 6 (.fieldAddr 53 (.tmp 237) 0) (some 238) := by unfold opIs; kernel_rfl
theorem opB29_7 : opIs opB29 7 (.indexAddr 48 (.tmp 238) (.tmp 236)) (some 239) := by unfold opIs; kernel_rfl
theorem opB29_8 : opIs opB29 8 (.load 47 (.tmp 239)) (some 240) := by unfold opIs; kernel_rfl
theorem opB29_9 : opIs opB29 9 (.call { callee := .value (.func 44), args := #[.tmp 234, .tmp 240], argTypes := #[23, 47] }) (some 241) := by unfold opIs; kernel_rfl
theorem opB29_10 : opIs opB29 10 (.nilCheck (.tmp 232)) (some 242) := by unfold opIs; kernel_rfl
theorem opB29_11 : opIs opB29 11 (.fieldAddr 53 (.tmp 242) 0) (some 243) := by unfold opIs; kernel_rfl
theorem opB29_12 : opIs opB29 12 (.indexAddr 48 (.tmp 243) (.tmp 233)) (some 244) := by unfold opIs; kernel_rfl
theorem opB29_13 : opIs opB29 13 (.store 47 (.tmp 244) (.tmp 241)) (none) := by unfold opIs; kernel_rfl
set_option maxRecDepth 100000 in
set_option maxHeartbeats 4000000 in
theorem bk_r29 {Q : Exit → Act → World → Prop} {B : Nat} {w W : World} {rv vs : Value} {lr ll : List (Int × Int)} {g gx : Nat} {es : Nat → List Int} {ns : Nat → Nat} {bx : List (Nat × Obj)} {i k c : Nat} {D : List Int} {K0 A0 B0 C0 N T : Int} {z : List Int} {c2 c3 c4 c9 c10 c11 c12 c13 c14 c15 c16 c17 c18 c19 c20 c21 c22 c23 c24 c25 c26 c27 c28 c29 c30 c31 c32 c33 c34 c35 c36 c37 c38 c39 c40 c41 c42 c43 c44 c45 c46 c47 c48 c49 c50 c51 c52 c53 c54 c55 c56 c57 c58 c59 c60 c61 c62 c63 c64 c65 c66 c67 c68 c69 c70 c71 c72 c73 c74 c75 c76 c77 c78 c79 c80 c81 c82 c83 c84 c85 c86 c87 c88 c89 c90 c91 c92 c93 c94 c95 c96 c97 c98 c99 c100 c101 c102 c103 c104 c105 c106 c107 c108 c109 c110 c111 c112 c113 c114 c115 c116 c117 c118 c119 c120 c121 c122 c123 c124 c125 c126 c127 c128 c129 c130 c131 c132 c133 c134 c135 c136 c137 c138 c139 c140 c141 c142 c143 c144 c145 c146 c147 c148 c149 c150 c151 c152 c153 c154 c155 c156 c157 c158 c159 c160 c161 c162 c163 c164 c165 c166 c167 c168 c169 c170 c171 c172 c173 c174 c175 c176 c177 c178 c179 c180 c181 c182 c183 c184 c185 c186 c187 c188 c189 c190 c191 c192 c193 c194 c195 c196 c197 c198 c199 c200 c201 c202 c203 c204 c205 c206 c207 c208 c209 c210 c211 c212 c213 c214 c215 c216 c217 c218 c219 c220 c221 c222 c223 c224 c225 c226 c227 c228 c229 c230 c231 c232 c233 c234 c235 c236 c237 c238 c239 c240 c241 c242 c243 c244 c245 c246 c247 c248 c249 c250 c251 c252 c253 c254 c255 c256 c257 c258 c259 c260 c261 c262 c263 c264 c265 c266 c267 c268 c269 c270 c271 c272 c273 c274 c275 c276 c277 c278 c279 c280 c281 c282 c283 c284 c285 c286 c287 c288 c289 c290 c291 c292 c293 c294 c295 c296 c297 c298 c299 c300 c301 c302 c303 c304 c305 c306 c307 c308 c309 c310 c311 c312 c313 c314 c315 c316 c317 c318 c319 c320 c321 c322 c323 c324 c325 c326 c327 c328 c329 c330 c331 c332 c333 c334 c335 c336 c337 c338 c339 c340 : Value}
    (hi8 : Hid (i < 8)) (hk8 : Hid (k < 8)) (hc8 : Hid (c < 8)) (LD : Hid (D.length = 32))
    (HC : Hid (∀ B w rv l bx wr, Ev B w rv l bx wr → l.length ≤ 1000000 → Calls Try.prog 44 #[rv, .agg (VI .u64 (es i))] wr fun e w' => e = .returned (.agg (VI .u64 z)) ∧ Ev B w rv (l ++ [(3, 6)]) bx w')) (hl : Hid (lr.length ≤ 1000000)) (lz : Hid (Lim z))
    (mx : (gx, stO K0 A0 B0 C0 D N T) ∈ bx)
    (XX : SB B w rv lr g es ns vs ll bx W)
    (HPN : ∀ c (a : Act) d v w, Q (.panic c) (a.put d v) w → Q (.panic c) a w)
    (H : ∀ W', SB B w rv (lr ++ [(3, 6)]) g (upd es c z) ns vs ll bx W' → Q .normal ⟨#[.pointer (some ⟨g, 0, none⟩), rv, c2, c3, c4, .pointer (some ⟨gx, 0, none⟩), .int .i64 (i : Int), .int .i64 (k : Int), .int .i64 (c : Int), c9, c10, c11, c12, c13, c14, c15, c16, c17, c18, c19, c20, c21, c22, c23, c24, c25, c26, c27, c28, c29, c30, c31, c32, c33, c34, c35, c36, c37, c38, c39, c40, c41, c42, c43, c44, c45, c46, c47, c48, c49, c50, c51, c52, c53, c54, c55, c56, c57, c58, c59, c60, c61, c62, c63, c64, c65, c66, c67, c68, c69, c70, c71, c72, c73, c74, c75, c76, c77, c78, c79, c80, c81, c82, c83, c84, c85, c86, c87, c88, c89, c90, c91, c92, c93, c94, c95, c96, c97, c98, c99, c100, c101, c102, c103, c104, c105, c106, c107, c108, c109, c110, c111, c112, c113, c114, c115, c116, c117, c118, c119, c120, c121, c122, c123, c124, c125, c126, c127, c128, c129, c130, c131, c132, c133, c134, c135, c136, c137, c138, c139, c140, c141, c142, c143, c144, c145, c146, c147, c148, c149, c150, c151, c152, c153, c154, c155, c156, c157, c158, c159, c160, c161, c162, c163, c164, c165, c166, c167, c168, c169, c170, c171, c172, c173, c174, c175, c176, c177, c178, c179, c180, c181, c182, c183, c184, c185, c186, c187, c188, c189, c190, c191, c192, c193, c194, c195, c196, c197, c198, c199, c200, c201, c202, c203, c204, c205, c206, c207, c208, c209, c210, c211, c212, c213, c214, c215, c216, c217, c218, c219, c220, c221, c222, c223, c224, c225, c226, c227, c228, c229, c230, c231, .pointer (some ⟨g, 0, none⟩), .int .i64 (c : Int), rv, .pointer (some ⟨g, 0, none⟩), .int .i64 (i : Int), .pointer (some ⟨g, 0, none⟩), .pointer (some ⟨g, 0, none⟩), .pointer (some ⟨g, i * 5, none⟩), .agg (VI .u64 (es i)), .agg (VI .u64 z), .pointer (some ⟨g, 0, none⟩), .pointer (some ⟨g, 0, none⟩), .pointer (some ⟨g, c * 5, none⟩), c245, c246, c247, c248, c249, c250, c251, c252, c253, c254, c255, c256, c257, c258, c259, c260, c261, c262, c263, c264, c265, c266, c267, c268, c269, c270, c271, c272, c273, c274, c275, c276, c277, c278, c279, c280, c281, c282, c283, c284, c285, c286, c287, c288, c289, c290, c291, c292, c293, c294, c295, c296, c297, c298, c299, c300, c301, c302, c303, c304, c305, c306, c307, c308, c309, c310, c311, c312, c313, c314, c315, c316, c317, c318, c319, c320, c321, c322, c323, c324, c325, c326, c327, c328, c329, c330, c331, c332, c333, c334, c335, c336, c337, c338, c339, c340], []⟩ W') :
    Code.wp Try.prog rgB29 Q ⟨#[.pointer (some ⟨g, 0, none⟩), rv, c2, c3, c4, .pointer (some ⟨gx, 0, none⟩), .int .i64 (i : Int), .int .i64 (k : Int), .int .i64 (c : Int), c9, c10, c11, c12, c13, c14, c15, c16, c17, c18, c19, c20, c21, c22, c23, c24, c25, c26, c27, c28, c29, c30, c31, c32, c33, c34, c35, c36, c37, c38, c39, c40, c41, c42, c43, c44, c45, c46, c47, c48, c49, c50, c51, c52, c53, c54, c55, c56, c57, c58, c59, c60, c61, c62, c63, c64, c65, c66, c67, c68, c69, c70, c71, c72, c73, c74, c75, c76, c77, c78, c79, c80, c81, c82, c83, c84, c85, c86, c87, c88, c89, c90, c91, c92, c93, c94, c95, c96, c97, c98, c99, c100, c101, c102, c103, c104, c105, c106, c107, c108, c109, c110, c111, c112, c113, c114, c115, c116, c117, c118, c119, c120, c121, c122, c123, c124, c125, c126, c127, c128, c129, c130, c131, c132, c133, c134, c135, c136, c137, c138, c139, c140, c141, c142, c143, c144, c145, c146, c147, c148, c149, c150, c151, c152, c153, c154, c155, c156, c157, c158, c159, c160, c161, c162, c163, c164, c165, c166, c167, c168, c169, c170, c171, c172, c173, c174, c175, c176, c177, c178, c179, c180, c181, c182, c183, c184, c185, c186, c187, c188, c189, c190, c191, c192, c193, c194, c195, c196, c197, c198, c199, c200, c201, c202, c203, c204, c205, c206, c207, c208, c209, c210, c211, c212, c213, c214, c215, c216, c217, c218, c219, c220, c221, c222, c223, c224, c225, c226, c227, c228, c229, c230, c231, c232, c233, c234, c235, c236, c237, c238, c239, c240, c241, c242, c243, c244, c245, c246, c247, c248, c249, c250, c251, c252, c253, c254, c255, c256, c257, c258, c259, c260, c261, c262, c263, c264, c265, c266, c267, c268, c269, c270, c271, c272, c273, c274, c275, c276, c277, c278, c279, c280, c281, c282, c283, c284, c285, c286, c287, c288, c289, c290, c291, c292, c293, c294, c295, c296, c297, c298, c299, c300, c301, c302, c303, c304, c305, c306, c307, c308, c309, c310, c311, c312, c313, c314, c315, c316, c317, c318, c319, c320, c321, c322, c323, c324, c325, c326, c327, c328, c329, c330, c331, c332, c333, c334, c335, c336, c337, c338, c339, c340], []⟩ W := by
  rw [rgB29_is]
  refine wp_region_held_drew (S := fun Y => Y.heap[gx]? = some (stO K0 A0 B0 C0 D N T)) (by kernel_rfl) (XX.drew.row mx) (fun hH => ?_)
  have hV := XX.drew
  clear XX
  obtain ⟨V0, hV0⟩ : ∃ V, W.drew = V := ⟨_, rfl⟩
  rw [hV0] at hH hV ⊢
  clear hV0
  obtain ⟨a0, ha⟩ : ∃ a : Act, a = ⟨#[.pointer (some ⟨g, 0, none⟩), rv, c2, c3, c4, .pointer (some ⟨gx, 0, none⟩), .int .i64 (i : Int), .int .i64 (k : Int), .int .i64 (c : Int), c9, c10, c11, c12, c13, c14, c15, c16, c17, c18, c19, c20, c21, c22, c23, c24, c25, c26, c27, c28, c29, c30, c31, c32, c33, c34, c35, c36, c37, c38, c39, c40, c41, c42, c43, c44, c45, c46, c47, c48, c49, c50, c51, c52, c53, c54, c55, c56, c57, c58, c59, c60, c61, c62, c63, c64, c65, c66, c67, c68, c69, c70, c71, c72, c73, c74, c75, c76, c77, c78, c79, c80, c81, c82, c83, c84, c85, c86, c87, c88, c89, c90, c91, c92, c93, c94, c95, c96, c97, c98, c99, c100, c101, c102, c103, c104, c105, c106, c107, c108, c109, c110, c111, c112, c113, c114, c115, c116, c117, c118, c119, c120, c121, c122, c123, c124, c125, c126, c127, c128, c129, c130, c131, c132, c133, c134, c135, c136, c137, c138, c139, c140, c141, c142, c143, c144, c145, c146, c147, c148, c149, c150, c151, c152, c153, c154, c155, c156, c157, c158, c159, c160, c161, c162, c163, c164, c165, c166, c167, c168, c169, c170, c171, c172, c173, c174, c175, c176, c177, c178, c179, c180, c181, c182, c183, c184, c185, c186, c187, c188, c189, c190, c191, c192, c193, c194, c195, c196, c197, c198, c199, c200, c201, c202, c203, c204, c205, c206, c207, c208, c209, c210, c211, c212, c213, c214, c215, c216, c217, c218, c219, c220, c221, c222, c223, c224, c225, c226, c227, c228, c229, c230, c231, c232, c233, c234, c235, c236, c237, c238, c239, c240, c241, c242, c243, c244, c245, c246, c247, c248, c249, c250, c251, c252, c253, c254, c255, c256, c257, c258, c259, c260, c261, c262, c263, c264, c265, c266, c267, c268, c269, c270, c271, c272, c273, c274, c275, c276, c277, c278, c279, c280, c281, c282, c283, c284, c285, c286, c287, c288, c289, c290, c291, c292, c293, c294, c295, c296, c297, c298, c299, c300, c301, c302, c303, c304, c305, c306, c307, c308, c309, c310, c311, c312, c313, c314, c315, c316, c317, c318, c319, c320, c321, c322, c323, c324, c325, c326, c327, c328, c329, c330, c331, c332, c333, c334, c335, c336, c337, c338, c339, c340], []⟩ := ⟨_, rfl⟩
  have sz0 : a0.tmps.size = 341 := by rw [ha]; kernel_rfl
  have e0_0 : a0.eval (.tmp 0) = .pointer (some ⟨g, 0, none⟩) := by rw [ha]; kernel_rfl
  have e0_1 : a0.eval (.tmp 1) = rv := by rw [ha]; kernel_rfl
  have e0_6 : a0.eval (.tmp 6) = .int .i64 (i : Int) := by rw [ha]; kernel_rfl
  have e0_8 : a0.eval (.tmp 8) = .int .i64 (c : Int) := by rw [ha]; kernel_rfl
  rw [← ha]
  refine wpAnyH_as (l' := #[false, false, false, false, false, false, false, false, false, false, false, false, false, false]) (by kernel_rfl) ?_
  refine takeH (v := .pointer (some ⟨g, 0, none⟩)) opB29_0 opB29_ns (by kernel_rfl) (by kernel_rfl) HPN (fun w hw o ho => run_move ho e0_0 w) hH ?_
  refine wpAnyH_as (l' := #[true, false, false, false, false, false, false, false, false, false, false, false, false, false]) (by kernel_rfl) ?_
  obtain ⟨a1, h1⟩ : ∃ a' : Act, a' = a0.put (some 232) (.pointer (some ⟨g, 0, none⟩)) := ⟨_, rfl⟩
  rw [← h1]
  have sz1 : a1.tmps.size = 341 := by rw [h1, size_put]; exact sz0
  have e1_0 : a1.eval (.tmp 0) = .pointer (some ⟨g, 0, none⟩) := by rw [h1, eval_put_ne _ _ _ _ (by decide)]; exact e0_0
  have e1_1 : a1.eval (.tmp 1) = rv := by rw [h1, eval_put_ne _ _ _ _ (by decide)]; exact e0_1
  have e1_6 : a1.eval (.tmp 6) = .int .i64 (i : Int) := by rw [h1, eval_put_ne _ _ _ _ (by decide)]; exact e0_6
  have e1_8 : a1.eval (.tmp 8) = .int .i64 (c : Int) := by rw [h1, eval_put_ne _ _ _ _ (by decide)]; exact e0_8
  have e1_232 : a1.eval (.tmp 232) = .pointer (some ⟨g, 0, none⟩) := by rw [h1]; exact eval_put_eq _ _ _ (by rw [sz0]; decide)
  clear e0_0 e0_1 e0_6 e0_8 sz0
  refine takeH (v := .int .i64 (c : Int)) opB29_1 opB29_ns (by kernel_rfl) (by kernel_rfl) HPN (fun w hw o ho => run_move ho e1_8 w) hH ?_
  refine wpAnyH_as (l' := #[true, true, false, false, false, false, false, false, false, false, false, false, false, false]) (by kernel_rfl) ?_
  obtain ⟨a2, h2⟩ : ∃ a' : Act, a' = a1.put (some 233) (.int .i64 (c : Int)) := ⟨_, rfl⟩
  rw [← h2]
  have sz2 : a2.tmps.size = 341 := by rw [h2, size_put]; exact sz1
  have e2_0 : a2.eval (.tmp 0) = .pointer (some ⟨g, 0, none⟩) := by rw [h2, eval_put_ne _ _ _ _ (by decide)]; exact e1_0
  have e2_1 : a2.eval (.tmp 1) = rv := by rw [h2, eval_put_ne _ _ _ _ (by decide)]; exact e1_1
  have e2_6 : a2.eval (.tmp 6) = .int .i64 (i : Int) := by rw [h2, eval_put_ne _ _ _ _ (by decide)]; exact e1_6
  have e2_232 : a2.eval (.tmp 232) = .pointer (some ⟨g, 0, none⟩) := by rw [h2, eval_put_ne _ _ _ _ (by decide)]; exact e1_232
  have e2_233 : a2.eval (.tmp 233) = .int .i64 (c : Int) := by rw [h2]; exact eval_put_eq _ _ _ (by rw [sz1]; decide)
  clear e1_0 e1_1 e1_232 e1_6 e1_8 sz1
  refine takeH (v := rv) opB29_2 opB29_ns (by kernel_rfl) (by kernel_rfl) HPN (fun w hw o ho => run_move ho e2_1 w) hH ?_
  refine wpAnyH_as (l' := #[true, true, true, false, false, false, false, false, false, false, false, false, false, false]) (by kernel_rfl) ?_
  obtain ⟨a3, h3⟩ : ∃ a' : Act, a' = a2.put (some 234) (rv) := ⟨_, rfl⟩
  rw [← h3]
  have sz3 : a3.tmps.size = 341 := by rw [h3, size_put]; exact sz2
  have e3_0 : a3.eval (.tmp 0) = .pointer (some ⟨g, 0, none⟩) := by rw [h3, eval_put_ne _ _ _ _ (by decide)]; exact e2_0
  have e3_6 : a3.eval (.tmp 6) = .int .i64 (i : Int) := by rw [h3, eval_put_ne _ _ _ _ (by decide)]; exact e2_6
  have e3_232 : a3.eval (.tmp 232) = .pointer (some ⟨g, 0, none⟩) := by rw [h3, eval_put_ne _ _ _ _ (by decide)]; exact e2_232
  have e3_233 : a3.eval (.tmp 233) = .int .i64 (c : Int) := by rw [h3, eval_put_ne _ _ _ _ (by decide)]; exact e2_233
  have e3_234 : a3.eval (.tmp 234) = rv := by rw [h3]; exact eval_put_eq _ _ _ (by rw [sz2]; decide)
  clear e2_0 e2_1 e2_232 e2_233 e2_6 sz2
  refine takeH (v := .pointer (some ⟨g, 0, none⟩)) opB29_3 opB29_ns (by kernel_rfl) (by kernel_rfl) HPN (fun w hw o ho => run_move ho e3_0 w) hH ?_
  refine wpAnyH_as (l' := #[true, true, true, true, false, false, false, false, false, false, false, false, false, false]) (by kernel_rfl) ?_
  obtain ⟨a4, h4⟩ : ∃ a' : Act, a' = a3.put (some 235) (.pointer (some ⟨g, 0, none⟩)) := ⟨_, rfl⟩
  rw [← h4]
  have sz4 : a4.tmps.size = 341 := by rw [h4, size_put]; exact sz3
  have e4_6 : a4.eval (.tmp 6) = .int .i64 (i : Int) := by rw [h4, eval_put_ne _ _ _ _ (by decide)]; exact e3_6
  have e4_232 : a4.eval (.tmp 232) = .pointer (some ⟨g, 0, none⟩) := by rw [h4, eval_put_ne _ _ _ _ (by decide)]; exact e3_232
  have e4_233 : a4.eval (.tmp 233) = .int .i64 (c : Int) := by rw [h4, eval_put_ne _ _ _ _ (by decide)]; exact e3_233
  have e4_234 : a4.eval (.tmp 234) = rv := by rw [h4, eval_put_ne _ _ _ _ (by decide)]; exact e3_234
  have e4_235 : a4.eval (.tmp 235) = .pointer (some ⟨g, 0, none⟩) := by rw [h4]; exact eval_put_eq _ _ _ (by rw [sz3]; decide)
  clear e3_0 e3_232 e3_233 e3_234 e3_6 sz3
  refine takeH (v := .int .i64 (i : Int)) opB29_4 opB29_ns (by kernel_rfl) (by kernel_rfl) HPN (fun w hw o ho => run_move ho e4_6 w) hH ?_
  refine wpAnyH_as (l' := #[true, true, true, true, true, false, false, false, false, false, false, false, false, false]) (by kernel_rfl) ?_
  obtain ⟨a5, h5⟩ : ∃ a' : Act, a' = a4.put (some 236) (.int .i64 (i : Int)) := ⟨_, rfl⟩
  rw [← h5]
  have sz5 : a5.tmps.size = 341 := by rw [h5, size_put]; exact sz4
  have e5_232 : a5.eval (.tmp 232) = .pointer (some ⟨g, 0, none⟩) := by rw [h5, eval_put_ne _ _ _ _ (by decide)]; exact e4_232
  have e5_233 : a5.eval (.tmp 233) = .int .i64 (c : Int) := by rw [h5, eval_put_ne _ _ _ _ (by decide)]; exact e4_233
  have e5_234 : a5.eval (.tmp 234) = rv := by rw [h5, eval_put_ne _ _ _ _ (by decide)]; exact e4_234
  have e5_235 : a5.eval (.tmp 235) = .pointer (some ⟨g, 0, none⟩) := by rw [h5, eval_put_ne _ _ _ _ (by decide)]; exact e4_235
  have e5_236 : a5.eval (.tmp 236) = .int .i64 (i : Int) := by rw [h5]; exact eval_put_eq _ _ _ (by rw [sz4]; decide)
  clear e4_232 e4_233 e4_234 e4_235 e4_6 sz4
  refine takeH (v := .pointer (some ⟨g, 0, none⟩)) opB29_5 opB29_ns (by kernel_rfl) (by kernel_rfl) HPN (fun w hw o ho => run_nilCheck ho e5_235 w) hH ?_
  refine wpAnyH_as (l' := #[true, true, true, true, true, true, false, false, false, false, false, false, false, false]) (by kernel_rfl) ?_
  obtain ⟨a6, h6⟩ : ∃ a' : Act, a' = a5.put (some 237) (.pointer (some ⟨g, 0, none⟩)) := ⟨_, rfl⟩
  rw [← h6]
  have sz6 : a6.tmps.size = 341 := by rw [h6, size_put]; exact sz5
  have e6_232 : a6.eval (.tmp 232) = .pointer (some ⟨g, 0, none⟩) := by rw [h6, eval_put_ne _ _ _ _ (by decide)]; exact e5_232
  have e6_233 : a6.eval (.tmp 233) = .int .i64 (c : Int) := by rw [h6, eval_put_ne _ _ _ _ (by decide)]; exact e5_233
  have e6_234 : a6.eval (.tmp 234) = rv := by rw [h6, eval_put_ne _ _ _ _ (by decide)]; exact e5_234
  have e6_236 : a6.eval (.tmp 236) = .int .i64 (i : Int) := by rw [h6, eval_put_ne _ _ _ _ (by decide)]; exact e5_236
  have e6_237 : a6.eval (.tmp 237) = .pointer (some ⟨g, 0, none⟩) := by rw [h6]; exact eval_put_eq _ _ _ (by rw [sz5]; decide)
  clear e5_232 e5_233 e5_234 e5_235 e5_236 sz5
  refine takeH (v := .pointer (some ⟨g, 0, none⟩)) opB29_6 opB29_ns (by kernel_rfl) (by kernel_rfl) HPN (fun w hw o ho => run_fieldE ho e6_237 w) hH ?_
  refine wpAnyH_as (l' := #[true, true, true, true, true, true, true, false, false, false, false, false, false, false]) (by kernel_rfl) ?_
  obtain ⟨a7, h7⟩ : ∃ a' : Act, a' = a6.put (some 238) (.pointer (some ⟨g, 0, none⟩)) := ⟨_, rfl⟩
  rw [← h7]
  have sz7 : a7.tmps.size = 341 := by rw [h7, size_put]; exact sz6
  have e7_232 : a7.eval (.tmp 232) = .pointer (some ⟨g, 0, none⟩) := by rw [h7, eval_put_ne _ _ _ _ (by decide)]; exact e6_232
  have e7_233 : a7.eval (.tmp 233) = .int .i64 (c : Int) := by rw [h7, eval_put_ne _ _ _ _ (by decide)]; exact e6_233
  have e7_234 : a7.eval (.tmp 234) = rv := by rw [h7, eval_put_ne _ _ _ _ (by decide)]; exact e6_234
  have e7_236 : a7.eval (.tmp 236) = .int .i64 (i : Int) := by rw [h7, eval_put_ne _ _ _ _ (by decide)]; exact e6_236
  have e7_238 : a7.eval (.tmp 238) = .pointer (some ⟨g, 0, none⟩) := by rw [h7]; exact eval_put_eq _ _ _ (by rw [sz6]; decide)
  clear e6_232 e6_233 e6_234 e6_236 e6_237 sz6
  refine takeH (v := .pointer (some ⟨g, i * 5, none⟩)) opB29_7 opB29_ns (by kernel_rfl) (by kernel_rfl) HPN (fun w hw o ho => run_indexE hi8.out ho e7_238 e7_236 w) hH ?_
  refine wpAnyH_as (l' := #[true, true, true, true, true, true, true, true, false, false, false, false, false, false]) (by kernel_rfl) ?_
  obtain ⟨a8, h8⟩ : ∃ a' : Act, a' = a7.put (some 239) (.pointer (some ⟨g, i * 5, none⟩)) := ⟨_, rfl⟩
  rw [← h8]
  have sz8 : a8.tmps.size = 341 := by rw [h8, size_put]; exact sz7
  have e8_232 : a8.eval (.tmp 232) = .pointer (some ⟨g, 0, none⟩) := by rw [h8, eval_put_ne _ _ _ _ (by decide)]; exact e7_232
  have e8_233 : a8.eval (.tmp 233) = .int .i64 (c : Int) := by rw [h8, eval_put_ne _ _ _ _ (by decide)]; exact e7_233
  have e8_234 : a8.eval (.tmp 234) = rv := by rw [h8, eval_put_ne _ _ _ _ (by decide)]; exact e7_234
  have e8_239 : a8.eval (.tmp 239) = .pointer (some ⟨g, i * 5, none⟩) := by rw [h8]; exact eval_put_eq _ _ _ (by rw [sz7]; decide)
  clear e7_232 e7_233 e7_234 e7_236 e7_238 sz7
  refine takeH (v := .pointer (some ⟨g, 0, none⟩)) opB29_10 opB29_ns (by kernel_rfl) (by kernel_rfl) HPN (fun w hw o ho => run_nilCheck ho e8_232 w) hH ?_
  refine wpAnyH_as (l' := #[true, true, true, true, true, true, true, true, false, false, true, false, false, false]) (by kernel_rfl) ?_
  obtain ⟨a9, h9⟩ : ∃ a' : Act, a' = a8.put (some 242) (.pointer (some ⟨g, 0, none⟩)) := ⟨_, rfl⟩
  rw [← h9]
  have sz9 : a9.tmps.size = 341 := by rw [h9, size_put]; exact sz8
  have e9_233 : a9.eval (.tmp 233) = .int .i64 (c : Int) := by rw [h9, eval_put_ne _ _ _ _ (by decide)]; exact e8_233
  have e9_234 : a9.eval (.tmp 234) = rv := by rw [h9, eval_put_ne _ _ _ _ (by decide)]; exact e8_234
  have e9_239 : a9.eval (.tmp 239) = .pointer (some ⟨g, i * 5, none⟩) := by rw [h9, eval_put_ne _ _ _ _ (by decide)]; exact e8_239
  have e9_242 : a9.eval (.tmp 242) = .pointer (some ⟨g, 0, none⟩) := by rw [h9]; exact eval_put_eq _ _ _ (by rw [sz8]; decide)
  clear e8_232 e8_233 e8_234 e8_239 sz8
  refine takeH (v := .pointer (some ⟨g, 0, none⟩)) opB29_11 opB29_ns (by kernel_rfl) (by kernel_rfl) HPN (fun w hw o ho => run_fieldE ho e9_242 w) hH ?_
  refine wpAnyH_as (l' := #[true, true, true, true, true, true, true, true, false, false, true, true, false, false]) (by kernel_rfl) ?_
  obtain ⟨a10, h10⟩ : ∃ a' : Act, a' = a9.put (some 243) (.pointer (some ⟨g, 0, none⟩)) := ⟨_, rfl⟩
  rw [← h10]
  have sz10 : a10.tmps.size = 341 := by rw [h10, size_put]; exact sz9
  have e10_233 : a10.eval (.tmp 233) = .int .i64 (c : Int) := by rw [h10, eval_put_ne _ _ _ _ (by decide)]; exact e9_233
  have e10_234 : a10.eval (.tmp 234) = rv := by rw [h10, eval_put_ne _ _ _ _ (by decide)]; exact e9_234
  have e10_239 : a10.eval (.tmp 239) = .pointer (some ⟨g, i * 5, none⟩) := by rw [h10, eval_put_ne _ _ _ _ (by decide)]; exact e9_239
  have e10_243 : a10.eval (.tmp 243) = .pointer (some ⟨g, 0, none⟩) := by rw [h10]; exact eval_put_eq _ _ _ (by rw [sz9]; decide)
  clear e9_233 e9_234 e9_239 e9_242 sz9
  refine readyLd1 (v := .agg (VI .u64 (es i))) opB29_8 (by kernel_rfl) hH (fun o ho => run_loadE (hV.bn.lim i hi8.out).len ho e10_239 _ (hV.bn.rangeE hi8.out)) ?_
  refine wpAnyH_as (l' := #[true, true, true, true, true, true, true, true, true, false, true, true, false, false]) (by kernel_rfl) ?_
  obtain ⟨a11, h11⟩ : ∃ a' : Act, a' = a10.put (some 240) (.agg (VI .u64 (es i))) := ⟨_, rfl⟩
  rw [← h11]
  have sz11 : a11.tmps.size = 341 := by rw [h11, size_put]; exact sz10
  have e11_233 : a11.eval (.tmp 233) = .int .i64 (c : Int) := by rw [h11, eval_put_ne _ _ _ _ (by decide)]; exact e10_233
  have e11_234 : a11.eval (.tmp 234) = rv := by rw [h11, eval_put_ne _ _ _ _ (by decide)]; exact e10_234
  have e11_243 : a11.eval (.tmp 243) = .pointer (some ⟨g, 0, none⟩) := by rw [h11, eval_put_ne _ _ _ _ (by decide)]; exact e10_243
  have e11_240 : a11.eval (.tmp 240) = .agg (VI .u64 (es i)) := by rw [h11]; exact eval_put_eq _ _ _ (by rw [sz10]; decide)
  clear e10_233 e10_234 e10_239 e10_243 sz10
  refine readyH opB29_9 (by kernel_rfl) (fun o ho hd => wpCall (v := .agg (VI .u64 z)) ho hd (args := #[rv, .agg (VI .u64 (es i))]) (by simp only [List.map_toArray, List.map_cons, List.map_nil, e11_234, e11_240] <;> rfl) (fun _ => rfl) (hV.calls (fun b he => HC.out _ _ _ _ _ _ he hl.out)) (fun w1 hw1 => ?_))
  have hV1 := hw1
  refine ⟨hV1.row mx, ?_⟩
  have hH := hV1.row mx
  refine wpAnyH_as (l' := #[true, true, true, true, true, true, true, true, true, true, true, true, false, false]) (by kernel_rfl) ?_
  obtain ⟨a12, h12⟩ : ∃ a' : Act, a' = a11.put (some 241) (.agg (VI .u64 z)) := ⟨_, rfl⟩
  rw [← h12]
  have sz12 : a12.tmps.size = 341 := by rw [h12, size_put]; exact sz11
  have e12_233 : a12.eval (.tmp 233) = .int .i64 (c : Int) := by rw [h12, eval_put_ne _ _ _ _ (by decide)]; exact e11_233
  have e12_243 : a12.eval (.tmp 243) = .pointer (some ⟨g, 0, none⟩) := by rw [h12, eval_put_ne _ _ _ _ (by decide)]; exact e11_243
  have e12_241 : a12.eval (.tmp 241) = .agg (VI .u64 z) := by rw [h12]; exact eval_put_eq _ _ _ (by rw [sz11]; decide)
  clear e11_233 e11_234 e11_240 e11_243 sz11
  refine takeH (v := .pointer (some ⟨g, c * 5, none⟩)) opB29_12 opB29_ns (by kernel_rfl) (by kernel_rfl) HPN (fun w hw o ho => run_indexE hc8.out ho e12_243 e12_233 w) hH ?_
  refine wpAnyH_as (l' := #[true, true, true, true, true, true, true, true, true, true, true, true, true, false]) (by kernel_rfl) ?_
  obtain ⟨a13, h13⟩ : ∃ a' : Act, a' = a12.put (some 244) (.pointer (some ⟨g, c * 5, none⟩)) := ⟨_, rfl⟩
  rw [← h13]
  have sz13 : a13.tmps.size = 341 := by rw [h13, size_put]; exact sz12
  have e13_241 : a13.eval (.tmp 241) = .agg (VI .u64 z) := by rw [h13, eval_put_ne _ _ _ _ (by decide)]; exact e12_241
  have e13_244 : a13.eval (.tmp 244) = .pointer (some ⟨g, c * 5, none⟩) := by rw [h13]; exact eval_put_eq _ _ _ (by rw [sz12]; decide)
  clear e12_233 e12_241 e12_243 sz12
  refine readyH opB29_13 (by kernel_rfl) (fun o ho hd => wp_store_mid _ _ _ ho g (c * 5) (VI .u64 z) e13_244 e13_241 (by rw [VI_size, lz.out.len]; exact hV1.bn.thereE hc8.out) (by rw [VI_size, lz.out.len]; kernel_rfl) (VI_one _ _) ?_)
  have hE := hV1.setE hc8.out lz.out
  rw [hd]
  refine ⟨hE.row mx, ?_⟩
  refine wpAnyH_as (l' := #[true, true, true, true, true, true, true, true, true, true, true, true, true, true]) (by kernel_rfl) ?_
  refine wpAnyH_done (by kernel_rfl) ?_ _
  have hF : a13 = ⟨#[.pointer (some ⟨g, 0, none⟩), rv, c2, c3, c4, .pointer (some ⟨gx, 0, none⟩), .int .i64 (i : Int), .int .i64 (k : Int), .int .i64 (c : Int), c9, c10, c11, c12, c13, c14, c15, c16, c17, c18, c19, c20, c21, c22, c23, c24, c25, c26, c27, c28, c29, c30, c31, c32, c33, c34, c35, c36, c37, c38, c39, c40, c41, c42, c43, c44, c45, c46, c47, c48, c49, c50, c51, c52, c53, c54, c55, c56, c57, c58, c59, c60, c61, c62, c63, c64, c65, c66, c67, c68, c69, c70, c71, c72, c73, c74, c75, c76, c77, c78, c79, c80, c81, c82, c83, c84, c85, c86, c87, c88, c89, c90, c91, c92, c93, c94, c95, c96, c97, c98, c99, c100, c101, c102, c103, c104, c105, c106, c107, c108, c109, c110, c111, c112, c113, c114, c115, c116, c117, c118, c119, c120, c121, c122, c123, c124, c125, c126, c127, c128, c129, c130, c131, c132, c133, c134, c135, c136, c137, c138, c139, c140, c141, c142, c143, c144, c145, c146, c147, c148, c149, c150, c151, c152, c153, c154, c155, c156, c157, c158, c159, c160, c161, c162, c163, c164, c165, c166, c167, c168, c169, c170, c171, c172, c173, c174, c175, c176, c177, c178, c179, c180, c181, c182, c183, c184, c185, c186, c187, c188, c189, c190, c191, c192, c193, c194, c195, c196, c197, c198, c199, c200, c201, c202, c203, c204, c205, c206, c207, c208, c209, c210, c211, c212, c213, c214, c215, c216, c217, c218, c219, c220, c221, c222, c223, c224, c225, c226, c227, c228, c229, c230, c231, .pointer (some ⟨g, 0, none⟩), .int .i64 (c : Int), rv, .pointer (some ⟨g, 0, none⟩), .int .i64 (i : Int), .pointer (some ⟨g, 0, none⟩), .pointer (some ⟨g, 0, none⟩), .pointer (some ⟨g, i * 5, none⟩), .agg (VI .u64 (es i)), .agg (VI .u64 z), .pointer (some ⟨g, 0, none⟩), .pointer (some ⟨g, 0, none⟩), .pointer (some ⟨g, c * 5, none⟩), c245, c246, c247, c248, c249, c250, c251, c252, c253, c254, c255, c256, c257, c258, c259, c260, c261, c262, c263, c264, c265, c266, c267, c268, c269, c270, c271, c272, c273, c274, c275, c276, c277, c278, c279, c280, c281, c282, c283, c284, c285, c286, c287, c288, c289, c290, c291, c292, c293, c294, c295, c296, c297, c298, c299, c300, c301, c302, c303, c304, c305, c306, c307, c308, c309, c310, c311, c312, c313, c314, c315, c316, c317, c318, c319, c320, c321, c322, c323, c324, c325, c326, c327, c328, c329, c330, c331, c332, c333, c334, c335, c336, c337, c338, c339, c340], []⟩ := by rw [h13, h12, h11, h10, h9, h8, h7, h6, h5, h4, h3, h2, h1, ha]; kernel_rfl
  show Q .normal (a13.put none undef) _
  rw [show a13.put none undef = a13 from rfl, hF]
  exact H _ hE
noncomputable def rgB30 : Code := ((Try.f17.body.bind (findReg 30)).getD .skip)
noncomputable def opB30 : Array Oper := opsOf rgB30
theorem rgB30_is : rgB30 = .region 30 opB30 true := by kernel_rfl
theorem opB30_ns : Region.noSelect opB30 = true := by kernel_rfl
theorem opB30_0 : opIs opB30 0 (.move (.tmp 0)) (some 245) := by unfold opIs; kernel_rfl
theorem opB30_1 : opIs opB30 1 (.move (.tmp 8)) (some 246) := by unfold opIs; kernel_rfl
theorem opB30_2 : opIs opB30 2 (.move (.tmp 0)) (some 247) := by unfold opIs; kernel_rfl
theorem opB30_3 : opIs opB30 3 (.move (.tmp 6)) (some 248) := by unfold opIs; kernel_rfl
theorem opB30_4 : opIs opB30 4 (.nilCheck (.tmp 247)) (some 249) := by unfold opIs; kernel_rfl
theorem opB30_5 : opIs opB30 5 (.fieldAddr 53 (.tmp 249) 1) (some 250) := by unfold opIs; kernel_rfl
theorem opB30_6 : opIs opB30 6 (.indexAddr 51 (.tmp 250) (.tmp 248)) (some 251) := by unfold opIs; kernel_rfl
theorem opB30_7 : opIs opB30 7 (.load 50 (.tmp 251)) (some 252) := by unfold opIs; kernel_rfl
theorem opB30_8 : opIs opB30 8 (.call { callee := .value (.func 45), args := #[.tmp 252], argTypes := #[50] }) (some 253) := by unfold opIs; kernel_rfl
theorem opB30_9 : opIs opB30 9 (.nilCheck (.tmp 245)) (some 254) := by unfold opIs; kernel_rfl
theorem opB30_10 : opIs opB30 10 (.fieldAddr 53 (.tmp 254) 1) (some 255) := by unfold opIs; kernel_rfl
theorem opB30_11 : opIs opB30 11 (.indexAddr 51 (.tmp 255) (.tmp 246)) (some 256) := by unfold opIs; kernel_rfl
theorem opB30_12 : opIs opB30 12 (.store 50 (.tmp 256) (.tmp 253)) (none) := by unfold opIs; kernel_rfl
set_option maxRecDepth 100000 in
set_option maxHeartbeats 4000000 in
theorem bk_r30 {Q : Exit → Act → World → Prop} {B : Nat} {w W : World} {rv vs : Value} {lr ll : List (Int × Int)} {g gx : Nat} {es : Nat → List Int} {ns : Nat → Nat} {bx : List (Nat × Obj)} {i k c : Nat} {D : List Int} {K0 A0 B0 C0 N T : Int} {m : Nat} {c2 c3 c4 c9 c10 c11 c12 c13 c14 c15 c16 c17 c18 c19 c20 c21 c22 c23 c24 c25 c26 c27 c28 c29 c30 c31 c32 c33 c34 c35 c36 c37 c38 c39 c40 c41 c42 c43 c44 c45 c46 c47 c48 c49 c50 c51 c52 c53 c54 c55 c56 c57 c58 c59 c60 c61 c62 c63 c64 c65 c66 c67 c68 c69 c70 c71 c72 c73 c74 c75 c76 c77 c78 c79 c80 c81 c82 c83 c84 c85 c86 c87 c88 c89 c90 c91 c92 c93 c94 c95 c96 c97 c98 c99 c100 c101 c102 c103 c104 c105 c106 c107 c108 c109 c110 c111 c112 c113 c114 c115 c116 c117 c118 c119 c120 c121 c122 c123 c124 c125 c126 c127 c128 c129 c130 c131 c132 c133 c134 c135 c136 c137 c138 c139 c140 c141 c142 c143 c144 c145 c146 c147 c148 c149 c150 c151 c152 c153 c154 c155 c156 c157 c158 c159 c160 c161 c162 c163 c164 c165 c166 c167 c168 c169 c170 c171 c172 c173 c174 c175 c176 c177 c178 c179 c180 c181 c182 c183 c184 c185 c186 c187 c188 c189 c190 c191 c192 c193 c194 c195 c196 c197 c198 c199 c200 c201 c202 c203 c204 c205 c206 c207 c208 c209 c210 c211 c212 c213 c214 c215 c216 c217 c218 c219 c220 c221 c222 c223 c224 c225 c226 c227 c228 c229 c230 c231 c232 c233 c234 c235 c236 c237 c238 c239 c240 c241 c242 c243 c244 c245 c246 c247 c248 c249 c250 c251 c252 c253 c254 c255 c256 c257 c258 c259 c260 c261 c262 c263 c264 c265 c266 c267 c268 c269 c270 c271 c272 c273 c274 c275 c276 c277 c278 c279 c280 c281 c282 c283 c284 c285 c286 c287 c288 c289 c290 c291 c292 c293 c294 c295 c296 c297 c298 c299 c300 c301 c302 c303 c304 c305 c306 c307 c308 c309 c310 c311 c312 c313 c314 c315 c316 c317 c318 c319 c320 c321 c322 c323 c324 c325 c326 c327 c328 c329 c330 c331 c332 c333 c334 c335 c336 c337 c338 c339 c340 : Value}
    (hi8 : Hid (i < 8)) (hk8 : Hid (k < 8)) (hc8 : Hid (c < 8)) (LD : Hid (D.length = 32))
    (HC : Hid (∀ w, Calls Try.prog 45 #[.agg (VI .i64 (dg (ns i)))] w fun e w' => e = .returned (.agg (VI .i64 (dg m))) ∧ Below w.heap.size w w')) (hm : Hid (m < P)) 
    (mx : (gx, stO K0 A0 B0 C0 D N T) ∈ bx)
    (XX : SB B w rv lr g es ns vs ll bx W)
    (HPN : ∀ c (a : Act) d v w, Q (.panic c) (a.put d v) w → Q (.panic c) a w)
    (H : ∀ W', SB B w rv lr g es (upd ns c m) vs ll bx W' → Q .normal ⟨#[.pointer (some ⟨g, 0, none⟩), rv, c2, c3, c4, .pointer (some ⟨gx, 0, none⟩), .int .i64 (i : Int), .int .i64 (k : Int), .int .i64 (c : Int), c9, c10, c11, c12, c13, c14, c15, c16, c17, c18, c19, c20, c21, c22, c23, c24, c25, c26, c27, c28, c29, c30, c31, c32, c33, c34, c35, c36, c37, c38, c39, c40, c41, c42, c43, c44, c45, c46, c47, c48, c49, c50, c51, c52, c53, c54, c55, c56, c57, c58, c59, c60, c61, c62, c63, c64, c65, c66, c67, c68, c69, c70, c71, c72, c73, c74, c75, c76, c77, c78, c79, c80, c81, c82, c83, c84, c85, c86, c87, c88, c89, c90, c91, c92, c93, c94, c95, c96, c97, c98, c99, c100, c101, c102, c103, c104, c105, c106, c107, c108, c109, c110, c111, c112, c113, c114, c115, c116, c117, c118, c119, c120, c121, c122, c123, c124, c125, c126, c127, c128, c129, c130, c131, c132, c133, c134, c135, c136, c137, c138, c139, c140, c141, c142, c143, c144, c145, c146, c147, c148, c149, c150, c151, c152, c153, c154, c155, c156, c157, c158, c159, c160, c161, c162, c163, c164, c165, c166, c167, c168, c169, c170, c171, c172, c173, c174, c175, c176, c177, c178, c179, c180, c181, c182, c183, c184, c185, c186, c187, c188, c189, c190, c191, c192, c193, c194, c195, c196, c197, c198, c199, c200, c201, c202, c203, c204, c205, c206, c207, c208, c209, c210, c211, c212, c213, c214, c215, c216, c217, c218, c219, c220, c221, c222, c223, c224, c225, c226, c227, c228, c229, c230, c231, c232, c233, c234, c235, c236, c237, c238, c239, c240, c241, c242, c243, c244, .pointer (some ⟨g, 0, none⟩), .int .i64 (c : Int), .pointer (some ⟨g, 0, none⟩), .int .i64 (i : Int), .pointer (some ⟨g, 0, none⟩), .pointer (some ⟨g, 40, none⟩), .pointer (some ⟨g, 40 + i * 16, none⟩), .agg (VI .i64 (dg (ns i))), .agg (VI .i64 (dg m)), .pointer (some ⟨g, 0, none⟩), .pointer (some ⟨g, 40, none⟩), .pointer (some ⟨g, 40 + c * 16, none⟩), c257, c258, c259, c260, c261, c262, c263, c264, c265, c266, c267, c268, c269, c270, c271, c272, c273, c274, c275, c276, c277, c278, c279, c280, c281, c282, c283, c284, c285, c286, c287, c288, c289, c290, c291, c292, c293, c294, c295, c296, c297, c298, c299, c300, c301, c302, c303, c304, c305, c306, c307, c308, c309, c310, c311, c312, c313, c314, c315, c316, c317, c318, c319, c320, c321, c322, c323, c324, c325, c326, c327, c328, c329, c330, c331, c332, c333, c334, c335, c336, c337, c338, c339, c340], []⟩ W') :
    Code.wp Try.prog rgB30 Q ⟨#[.pointer (some ⟨g, 0, none⟩), rv, c2, c3, c4, .pointer (some ⟨gx, 0, none⟩), .int .i64 (i : Int), .int .i64 (k : Int), .int .i64 (c : Int), c9, c10, c11, c12, c13, c14, c15, c16, c17, c18, c19, c20, c21, c22, c23, c24, c25, c26, c27, c28, c29, c30, c31, c32, c33, c34, c35, c36, c37, c38, c39, c40, c41, c42, c43, c44, c45, c46, c47, c48, c49, c50, c51, c52, c53, c54, c55, c56, c57, c58, c59, c60, c61, c62, c63, c64, c65, c66, c67, c68, c69, c70, c71, c72, c73, c74, c75, c76, c77, c78, c79, c80, c81, c82, c83, c84, c85, c86, c87, c88, c89, c90, c91, c92, c93, c94, c95, c96, c97, c98, c99, c100, c101, c102, c103, c104, c105, c106, c107, c108, c109, c110, c111, c112, c113, c114, c115, c116, c117, c118, c119, c120, c121, c122, c123, c124, c125, c126, c127, c128, c129, c130, c131, c132, c133, c134, c135, c136, c137, c138, c139, c140, c141, c142, c143, c144, c145, c146, c147, c148, c149, c150, c151, c152, c153, c154, c155, c156, c157, c158, c159, c160, c161, c162, c163, c164, c165, c166, c167, c168, c169, c170, c171, c172, c173, c174, c175, c176, c177, c178, c179, c180, c181, c182, c183, c184, c185, c186, c187, c188, c189, c190, c191, c192, c193, c194, c195, c196, c197, c198, c199, c200, c201, c202, c203, c204, c205, c206, c207, c208, c209, c210, c211, c212, c213, c214, c215, c216, c217, c218, c219, c220, c221, c222, c223, c224, c225, c226, c227, c228, c229, c230, c231, c232, c233, c234, c235, c236, c237, c238, c239, c240, c241, c242, c243, c244, c245, c246, c247, c248, c249, c250, c251, c252, c253, c254, c255, c256, c257, c258, c259, c260, c261, c262, c263, c264, c265, c266, c267, c268, c269, c270, c271, c272, c273, c274, c275, c276, c277, c278, c279, c280, c281, c282, c283, c284, c285, c286, c287, c288, c289, c290, c291, c292, c293, c294, c295, c296, c297, c298, c299, c300, c301, c302, c303, c304, c305, c306, c307, c308, c309, c310, c311, c312, c313, c314, c315, c316, c317, c318, c319, c320, c321, c322, c323, c324, c325, c326, c327, c328, c329, c330, c331, c332, c333, c334, c335, c336, c337, c338, c339, c340], []⟩ W := by
  rw [rgB30_is]
  refine wp_region_held_drew (S := fun Y => Y.heap[gx]? = some (stO K0 A0 B0 C0 D N T)) (by kernel_rfl) (XX.drew.row mx) (fun hH => ?_)
  have hV := XX.drew
  clear XX
  obtain ⟨V0, hV0⟩ : ∃ V, W.drew = V := ⟨_, rfl⟩
  rw [hV0] at hH hV ⊢
  clear hV0
  obtain ⟨a0, ha⟩ : ∃ a : Act, a = ⟨#[.pointer (some ⟨g, 0, none⟩), rv, c2, c3, c4, .pointer (some ⟨gx, 0, none⟩), .int .i64 (i : Int), .int .i64 (k : Int), .int .i64 (c : Int), c9, c10, c11, c12, c13, c14, c15, c16, c17, c18, c19, c20, c21, c22, c23, c24, c25, c26, c27, c28, c29, c30, c31, c32, c33, c34, c35, c36, c37, c38, c39, c40, c41, c42, c43, c44, c45, c46, c47, c48, c49, c50, c51, c52, c53, c54, c55, c56, c57, c58, c59, c60, c61, c62, c63, c64, c65, c66, c67, c68, c69, c70, c71, c72, c73, c74, c75, c76, c77, c78, c79, c80, c81, c82, c83, c84, c85, c86, c87, c88, c89, c90, c91, c92, c93, c94, c95, c96, c97, c98, c99, c100, c101, c102, c103, c104, c105, c106, c107, c108, c109, c110, c111, c112, c113, c114, c115, c116, c117, c118, c119, c120, c121, c122, c123, c124, c125, c126, c127, c128, c129, c130, c131, c132, c133, c134, c135, c136, c137, c138, c139, c140, c141, c142, c143, c144, c145, c146, c147, c148, c149, c150, c151, c152, c153, c154, c155, c156, c157, c158, c159, c160, c161, c162, c163, c164, c165, c166, c167, c168, c169, c170, c171, c172, c173, c174, c175, c176, c177, c178, c179, c180, c181, c182, c183, c184, c185, c186, c187, c188, c189, c190, c191, c192, c193, c194, c195, c196, c197, c198, c199, c200, c201, c202, c203, c204, c205, c206, c207, c208, c209, c210, c211, c212, c213, c214, c215, c216, c217, c218, c219, c220, c221, c222, c223, c224, c225, c226, c227, c228, c229, c230, c231, c232, c233, c234, c235, c236, c237, c238, c239, c240, c241, c242, c243, c244, c245, c246, c247, c248, c249, c250, c251, c252, c253, c254, c255, c256, c257, c258, c259, c260, c261, c262, c263, c264, c265, c266, c267, c268, c269, c270, c271, c272, c273, c274, c275, c276, c277, c278, c279, c280, c281, c282, c283, c284, c285, c286, c287, c288, c289, c290, c291, c292, c293, c294, c295, c296, c297, c298, c299, c300, c301, c302, c303, c304, c305, c306, c307, c308, c309, c310, c311, c312, c313, c314, c315, c316, c317, c318, c319, c320, c321, c322, c323, c324, c325, c326, c327, c328, c329, c330, c331, c332, c333, c334, c335, c336, c337, c338, c339, c340], []⟩ := ⟨_, rfl⟩
  have sz0 : a0.tmps.size = 341 := by rw [ha]; kernel_rfl
  have e0_0 : a0.eval (.tmp 0) = .pointer (some ⟨g, 0, none⟩) := by rw [ha]; kernel_rfl
  have e0_6 : a0.eval (.tmp 6) = .int .i64 (i : Int) := by rw [ha]; kernel_rfl
  have e0_8 : a0.eval (.tmp 8) = .int .i64 (c : Int) := by rw [ha]; kernel_rfl
  rw [← ha]
  refine wpAnyH_as (l' := #[false, false, false, false, false, false, false, false, false, false, false, false, false]) (by kernel_rfl) ?_
  refine takeH (v := .pointer (some ⟨g, 0, none⟩)) opB30_0 opB30_ns (by kernel_rfl) (by kernel_rfl) HPN (fun w hw o ho => run_move ho e0_0 w) hH ?_
  refine wpAnyH_as (l' := #[true, false, false, false, false, false, false, false, false, false, false, false, false]) (by kernel_rfl) ?_
  obtain ⟨a1, h1⟩ : ∃ a' : Act, a' = a0.put (some 245) (.pointer (some ⟨g, 0, none⟩)) := ⟨_, rfl⟩
  rw [← h1]
  have sz1 : a1.tmps.size = 341 := by rw [h1, size_put]; exact sz0
  have e1_0 : a1.eval (.tmp 0) = .pointer (some ⟨g, 0, none⟩) := by rw [h1, eval_put_ne _ _ _ _ (by decide)]; exact e0_0
  have e1_6 : a1.eval (.tmp 6) = .int .i64 (i : Int) := by rw [h1, eval_put_ne _ _ _ _ (by decide)]; exact e0_6
  have e1_8 : a1.eval (.tmp 8) = .int .i64 (c : Int) := by rw [h1, eval_put_ne _ _ _ _ (by decide)]; exact e0_8
  have e1_245 : a1.eval (.tmp 245) = .pointer (some ⟨g, 0, none⟩) := by rw [h1]; exact eval_put_eq _ _ _ (by rw [sz0]; decide)
  clear e0_0 e0_6 e0_8 sz0
  refine takeH (v := .int .i64 (c : Int)) opB30_1 opB30_ns (by kernel_rfl) (by kernel_rfl) HPN (fun w hw o ho => run_move ho e1_8 w) hH ?_
  refine wpAnyH_as (l' := #[true, true, false, false, false, false, false, false, false, false, false, false, false]) (by kernel_rfl) ?_
  obtain ⟨a2, h2⟩ : ∃ a' : Act, a' = a1.put (some 246) (.int .i64 (c : Int)) := ⟨_, rfl⟩
  rw [← h2]
  have sz2 : a2.tmps.size = 341 := by rw [h2, size_put]; exact sz1
  have e2_0 : a2.eval (.tmp 0) = .pointer (some ⟨g, 0, none⟩) := by rw [h2, eval_put_ne _ _ _ _ (by decide)]; exact e1_0
  have e2_6 : a2.eval (.tmp 6) = .int .i64 (i : Int) := by rw [h2, eval_put_ne _ _ _ _ (by decide)]; exact e1_6
  have e2_245 : a2.eval (.tmp 245) = .pointer (some ⟨g, 0, none⟩) := by rw [h2, eval_put_ne _ _ _ _ (by decide)]; exact e1_245
  have e2_246 : a2.eval (.tmp 246) = .int .i64 (c : Int) := by rw [h2]; exact eval_put_eq _ _ _ (by rw [sz1]; decide)
  clear e1_0 e1_245 e1_6 e1_8 sz1
  refine takeH (v := .pointer (some ⟨g, 0, none⟩)) opB30_2 opB30_ns (by kernel_rfl) (by kernel_rfl) HPN (fun w hw o ho => run_move ho e2_0 w) hH ?_
  refine wpAnyH_as (l' := #[true, true, true, false, false, false, false, false, false, false, false, false, false]) (by kernel_rfl) ?_
  obtain ⟨a3, h3⟩ : ∃ a' : Act, a' = a2.put (some 247) (.pointer (some ⟨g, 0, none⟩)) := ⟨_, rfl⟩
  rw [← h3]
  have sz3 : a3.tmps.size = 341 := by rw [h3, size_put]; exact sz2
  have e3_6 : a3.eval (.tmp 6) = .int .i64 (i : Int) := by rw [h3, eval_put_ne _ _ _ _ (by decide)]; exact e2_6
  have e3_245 : a3.eval (.tmp 245) = .pointer (some ⟨g, 0, none⟩) := by rw [h3, eval_put_ne _ _ _ _ (by decide)]; exact e2_245
  have e3_246 : a3.eval (.tmp 246) = .int .i64 (c : Int) := by rw [h3, eval_put_ne _ _ _ _ (by decide)]; exact e2_246
  have e3_247 : a3.eval (.tmp 247) = .pointer (some ⟨g, 0, none⟩) := by rw [h3]; exact eval_put_eq _ _ _ (by rw [sz2]; decide)
  clear e2_0 e2_245 e2_246 e2_6 sz2
  refine takeH (v := .int .i64 (i : Int)) opB30_3 opB30_ns (by kernel_rfl) (by kernel_rfl) HPN (fun w hw o ho => run_move ho e3_6 w) hH ?_
  refine wpAnyH_as (l' := #[true, true, true, true, false, false, false, false, false, false, false, false, false]) (by kernel_rfl) ?_
  obtain ⟨a4, h4⟩ : ∃ a' : Act, a' = a3.put (some 248) (.int .i64 (i : Int)) := ⟨_, rfl⟩
  rw [← h4]
  have sz4 : a4.tmps.size = 341 := by rw [h4, size_put]; exact sz3
  have e4_245 : a4.eval (.tmp 245) = .pointer (some ⟨g, 0, none⟩) := by rw [h4, eval_put_ne _ _ _ _ (by decide)]; exact e3_245
  have e4_246 : a4.eval (.tmp 246) = .int .i64 (c : Int) := by rw [h4, eval_put_ne _ _ _ _ (by decide)]; exact e3_246
  have e4_247 : a4.eval (.tmp 247) = .pointer (some ⟨g, 0, none⟩) := by rw [h4, eval_put_ne _ _ _ _ (by decide)]; exact e3_247
  have e4_248 : a4.eval (.tmp 248) = .int .i64 (i : Int) := by rw [h4]; exact eval_put_eq _ _ _ (by rw [sz3]; decide)
  clear e3_245 e3_246 e3_247 e3_6 sz3
  refine takeH (v := .pointer (some ⟨g, 0, none⟩)) opB30_4 opB30_ns (by kernel_rfl) (by kernel_rfl) HPN (fun w hw o ho => run_nilCheck ho e4_247 w) hH ?_
  refine wpAnyH_as (l' := #[true, true, true, true, true, false, false, false, false, false, false, false, false]) (by kernel_rfl) ?_
  obtain ⟨a5, h5⟩ : ∃ a' : Act, a' = a4.put (some 249) (.pointer (some ⟨g, 0, none⟩)) := ⟨_, rfl⟩
  rw [← h5]
  have sz5 : a5.tmps.size = 341 := by rw [h5, size_put]; exact sz4
  have e5_245 : a5.eval (.tmp 245) = .pointer (some ⟨g, 0, none⟩) := by rw [h5, eval_put_ne _ _ _ _ (by decide)]; exact e4_245
  have e5_246 : a5.eval (.tmp 246) = .int .i64 (c : Int) := by rw [h5, eval_put_ne _ _ _ _ (by decide)]; exact e4_246
  have e5_248 : a5.eval (.tmp 248) = .int .i64 (i : Int) := by rw [h5, eval_put_ne _ _ _ _ (by decide)]; exact e4_248
  have e5_249 : a5.eval (.tmp 249) = .pointer (some ⟨g, 0, none⟩) := by rw [h5]; exact eval_put_eq _ _ _ (by rw [sz4]; decide)
  clear e4_245 e4_246 e4_247 e4_248 sz4
  refine takeH (v := .pointer (some ⟨g, 40, none⟩)) opB30_5 opB30_ns (by kernel_rfl) (by kernel_rfl) HPN (fun w hw o ho => run_fieldN ho e5_249 w) hH ?_
  refine wpAnyH_as (l' := #[true, true, true, true, true, true, false, false, false, false, false, false, false]) (by kernel_rfl) ?_
  obtain ⟨a6, h6⟩ : ∃ a' : Act, a' = a5.put (some 250) (.pointer (some ⟨g, 40, none⟩)) := ⟨_, rfl⟩
  rw [← h6]
  have sz6 : a6.tmps.size = 341 := by rw [h6, size_put]; exact sz5
  have e6_245 : a6.eval (.tmp 245) = .pointer (some ⟨g, 0, none⟩) := by rw [h6, eval_put_ne _ _ _ _ (by decide)]; exact e5_245
  have e6_246 : a6.eval (.tmp 246) = .int .i64 (c : Int) := by rw [h6, eval_put_ne _ _ _ _ (by decide)]; exact e5_246
  have e6_248 : a6.eval (.tmp 248) = .int .i64 (i : Int) := by rw [h6, eval_put_ne _ _ _ _ (by decide)]; exact e5_248
  have e6_250 : a6.eval (.tmp 250) = .pointer (some ⟨g, 40, none⟩) := by rw [h6]; exact eval_put_eq _ _ _ (by rw [sz5]; decide)
  clear e5_245 e5_246 e5_248 e5_249 sz5
  refine takeH (v := .pointer (some ⟨g, 40 + i * 16, none⟩)) opB30_6 opB30_ns (by kernel_rfl) (by kernel_rfl) HPN (fun w hw o ho => run_indexN hi8.out ho e6_250 e6_248 w) hH ?_
  refine wpAnyH_as (l' := #[true, true, true, true, true, true, true, false, false, false, false, false, false]) (by kernel_rfl) ?_
  obtain ⟨a7, h7⟩ : ∃ a' : Act, a' = a6.put (some 251) (.pointer (some ⟨g, 40 + i * 16, none⟩)) := ⟨_, rfl⟩
  rw [← h7]
  have sz7 : a7.tmps.size = 341 := by rw [h7, size_put]; exact sz6
  have e7_245 : a7.eval (.tmp 245) = .pointer (some ⟨g, 0, none⟩) := by rw [h7, eval_put_ne _ _ _ _ (by decide)]; exact e6_245
  have e7_246 : a7.eval (.tmp 246) = .int .i64 (c : Int) := by rw [h7, eval_put_ne _ _ _ _ (by decide)]; exact e6_246
  have e7_251 : a7.eval (.tmp 251) = .pointer (some ⟨g, 40 + i * 16, none⟩) := by rw [h7]; exact eval_put_eq _ _ _ (by rw [sz6]; decide)
  clear e6_245 e6_246 e6_248 e6_250 sz6
  refine takeH (v := .pointer (some ⟨g, 0, none⟩)) opB30_9 opB30_ns (by kernel_rfl) (by kernel_rfl) HPN (fun w hw o ho => run_nilCheck ho e7_245 w) hH ?_
  refine wpAnyH_as (l' := #[true, true, true, true, true, true, true, false, false, true, false, false, false]) (by kernel_rfl) ?_
  obtain ⟨a8, h8⟩ : ∃ a' : Act, a' = a7.put (some 254) (.pointer (some ⟨g, 0, none⟩)) := ⟨_, rfl⟩
  rw [← h8]
  have sz8 : a8.tmps.size = 341 := by rw [h8, size_put]; exact sz7
  have e8_246 : a8.eval (.tmp 246) = .int .i64 (c : Int) := by rw [h8, eval_put_ne _ _ _ _ (by decide)]; exact e7_246
  have e8_251 : a8.eval (.tmp 251) = .pointer (some ⟨g, 40 + i * 16, none⟩) := by rw [h8, eval_put_ne _ _ _ _ (by decide)]; exact e7_251
  have e8_254 : a8.eval (.tmp 254) = .pointer (some ⟨g, 0, none⟩) := by rw [h8]; exact eval_put_eq _ _ _ (by rw [sz7]; decide)
  clear e7_245 e7_246 e7_251 sz7
  refine takeH (v := .pointer (some ⟨g, 40, none⟩)) opB30_10 opB30_ns (by kernel_rfl) (by kernel_rfl) HPN (fun w hw o ho => run_fieldN ho e8_254 w) hH ?_
  refine wpAnyH_as (l' := #[true, true, true, true, true, true, true, false, false, true, true, false, false]) (by kernel_rfl) ?_
  obtain ⟨a9, h9⟩ : ∃ a' : Act, a' = a8.put (some 255) (.pointer (some ⟨g, 40, none⟩)) := ⟨_, rfl⟩
  rw [← h9]
  have sz9 : a9.tmps.size = 341 := by rw [h9, size_put]; exact sz8
  have e9_246 : a9.eval (.tmp 246) = .int .i64 (c : Int) := by rw [h9, eval_put_ne _ _ _ _ (by decide)]; exact e8_246
  have e9_251 : a9.eval (.tmp 251) = .pointer (some ⟨g, 40 + i * 16, none⟩) := by rw [h9, eval_put_ne _ _ _ _ (by decide)]; exact e8_251
  have e9_255 : a9.eval (.tmp 255) = .pointer (some ⟨g, 40, none⟩) := by rw [h9]; exact eval_put_eq _ _ _ (by rw [sz8]; decide)
  clear e8_246 e8_251 e8_254 sz8
  refine readyLd1 (v := .agg (VI .i64 (dg (ns i)))) opB30_7 (by kernel_rfl) hH (fun o ho => run_loadN (dg_len _) ho e9_251 _ (hV.bn.rangeN hi8.out)) ?_
  refine wpAnyH_as (l' := #[true, true, true, true, true, true, true, true, false, true, true, false, false]) (by kernel_rfl) ?_
  obtain ⟨a10, h10⟩ : ∃ a' : Act, a' = a9.put (some 252) (.agg (VI .i64 (dg (ns i)))) := ⟨_, rfl⟩
  rw [← h10]
  have sz10 : a10.tmps.size = 341 := by rw [h10, size_put]; exact sz9
  have e10_246 : a10.eval (.tmp 246) = .int .i64 (c : Int) := by rw [h10, eval_put_ne _ _ _ _ (by decide)]; exact e9_246
  have e10_255 : a10.eval (.tmp 255) = .pointer (some ⟨g, 40, none⟩) := by rw [h10, eval_put_ne _ _ _ _ (by decide)]; exact e9_255
  have e10_252 : a10.eval (.tmp 252) = .agg (VI .i64 (dg (ns i))) := by rw [h10]; exact eval_put_eq _ _ _ (by rw [sz9]; decide)
  clear e9_246 e9_251 e9_255 sz9
  refine readyH opB30_8 (by kernel_rfl) (fun o ho hd => wpCall (v := .agg (VI .i64 (dg m))) ho hd (args := #[.agg (VI .i64 (dg (ns i)))]) (by simp only [List.map_toArray, List.map_cons, List.map_nil, e10_252] <;> rfl) (fun _ => rfl) (HC.out _) (fun w1 hw1 => ?_))
  have hV1 := hV.below hw1
  refine ⟨hV1.row mx, ?_⟩
  have hH := hV1.row mx
  refine wpAnyH_as (l' := #[true, true, true, true, true, true, true, true, true, true, true, false, false]) (by kernel_rfl) ?_
  obtain ⟨a11, h11⟩ : ∃ a' : Act, a' = a10.put (some 253) (.agg (VI .i64 (dg m))) := ⟨_, rfl⟩
  rw [← h11]
  have sz11 : a11.tmps.size = 341 := by rw [h11, size_put]; exact sz10
  have e11_246 : a11.eval (.tmp 246) = .int .i64 (c : Int) := by rw [h11, eval_put_ne _ _ _ _ (by decide)]; exact e10_246
  have e11_255 : a11.eval (.tmp 255) = .pointer (some ⟨g, 40, none⟩) := by rw [h11, eval_put_ne _ _ _ _ (by decide)]; exact e10_255
  have e11_253 : a11.eval (.tmp 253) = .agg (VI .i64 (dg m)) := by rw [h11]; exact eval_put_eq _ _ _ (by rw [sz10]; decide)
  clear e10_246 e10_252 e10_255 sz10
  refine takeH (v := .pointer (some ⟨g, 40 + c * 16, none⟩)) opB30_11 opB30_ns (by kernel_rfl) (by kernel_rfl) HPN (fun w hw o ho => run_indexN hc8.out ho e11_255 e11_246 w) hH ?_
  refine wpAnyH_as (l' := #[true, true, true, true, true, true, true, true, true, true, true, true, false]) (by kernel_rfl) ?_
  obtain ⟨a12, h12⟩ : ∃ a' : Act, a' = a11.put (some 256) (.pointer (some ⟨g, 40 + c * 16, none⟩)) := ⟨_, rfl⟩
  rw [← h12]
  have sz12 : a12.tmps.size = 341 := by rw [h12, size_put]; exact sz11
  have e12_253 : a12.eval (.tmp 253) = .agg (VI .i64 (dg m)) := by rw [h12, eval_put_ne _ _ _ _ (by decide)]; exact e11_253
  have e12_256 : a12.eval (.tmp 256) = .pointer (some ⟨g, 40 + c * 16, none⟩) := by rw [h12]; exact eval_put_eq _ _ _ (by rw [sz11]; decide)
  clear e11_246 e11_253 e11_255 sz11
  refine readyH opB30_12 (by kernel_rfl) (fun o ho hd => wp_store_mid _ _ _ ho g (40 + c * 16) (VI .i64 (dg m)) e12_256 e12_253 (by rw [VI_size, dg_len]; exact hV1.bn.thereN hc8.out) (by rw [VI_size, dg_len]; kernel_rfl) (VI_one _ _) ?_)
  have hE := hV1.setN hc8.out hm.out
  rw [hd]
  refine ⟨hE.row mx, ?_⟩
  refine wpAnyH_as (l' := #[true, true, true, true, true, true, true, true, true, true, true, true, true]) (by kernel_rfl) ?_
  refine wpAnyH_done (by kernel_rfl) ?_ _
  have hF : a12 = ⟨#[.pointer (some ⟨g, 0, none⟩), rv, c2, c3, c4, .pointer (some ⟨gx, 0, none⟩), .int .i64 (i : Int), .int .i64 (k : Int), .int .i64 (c : Int), c9, c10, c11, c12, c13, c14, c15, c16, c17, c18, c19, c20, c21, c22, c23, c24, c25, c26, c27, c28, c29, c30, c31, c32, c33, c34, c35, c36, c37, c38, c39, c40, c41, c42, c43, c44, c45, c46, c47, c48, c49, c50, c51, c52, c53, c54, c55, c56, c57, c58, c59, c60, c61, c62, c63, c64, c65, c66, c67, c68, c69, c70, c71, c72, c73, c74, c75, c76, c77, c78, c79, c80, c81, c82, c83, c84, c85, c86, c87, c88, c89, c90, c91, c92, c93, c94, c95, c96, c97, c98, c99, c100, c101, c102, c103, c104, c105, c106, c107, c108, c109, c110, c111, c112, c113, c114, c115, c116, c117, c118, c119, c120, c121, c122, c123, c124, c125, c126, c127, c128, c129, c130, c131, c132, c133, c134, c135, c136, c137, c138, c139, c140, c141, c142, c143, c144, c145, c146, c147, c148, c149, c150, c151, c152, c153, c154, c155, c156, c157, c158, c159, c160, c161, c162, c163, c164, c165, c166, c167, c168, c169, c170, c171, c172, c173, c174, c175, c176, c177, c178, c179, c180, c181, c182, c183, c184, c185, c186, c187, c188, c189, c190, c191, c192, c193, c194, c195, c196, c197, c198, c199, c200, c201, c202, c203, c204, c205, c206, c207, c208, c209, c210, c211, c212, c213, c214, c215, c216, c217, c218, c219, c220, c221, c222, c223, c224, c225, c226, c227, c228, c229, c230, c231, c232, c233, c234, c235, c236, c237, c238, c239, c240, c241, c242, c243, c244, .pointer (some ⟨g, 0, none⟩), .int .i64 (c : Int), .pointer (some ⟨g, 0, none⟩), .int .i64 (i : Int), .pointer (some ⟨g, 0, none⟩), .pointer (some ⟨g, 40, none⟩), .pointer (some ⟨g, 40 + i * 16, none⟩), .agg (VI .i64 (dg (ns i))), .agg (VI .i64 (dg m)), .pointer (some ⟨g, 0, none⟩), .pointer (some ⟨g, 40, none⟩), .pointer (some ⟨g, 40 + c * 16, none⟩), c257, c258, c259, c260, c261, c262, c263, c264, c265, c266, c267, c268, c269, c270, c271, c272, c273, c274, c275, c276, c277, c278, c279, c280, c281, c282, c283, c284, c285, c286, c287, c288, c289, c290, c291, c292, c293, c294, c295, c296, c297, c298, c299, c300, c301, c302, c303, c304, c305, c306, c307, c308, c309, c310, c311, c312, c313, c314, c315, c316, c317, c318, c319, c320, c321, c322, c323, c324, c325, c326, c327, c328, c329, c330, c331, c332, c333, c334, c335, c336, c337, c338, c339, c340], []⟩ := by rw [h12, h11, h10, h9, h8, h7, h6, h5, h4, h3, h2, h1, ha]; kernel_rfl
  show Q .normal (a12.put none undef) _
  rw [show a12.put none undef = a12 from rfl, hF]
  exact H _ hE
noncomputable def rgB35 : Code := ((Try.f17.body.bind (findReg 35)).getD .skip)
noncomputable def opB35 : Array Oper := opsOf rgB35
theorem rgB35_is : rgB35 = .region 35 opB35 true := by kernel_rfl
theorem opB35_ns : Region.noSelect opB35 = true := by kernel_rfl
theorem opB35_0 : opIs opB35 0 (.move (.tmp 0)) (some 279) := by unfold opIs; kernel_rfl
theorem opB35_1 : opIs opB35 1 (.move (.tmp 6)) (some 280) := by unfold opIs; kernel_rfl
theorem opB35_2 : opIs opB35 2 (.move (.tmp 0)) (some 281) := by unfold opIs; kernel_rfl
theorem opB35_3 : opIs opB35 3 (.move (.tmp 7)) (some 282) := by unfold opIs; kernel_rfl
theorem opB35_4 : opIs opB35 4 (.move (.tmp 0)) (some 283) := by unfold opIs; kernel_rfl
theorem opB35_5 : opIs opB35 5 (.move (.tmp 7)) (some 284) := by unfold opIs; kernel_rfl
theorem opB35_6 : opIs opB35 6 (.nilCheck (.tmp 283)) (some 285) := by unfold opIs; kernel_rfl
theorem opB35_7 : opIs opB35 7 (.fieldAddr 53 (.tmp 285) 1) (some 286) := by unfold opIs; kernel_rfl
theorem opB35_8 : opIs opB35 8 (.indexAddr 51 (.tmp 286) (.tmp 284)) (some 287) := by unfold opIs; kernel_rfl
theorem opB35_9 : opIs opB35 9 (.load 50 (.tmp 287)) (some 288) := by unfold opIs; kernel_rfl
theorem opB35_10 : opIs opB35 10 (.move (.tmp 0)) (some 289) := by unfold opIs; kernel_rfl
theorem opB35_11 : opIs opB35 11 (.move (.tmp 6)) (some 290) := by unfold opIs; kernel_rfl
theorem opB35_12 : opIs opB35 12 (.nilCheck (.tmp 289)) (some 291) := by unfold opIs; kernel_rfl
theorem opB35_13 : opIs opB35 13 (.fieldAddr 53 (.tmp 291) 1) (some 292) := by unfold opIs; kernel_rfl
theorem opB35_14 : opIs opB35 14 (.indexAddr 51 (.tmp 292) (.tmp 290)) (some 293) := by unfold opIs; kernel_rfl
theorem opB35_15 : opIs opB35 15 (.load 50 (.tmp 293)) (some 294) := by unfold opIs; kernel_rfl
theorem opB35_16 : opIs opB35 16 (.nilCheck (.tmp 279)) (some 295) := by unfold opIs; kernel_rfl
theorem opB35_17 : opIs opB35 17 (.fieldAddr 53 (.tmp 295) 1) (some 296) := by unfold opIs; kernel_rfl
theorem opB35_18 : opIs opB35 18 (.indexAddr 51 (.tmp 296) (.tmp 280)) (some 297) := by unfold opIs; kernel_rfl
theorem opB35_19 : opIs opB35 19 (.store 50 (.tmp 297) (.tmp 288)) (none) := by unfold opIs; kernel_rfl
theorem opB35_20 : opIs opB35 20 (.nilCheck (.tmp 281)) (some 298) := by unfold opIs; kernel_rfl
theorem opB35_21 : opIs opB35 21 (.fieldAddr 53 (.tmp 298) 1) (some 299) := by unfold opIs; kernel_rfl
theorem opB35_22 : opIs opB35 22 (.indexAddr 51 (.tmp 299) (.tmp 282)) (some 300) := by unfold opIs; kernel_rfl
theorem opB35_23 : opIs opB35 23 (.store 50 (.tmp 300) (.tmp 294)) (none) := by unfold opIs; kernel_rfl
set_option maxRecDepth 100000 in
set_option maxHeartbeats 4000000 in
theorem bk_r35 {Q : Exit → Act → World → Prop} {B : Nat} {w W : World} {rv vs : Value} {lr ll : List (Int × Int)} {g gx : Nat} {es : Nat → List Int} {ns : Nat → Nat} {bx : List (Nat × Obj)} {i k c : Nat} {D : List Int} {K0 A0 B0 C0 N T : Int}  {c2 c3 c4 c9 c10 c11 c12 c13 c14 c15 c16 c17 c18 c19 c20 c21 c22 c23 c24 c25 c26 c27 c28 c29 c30 c31 c32 c33 c34 c35 c36 c37 c38 c39 c40 c41 c42 c43 c44 c45 c46 c47 c48 c49 c50 c51 c52 c53 c54 c55 c56 c57 c58 c59 c60 c61 c62 c63 c64 c65 c66 c67 c68 c69 c70 c71 c72 c73 c74 c75 c76 c77 c78 c79 c80 c81 c82 c83 c84 c85 c86 c87 c88 c89 c90 c91 c92 c93 c94 c95 c96 c97 c98 c99 c100 c101 c102 c103 c104 c105 c106 c107 c108 c109 c110 c111 c112 c113 c114 c115 c116 c117 c118 c119 c120 c121 c122 c123 c124 c125 c126 c127 c128 c129 c130 c131 c132 c133 c134 c135 c136 c137 c138 c139 c140 c141 c142 c143 c144 c145 c146 c147 c148 c149 c150 c151 c152 c153 c154 c155 c156 c157 c158 c159 c160 c161 c162 c163 c164 c165 c166 c167 c168 c169 c170 c171 c172 c173 c174 c175 c176 c177 c178 c179 c180 c181 c182 c183 c184 c185 c186 c187 c188 c189 c190 c191 c192 c193 c194 c195 c196 c197 c198 c199 c200 c201 c202 c203 c204 c205 c206 c207 c208 c209 c210 c211 c212 c213 c214 c215 c216 c217 c218 c219 c220 c221 c222 c223 c224 c225 c226 c227 c228 c229 c230 c231 c232 c233 c234 c235 c236 c237 c238 c239 c240 c241 c242 c243 c244 c245 c246 c247 c248 c249 c250 c251 c252 c253 c254 c255 c256 c257 c258 c259 c260 c261 c262 c263 c264 c265 c266 c267 c268 c269 c270 c271 c272 c273 c274 c275 c276 c277 c278 c279 c280 c281 c282 c283 c284 c285 c286 c287 c288 c289 c290 c291 c292 c293 c294 c295 c296 c297 c298 c299 c300 c301 c302 c303 c304 c305 c306 c307 c308 c309 c310 c311 c312 c313 c314 c315 c316 c317 c318 c319 c320 c321 c322 c323 c324 c325 c326 c327 c328 c329 c330 c331 c332 c333 c334 c335 c336 c337 c338 c339 c340 : Value}
    (hi8 : Hid (i < 8)) (hk8 : Hid (k < 8)) (hc8 : Hid (c < 8)) (LD : Hid (D.length = 32))
    (mx : (gx, stO K0 A0 B0 C0 D N T) ∈ bx)
    (XX : SB B w rv lr g es ns vs ll bx W)
    (HPN : ∀ c (a : Act) d v w, Q (.panic c) (a.put d v) w → Q (.panic c) a w)
    (H : ∀ W', SB B w rv lr g es (upd (upd ns i (ns k)) k (ns i)) vs ll bx W' → Q .normal ⟨#[.pointer (some ⟨g, 0, none⟩), rv, c2, c3, c4, .pointer (some ⟨gx, 0, none⟩), .int .i64 (i : Int), .int .i64 (k : Int), .int .i64 (c : Int), c9, c10, c11, c12, c13, c14, c15, c16, c17, c18, c19, c20, c21, c22, c23, c24, c25, c26, c27, c28, c29, c30, c31, c32, c33, c34, c35, c36, c37, c38, c39, c40, c41, c42, c43, c44, c45, c46, c47, c48, c49, c50, c51, c52, c53, c54, c55, c56, c57, c58, c59, c60, c61, c62, c63, c64, c65, c66, c67, c68, c69, c70, c71, c72, c73, c74, c75, c76, c77, c78, c79, c80, c81, c82, c83, c84, c85, c86, c87, c88, c89, c90, c91, c92, c93, c94, c95, c96, c97, c98, c99, c100, c101, c102, c103, c104, c105, c106, c107, c108, c109, c110, c111, c112, c113, c114, c115, c116, c117, c118, c119, c120, c121, c122, c123, c124, c125, c126, c127, c128, c129, c130, c131, c132, c133, c134, c135, c136, c137, c138, c139, c140, c141, c142, c143, c144, c145, c146, c147, c148, c149, c150, c151, c152, c153, c154, c155, c156, c157, c158, c159, c160, c161, c162, c163, c164, c165, c166, c167, c168, c169, c170, c171, c172, c173, c174, c175, c176, c177, c178, c179, c180, c181, c182, c183, c184, c185, c186, c187, c188, c189, c190, c191, c192, c193, c194, c195, c196, c197, c198, c199, c200, c201, c202, c203, c204, c205, c206, c207, c208, c209, c210, c211, c212, c213, c214, c215, c216, c217, c218, c219, c220, c221, c222, c223, c224, c225, c226, c227, c228, c229, c230, c231, c232, c233, c234, c235, c236, c237, c238, c239, c240, c241, c242, c243, c244, c245, c246, c247, c248, c249, c250, c251, c252, c253, c254, c255, c256, c257, c258, c259, c260, c261, c262, c263, c264, c265, c266, c267, c268, c269, c270, c271, c272, c273, c274, c275, c276, c277, c278, .pointer (some ⟨g, 0, none⟩), .int .i64 (i : Int), .pointer (some ⟨g, 0, none⟩), .int .i64 (k : Int), .pointer (some ⟨g, 0, none⟩), .int .i64 (k : Int), .pointer (some ⟨g, 0, none⟩), .pointer (some ⟨g, 40, none⟩), .pointer (some ⟨g, 40 + k * 16, none⟩), .agg (VI .i64 (dg (ns k))), .pointer (some ⟨g, 0, none⟩), .int .i64 (i : Int), .pointer (some ⟨g, 0, none⟩), .pointer (some ⟨g, 40, none⟩), .pointer (some ⟨g, 40 + i * 16, none⟩), .agg (VI .i64 (dg (ns i))), .pointer (some ⟨g, 0, none⟩), .pointer (some ⟨g, 40, none⟩), .pointer (some ⟨g, 40 + i * 16, none⟩), .pointer (some ⟨g, 0, none⟩), .pointer (some ⟨g, 40, none⟩), .pointer (some ⟨g, 40 + k * 16, none⟩), c301, c302, c303, c304, c305, c306, c307, c308, c309, c310, c311, c312, c313, c314, c315, c316, c317, c318, c319, c320, c321, c322, c323, c324, c325, c326, c327, c328, c329, c330, c331, c332, c333, c334, c335, c336, c337, c338, c339, c340], []⟩ W') :
    Code.wp Try.prog rgB35 Q ⟨#[.pointer (some ⟨g, 0, none⟩), rv, c2, c3, c4, .pointer (some ⟨gx, 0, none⟩), .int .i64 (i : Int), .int .i64 (k : Int), .int .i64 (c : Int), c9, c10, c11, c12, c13, c14, c15, c16, c17, c18, c19, c20, c21, c22, c23, c24, c25, c26, c27, c28, c29, c30, c31, c32, c33, c34, c35, c36, c37, c38, c39, c40, c41, c42, c43, c44, c45, c46, c47, c48, c49, c50, c51, c52, c53, c54, c55, c56, c57, c58, c59, c60, c61, c62, c63, c64, c65, c66, c67, c68, c69, c70, c71, c72, c73, c74, c75, c76, c77, c78, c79, c80, c81, c82, c83, c84, c85, c86, c87, c88, c89, c90, c91, c92, c93, c94, c95, c96, c97, c98, c99, c100, c101, c102, c103, c104, c105, c106, c107, c108, c109, c110, c111, c112, c113, c114, c115, c116, c117, c118, c119, c120, c121, c122, c123, c124, c125, c126, c127, c128, c129, c130, c131, c132, c133, c134, c135, c136, c137, c138, c139, c140, c141, c142, c143, c144, c145, c146, c147, c148, c149, c150, c151, c152, c153, c154, c155, c156, c157, c158, c159, c160, c161, c162, c163, c164, c165, c166, c167, c168, c169, c170, c171, c172, c173, c174, c175, c176, c177, c178, c179, c180, c181, c182, c183, c184, c185, c186, c187, c188, c189, c190, c191, c192, c193, c194, c195, c196, c197, c198, c199, c200, c201, c202, c203, c204, c205, c206, c207, c208, c209, c210, c211, c212, c213, c214, c215, c216, c217, c218, c219, c220, c221, c222, c223, c224, c225, c226, c227, c228, c229, c230, c231, c232, c233, c234, c235, c236, c237, c238, c239, c240, c241, c242, c243, c244, c245, c246, c247, c248, c249, c250, c251, c252, c253, c254, c255, c256, c257, c258, c259, c260, c261, c262, c263, c264, c265, c266, c267, c268, c269, c270, c271, c272, c273, c274, c275, c276, c277, c278, c279, c280, c281, c282, c283, c284, c285, c286, c287, c288, c289, c290, c291, c292, c293, c294, c295, c296, c297, c298, c299, c300, c301, c302, c303, c304, c305, c306, c307, c308, c309, c310, c311, c312, c313, c314, c315, c316, c317, c318, c319, c320, c321, c322, c323, c324, c325, c326, c327, c328, c329, c330, c331, c332, c333, c334, c335, c336, c337, c338, c339, c340], []⟩ W := by
  rw [rgB35_is]
  refine wp_region_held_drew (S := fun Y => Y.heap[gx]? = some (stO K0 A0 B0 C0 D N T)) (by kernel_rfl) (XX.drew.row mx) (fun hH => ?_)
  have hV := XX.drew
  clear XX
  obtain ⟨V0, hV0⟩ : ∃ V, W.drew = V := ⟨_, rfl⟩
  rw [hV0] at hH hV ⊢
  clear hV0
  obtain ⟨a0, ha⟩ : ∃ a : Act, a = ⟨#[.pointer (some ⟨g, 0, none⟩), rv, c2, c3, c4, .pointer (some ⟨gx, 0, none⟩), .int .i64 (i : Int), .int .i64 (k : Int), .int .i64 (c : Int), c9, c10, c11, c12, c13, c14, c15, c16, c17, c18, c19, c20, c21, c22, c23, c24, c25, c26, c27, c28, c29, c30, c31, c32, c33, c34, c35, c36, c37, c38, c39, c40, c41, c42, c43, c44, c45, c46, c47, c48, c49, c50, c51, c52, c53, c54, c55, c56, c57, c58, c59, c60, c61, c62, c63, c64, c65, c66, c67, c68, c69, c70, c71, c72, c73, c74, c75, c76, c77, c78, c79, c80, c81, c82, c83, c84, c85, c86, c87, c88, c89, c90, c91, c92, c93, c94, c95, c96, c97, c98, c99, c100, c101, c102, c103, c104, c105, c106, c107, c108, c109, c110, c111, c112, c113, c114, c115, c116, c117, c118, c119, c120, c121, c122, c123, c124, c125, c126, c127, c128, c129, c130, c131, c132, c133, c134, c135, c136, c137, c138, c139, c140, c141, c142, c143, c144, c145, c146, c147, c148, c149, c150, c151, c152, c153, c154, c155, c156, c157, c158, c159, c160, c161, c162, c163, c164, c165, c166, c167, c168, c169, c170, c171, c172, c173, c174, c175, c176, c177, c178, c179, c180, c181, c182, c183, c184, c185, c186, c187, c188, c189, c190, c191, c192, c193, c194, c195, c196, c197, c198, c199, c200, c201, c202, c203, c204, c205, c206, c207, c208, c209, c210, c211, c212, c213, c214, c215, c216, c217, c218, c219, c220, c221, c222, c223, c224, c225, c226, c227, c228, c229, c230, c231, c232, c233, c234, c235, c236, c237, c238, c239, c240, c241, c242, c243, c244, c245, c246, c247, c248, c249, c250, c251, c252, c253, c254, c255, c256, c257, c258, c259, c260, c261, c262, c263, c264, c265, c266, c267, c268, c269, c270, c271, c272, c273, c274, c275, c276, c277, c278, c279, c280, c281, c282, c283, c284, c285, c286, c287, c288, c289, c290, c291, c292, c293, c294, c295, c296, c297, c298, c299, c300, c301, c302, c303, c304, c305, c306, c307, c308, c309, c310, c311, c312, c313, c314, c315, c316, c317, c318, c319, c320, c321, c322, c323, c324, c325, c326, c327, c328, c329, c330, c331, c332, c333, c334, c335, c336, c337, c338, c339, c340], []⟩ := ⟨_, rfl⟩
  have sz0 : a0.tmps.size = 341 := by rw [ha]; kernel_rfl
  have e0_0 : a0.eval (.tmp 0) = .pointer (some ⟨g, 0, none⟩) := by rw [ha]; kernel_rfl
  have e0_6 : a0.eval (.tmp 6) = .int .i64 (i : Int) := by rw [ha]; kernel_rfl
  have e0_7 : a0.eval (.tmp 7) = .int .i64 (k : Int) := by rw [ha]; kernel_rfl
  rw [← ha]
  refine wpAnyH_as (l' := #[false, false, false, false, false, false, false, false, false, false, false, false, false, false, false, false, false, false, false, false, false, false, false, false]) (by kernel_rfl) ?_
  refine takeH (v := .pointer (some ⟨g, 0, none⟩)) opB35_0 opB35_ns (by kernel_rfl) (by kernel_rfl) HPN (fun w hw o ho => run_move ho e0_0 w) hH ?_
  refine wpAnyH_as (l' := #[true, false, false, false, false, false, false, false, false, false, false, false, false, false, false, false, false, false, false, false, false, false, false, false]) (by kernel_rfl) ?_
  obtain ⟨a1, h1⟩ : ∃ a' : Act, a' = a0.put (some 279) (.pointer (some ⟨g, 0, none⟩)) := ⟨_, rfl⟩
  rw [← h1]
  have sz1 : a1.tmps.size = 341 := by rw [h1, size_put]; exact sz0
  have e1_0 : a1.eval (.tmp 0) = .pointer (some ⟨g, 0, none⟩) := by rw [h1, eval_put_ne _ _ _ _ (by decide)]; exact e0_0
  have e1_6 : a1.eval (.tmp 6) = .int .i64 (i : Int) := by rw [h1, eval_put_ne _ _ _ _ (by decide)]; exact e0_6
  have e1_7 : a1.eval (.tmp 7) = .int .i64 (k : Int) := by rw [h1, eval_put_ne _ _ _ _ (by decide)]; exact e0_7
  have e1_279 : a1.eval (.tmp 279) = .pointer (some ⟨g, 0, none⟩) := by rw [h1]; exact eval_put_eq _ _ _ (by rw [sz0]; decide)
  clear e0_0 e0_6 e0_7 sz0
  refine takeH (v := .int .i64 (i : Int)) opB35_1 opB35_ns (by kernel_rfl) (by kernel_rfl) HPN (fun w hw o ho => run_move ho e1_6 w) hH ?_
  refine wpAnyH_as (l' := #[true, true, false, false, false, false, false, false, false, false, false, false, false, false, false, false, false, false, false, false, false, false, false, false]) (by kernel_rfl) ?_
  obtain ⟨a2, h2⟩ : ∃ a' : Act, a' = a1.put (some 280) (.int .i64 (i : Int)) := ⟨_, rfl⟩
  rw [← h2]
  have sz2 : a2.tmps.size = 341 := by rw [h2, size_put]; exact sz1
  have e2_0 : a2.eval (.tmp 0) = .pointer (some ⟨g, 0, none⟩) := by rw [h2, eval_put_ne _ _ _ _ (by decide)]; exact e1_0
  have e2_6 : a2.eval (.tmp 6) = .int .i64 (i : Int) := by rw [h2, eval_put_ne _ _ _ _ (by decide)]; exact e1_6
  have e2_7 : a2.eval (.tmp 7) = .int .i64 (k : Int) := by rw [h2, eval_put_ne _ _ _ _ (by decide)]; exact e1_7
  have e2_279 : a2.eval (.tmp 279) = .pointer (some ⟨g, 0, none⟩) := by rw [h2, eval_put_ne _ _ _ _ (by decide)]; exact e1_279
  have e2_280 : a2.eval (.tmp 280) = .int .i64 (i : Int) := by rw [h2]; exact eval_put_eq _ _ _ (by rw [sz1]; decide)
  clear e1_0 e1_279 e1_6 e1_7 sz1
  refine takeH (v := .pointer (some ⟨g, 0, none⟩)) opB35_2 opB35_ns (by kernel_rfl) (by kernel_rfl) HPN (fun w hw o ho => run_move ho e2_0 w) hH ?_
  refine wpAnyH_as (l' := #[true, true, true, false, false, false, false, false, false, false, false, false, false, false, false, false, false, false, false, false, false, false, false, false]) (by kernel_rfl) ?_
  obtain ⟨a3, h3⟩ : ∃ a' : Act, a' = a2.put (some 281) (.pointer (some ⟨g, 0, none⟩)) := ⟨_, rfl⟩
  rw [← h3]
  have sz3 : a3.tmps.size = 341 := by rw [h3, size_put]; exact sz2
  have e3_0 : a3.eval (.tmp 0) = .pointer (some ⟨g, 0, none⟩) := by rw [h3, eval_put_ne _ _ _ _ (by decide)]; exact e2_0
  have e3_6 : a3.eval (.tmp 6) = .int .i64 (i : Int) := by rw [h3, eval_put_ne _ _ _ _ (by decide)]; exact e2_6
  have e3_7 : a3.eval (.tmp 7) = .int .i64 (k : Int) := by rw [h3, eval_put_ne _ _ _ _ (by decide)]; exact e2_7
  have e3_279 : a3.eval (.tmp 279) = .pointer (some ⟨g, 0, none⟩) := by rw [h3, eval_put_ne _ _ _ _ (by decide)]; exact e2_279
  have e3_280 : a3.eval (.tmp 280) = .int .i64 (i : Int) := by rw [h3, eval_put_ne _ _ _ _ (by decide)]; exact e2_280
  have e3_281 : a3.eval (.tmp 281) = .pointer (some ⟨g, 0, none⟩) := by rw [h3]; exact eval_put_eq _ _ _ (by rw [sz2]; decide)
  clear e2_0 e2_279 e2_280 e2_6 e2_7 sz2
  refine takeH (v := .int .i64 (k : Int)) opB35_3 opB35_ns (by kernel_rfl) (by kernel_rfl) HPN (fun w hw o ho => run_move ho e3_7 w) hH ?_
  refine wpAnyH_as (l' := #[true, true, true, true, false, false, false, false, false, false, false, false, false, false, false, false, false, false, false, false, false, false, false, false]) (by kernel_rfl) ?_
  obtain ⟨a4, h4⟩ : ∃ a' : Act, a' = a3.put (some 282) (.int .i64 (k : Int)) := ⟨_, rfl⟩
  rw [← h4]
  have sz4 : a4.tmps.size = 341 := by rw [h4, size_put]; exact sz3
  have e4_0 : a4.eval (.tmp 0) = .pointer (some ⟨g, 0, none⟩) := by rw [h4, eval_put_ne _ _ _ _ (by decide)]; exact e3_0
  have e4_6 : a4.eval (.tmp 6) = .int .i64 (i : Int) := by rw [h4, eval_put_ne _ _ _ _ (by decide)]; exact e3_6
  have e4_7 : a4.eval (.tmp 7) = .int .i64 (k : Int) := by rw [h4, eval_put_ne _ _ _ _ (by decide)]; exact e3_7
  have e4_279 : a4.eval (.tmp 279) = .pointer (some ⟨g, 0, none⟩) := by rw [h4, eval_put_ne _ _ _ _ (by decide)]; exact e3_279
  have e4_280 : a4.eval (.tmp 280) = .int .i64 (i : Int) := by rw [h4, eval_put_ne _ _ _ _ (by decide)]; exact e3_280
  have e4_281 : a4.eval (.tmp 281) = .pointer (some ⟨g, 0, none⟩) := by rw [h4, eval_put_ne _ _ _ _ (by decide)]; exact e3_281
  have e4_282 : a4.eval (.tmp 282) = .int .i64 (k : Int) := by rw [h4]; exact eval_put_eq _ _ _ (by rw [sz3]; decide)
  clear e3_0 e3_279 e3_280 e3_281 e3_6 e3_7 sz3
  refine takeH (v := .pointer (some ⟨g, 0, none⟩)) opB35_4 opB35_ns (by kernel_rfl) (by kernel_rfl) HPN (fun w hw o ho => run_move ho e4_0 w) hH ?_
  refine wpAnyH_as (l' := #[true, true, true, true, true, false, false, false, false, false, false, false, false, false, false, false, false, false, false, false, false, false, false, false]) (by kernel_rfl) ?_
  obtain ⟨a5, h5⟩ : ∃ a' : Act, a' = a4.put (some 283) (.pointer (some ⟨g, 0, none⟩)) := ⟨_, rfl⟩
  rw [← h5]
  have sz5 : a5.tmps.size = 341 := by rw [h5, size_put]; exact sz4
  have e5_0 : a5.eval (.tmp 0) = .pointer (some ⟨g, 0, none⟩) := by rw [h5, eval_put_ne _ _ _ _ (by decide)]; exact e4_0
  have e5_6 : a5.eval (.tmp 6) = .int .i64 (i : Int) := by rw [h5, eval_put_ne _ _ _ _ (by decide)]; exact e4_6
  have e5_7 : a5.eval (.tmp 7) = .int .i64 (k : Int) := by rw [h5, eval_put_ne _ _ _ _ (by decide)]; exact e4_7
  have e5_279 : a5.eval (.tmp 279) = .pointer (some ⟨g, 0, none⟩) := by rw [h5, eval_put_ne _ _ _ _ (by decide)]; exact e4_279
  have e5_280 : a5.eval (.tmp 280) = .int .i64 (i : Int) := by rw [h5, eval_put_ne _ _ _ _ (by decide)]; exact e4_280
  have e5_281 : a5.eval (.tmp 281) = .pointer (some ⟨g, 0, none⟩) := by rw [h5, eval_put_ne _ _ _ _ (by decide)]; exact e4_281
  have e5_282 : a5.eval (.tmp 282) = .int .i64 (k : Int) := by rw [h5, eval_put_ne _ _ _ _ (by decide)]; exact e4_282
  have e5_283 : a5.eval (.tmp 283) = .pointer (some ⟨g, 0, none⟩) := by rw [h5]; exact eval_put_eq _ _ _ (by rw [sz4]; decide)
  clear e4_0 e4_279 e4_280 e4_281 e4_282 e4_6 e4_7 sz4
  refine takeH (v := .int .i64 (k : Int)) opB35_5 opB35_ns (by kernel_rfl) (by kernel_rfl) HPN (fun w hw o ho => run_move ho e5_7 w) hH ?_
  refine wpAnyH_as (l' := #[true, true, true, true, true, true, false, false, false, false, false, false, false, false, false, false, false, false, false, false, false, false, false, false]) (by kernel_rfl) ?_
  obtain ⟨a6, h6⟩ : ∃ a' : Act, a' = a5.put (some 284) (.int .i64 (k : Int)) := ⟨_, rfl⟩
  rw [← h6]
  have sz6 : a6.tmps.size = 341 := by rw [h6, size_put]; exact sz5
  have e6_0 : a6.eval (.tmp 0) = .pointer (some ⟨g, 0, none⟩) := by rw [h6, eval_put_ne _ _ _ _ (by decide)]; exact e5_0
  have e6_6 : a6.eval (.tmp 6) = .int .i64 (i : Int) := by rw [h6, eval_put_ne _ _ _ _ (by decide)]; exact e5_6
  have e6_279 : a6.eval (.tmp 279) = .pointer (some ⟨g, 0, none⟩) := by rw [h6, eval_put_ne _ _ _ _ (by decide)]; exact e5_279
  have e6_280 : a6.eval (.tmp 280) = .int .i64 (i : Int) := by rw [h6, eval_put_ne _ _ _ _ (by decide)]; exact e5_280
  have e6_281 : a6.eval (.tmp 281) = .pointer (some ⟨g, 0, none⟩) := by rw [h6, eval_put_ne _ _ _ _ (by decide)]; exact e5_281
  have e6_282 : a6.eval (.tmp 282) = .int .i64 (k : Int) := by rw [h6, eval_put_ne _ _ _ _ (by decide)]; exact e5_282
  have e6_283 : a6.eval (.tmp 283) = .pointer (some ⟨g, 0, none⟩) := by rw [h6, eval_put_ne _ _ _ _ (by decide)]; exact e5_283
  have e6_284 : a6.eval (.tmp 284) = .int .i64 (k : Int) := by rw [h6]; exact eval_put_eq _ _ _ (by rw [sz5]; decide)
  clear e5_0 e5_279 e5_280 e5_281 e5_282 e5_283 e5_6 e5_7 sz5
  refine takeH (v := .pointer (some ⟨g, 0, none⟩)) opB35_6 opB35_ns (by kernel_rfl) (by kernel_rfl) HPN (fun w hw o ho => run_nilCheck ho e6_283 w) hH ?_
  refine wpAnyH_as (l' := #[true, true, true, true, true, true, true, false, false, false, false, false, false, false, false, false, false, false, false, false, false, false, false, false]) (by kernel_rfl) ?_
  obtain ⟨a7, h7⟩ : ∃ a' : Act, a' = a6.put (some 285) (.pointer (some ⟨g, 0, none⟩)) := ⟨_, rfl⟩
  rw [← h7]
  have sz7 : a7.tmps.size = 341 := by rw [h7, size_put]; exact sz6
  have e7_0 : a7.eval (.tmp 0) = .pointer (some ⟨g, 0, none⟩) := by rw [h7, eval_put_ne _ _ _ _ (by decide)]; exact e6_0
  have e7_6 : a7.eval (.tmp 6) = .int .i64 (i : Int) := by rw [h7, eval_put_ne _ _ _ _ (by decide)]; exact e6_6
  have e7_279 : a7.eval (.tmp 279) = .pointer (some ⟨g, 0, none⟩) := by rw [h7, eval_put_ne _ _ _ _ (by decide)]; exact e6_279
  have e7_280 : a7.eval (.tmp 280) = .int .i64 (i : Int) := by rw [h7, eval_put_ne _ _ _ _ (by decide)]; exact e6_280
  have e7_281 : a7.eval (.tmp 281) = .pointer (some ⟨g, 0, none⟩) := by rw [h7, eval_put_ne _ _ _ _ (by decide)]; exact e6_281
  have e7_282 : a7.eval (.tmp 282) = .int .i64 (k : Int) := by rw [h7, eval_put_ne _ _ _ _ (by decide)]; exact e6_282
  have e7_284 : a7.eval (.tmp 284) = .int .i64 (k : Int) := by rw [h7, eval_put_ne _ _ _ _ (by decide)]; exact e6_284
  have e7_285 : a7.eval (.tmp 285) = .pointer (some ⟨g, 0, none⟩) := by rw [h7]; exact eval_put_eq _ _ _ (by rw [sz6]; decide)
  clear e6_0 e6_279 e6_280 e6_281 e6_282 e6_283 e6_284 e6_6 sz6
  refine takeH (v := .pointer (some ⟨g, 40, none⟩)) opB35_7 opB35_ns (by kernel_rfl) (by kernel_rfl) HPN (fun w hw o ho => run_fieldN ho e7_285 w) hH ?_
  refine wpAnyH_as (l' := #[true, true, true, true, true, true, true, true, false, false, false, false, false, false, false, false, false, false, false, false, false, false, false, false]) (by kernel_rfl) ?_
  obtain ⟨a8, h8⟩ : ∃ a' : Act, a' = a7.put (some 286) (.pointer (some ⟨g, 40, none⟩)) := ⟨_, rfl⟩
  rw [← h8]
  have sz8 : a8.tmps.size = 341 := by rw [h8, size_put]; exact sz7
  have e8_0 : a8.eval (.tmp 0) = .pointer (some ⟨g, 0, none⟩) := by rw [h8, eval_put_ne _ _ _ _ (by decide)]; exact e7_0
  have e8_6 : a8.eval (.tmp 6) = .int .i64 (i : Int) := by rw [h8, eval_put_ne _ _ _ _ (by decide)]; exact e7_6
  have e8_279 : a8.eval (.tmp 279) = .pointer (some ⟨g, 0, none⟩) := by rw [h8, eval_put_ne _ _ _ _ (by decide)]; exact e7_279
  have e8_280 : a8.eval (.tmp 280) = .int .i64 (i : Int) := by rw [h8, eval_put_ne _ _ _ _ (by decide)]; exact e7_280
  have e8_281 : a8.eval (.tmp 281) = .pointer (some ⟨g, 0, none⟩) := by rw [h8, eval_put_ne _ _ _ _ (by decide)]; exact e7_281
  have e8_282 : a8.eval (.tmp 282) = .int .i64 (k : Int) := by rw [h8, eval_put_ne _ _ _ _ (by decide)]; exact e7_282
  have e8_284 : a8.eval (.tmp 284) = .int .i64 (k : Int) := by rw [h8, eval_put_ne _ _ _ _ (by decide)]; exact e7_284
  have e8_286 : a8.eval (.tmp 286) = .pointer (some ⟨g, 40, none⟩) := by rw [h8]; exact eval_put_eq _ _ _ (by rw [sz7]; decide)
  clear e7_0 e7_279 e7_280 e7_281 e7_282 e7_284 e7_285 e7_6 sz7
  refine takeH (v := .pointer (some ⟨g, 40 + k * 16, none⟩)) opB35_8 opB35_ns (by kernel_rfl) (by kernel_rfl) HPN (fun w hw o ho => run_indexN hk8.out ho e8_286 e8_284 w) hH ?_
  refine wpAnyH_as (l' := #[true, true, true, true, true, true, true, true, true, false, false, false, false, false, false, false, false, false, false, false, false, false, false, false]) (by kernel_rfl) ?_
  obtain ⟨a9, h9⟩ : ∃ a' : Act, a' = a8.put (some 287) (.pointer (some ⟨g, 40 + k * 16, none⟩)) := ⟨_, rfl⟩
  rw [← h9]
  have sz9 : a9.tmps.size = 341 := by rw [h9, size_put]; exact sz8
  have e9_0 : a9.eval (.tmp 0) = .pointer (some ⟨g, 0, none⟩) := by rw [h9, eval_put_ne _ _ _ _ (by decide)]; exact e8_0
  have e9_6 : a9.eval (.tmp 6) = .int .i64 (i : Int) := by rw [h9, eval_put_ne _ _ _ _ (by decide)]; exact e8_6
  have e9_279 : a9.eval (.tmp 279) = .pointer (some ⟨g, 0, none⟩) := by rw [h9, eval_put_ne _ _ _ _ (by decide)]; exact e8_279
  have e9_280 : a9.eval (.tmp 280) = .int .i64 (i : Int) := by rw [h9, eval_put_ne _ _ _ _ (by decide)]; exact e8_280
  have e9_281 : a9.eval (.tmp 281) = .pointer (some ⟨g, 0, none⟩) := by rw [h9, eval_put_ne _ _ _ _ (by decide)]; exact e8_281
  have e9_282 : a9.eval (.tmp 282) = .int .i64 (k : Int) := by rw [h9, eval_put_ne _ _ _ _ (by decide)]; exact e8_282
  have e9_287 : a9.eval (.tmp 287) = .pointer (some ⟨g, 40 + k * 16, none⟩) := by rw [h9]; exact eval_put_eq _ _ _ (by rw [sz8]; decide)
  clear e8_0 e8_279 e8_280 e8_281 e8_282 e8_284 e8_286 e8_6 sz8
  refine takeH (v := .pointer (some ⟨g, 0, none⟩)) opB35_10 opB35_ns (by kernel_rfl) (by kernel_rfl) HPN (fun w hw o ho => run_move ho e9_0 w) hH ?_
  refine wpAnyH_as (l' := #[true, true, true, true, true, true, true, true, true, false, true, false, false, false, false, false, false, false, false, false, false, false, false, false]) (by kernel_rfl) ?_
  obtain ⟨a10, h10⟩ : ∃ a' : Act, a' = a9.put (some 289) (.pointer (some ⟨g, 0, none⟩)) := ⟨_, rfl⟩
  rw [← h10]
  have sz10 : a10.tmps.size = 341 := by rw [h10, size_put]; exact sz9
  have e10_6 : a10.eval (.tmp 6) = .int .i64 (i : Int) := by rw [h10, eval_put_ne _ _ _ _ (by decide)]; exact e9_6
  have e10_279 : a10.eval (.tmp 279) = .pointer (some ⟨g, 0, none⟩) := by rw [h10, eval_put_ne _ _ _ _ (by decide)]; exact e9_279
  have e10_280 : a10.eval (.tmp 280) = .int .i64 (i : Int) := by rw [h10, eval_put_ne _ _ _ _ (by decide)]; exact e9_280
  have e10_281 : a10.eval (.tmp 281) = .pointer (some ⟨g, 0, none⟩) := by rw [h10, eval_put_ne _ _ _ _ (by decide)]; exact e9_281
  have e10_282 : a10.eval (.tmp 282) = .int .i64 (k : Int) := by rw [h10, eval_put_ne _ _ _ _ (by decide)]; exact e9_282
  have e10_287 : a10.eval (.tmp 287) = .pointer (some ⟨g, 40 + k * 16, none⟩) := by rw [h10, eval_put_ne _ _ _ _ (by decide)]; exact e9_287
  have e10_289 : a10.eval (.tmp 289) = .pointer (some ⟨g, 0, none⟩) := by rw [h10]; exact eval_put_eq _ _ _ (by rw [sz9]; decide)
  clear e9_0 e9_279 e9_280 e9_281 e9_282 e9_287 e9_6 sz9
  refine takeH (v := .int .i64 (i : Int)) opB35_11 opB35_ns (by kernel_rfl) (by kernel_rfl) HPN (fun w hw o ho => run_move ho e10_6 w) hH ?_
  refine wpAnyH_as (l' := #[true, true, true, true, true, true, true, true, true, false, true, true, false, false, false, false, false, false, false, false, false, false, false, false]) (by kernel_rfl) ?_
  obtain ⟨a11, h11⟩ : ∃ a' : Act, a' = a10.put (some 290) (.int .i64 (i : Int)) := ⟨_, rfl⟩
  rw [← h11]
  have sz11 : a11.tmps.size = 341 := by rw [h11, size_put]; exact sz10
  have e11_279 : a11.eval (.tmp 279) = .pointer (some ⟨g, 0, none⟩) := by rw [h11, eval_put_ne _ _ _ _ (by decide)]; exact e10_279
  have e11_280 : a11.eval (.tmp 280) = .int .i64 (i : Int) := by rw [h11, eval_put_ne _ _ _ _ (by decide)]; exact e10_280
  have e11_281 : a11.eval (.tmp 281) = .pointer (some ⟨g, 0, none⟩) := by rw [h11, eval_put_ne _ _ _ _ (by decide)]; exact e10_281
  have e11_282 : a11.eval (.tmp 282) = .int .i64 (k : Int) := by rw [h11, eval_put_ne _ _ _ _ (by decide)]; exact e10_282
  have e11_287 : a11.eval (.tmp 287) = .pointer (some ⟨g, 40 + k * 16, none⟩) := by rw [h11, eval_put_ne _ _ _ _ (by decide)]; exact e10_287
  have e11_289 : a11.eval (.tmp 289) = .pointer (some ⟨g, 0, none⟩) := by rw [h11, eval_put_ne _ _ _ _ (by decide)]; exact e10_289
  have e11_290 : a11.eval (.tmp 290) = .int .i64 (i : Int) := by rw [h11]; exact eval_put_eq _ _ _ (by rw [sz10]; decide)
  clear e10_279 e10_280 e10_281 e10_282 e10_287 e10_289 e10_6 sz10
  refine takeH (v := .pointer (some ⟨g, 0, none⟩)) opB35_12 opB35_ns (by kernel_rfl) (by kernel_rfl) HPN (fun w hw o ho => run_nilCheck ho e11_289 w) hH ?_
  refine wpAnyH_as (l' := #[true, true, true, true, true, true, true, true, true, false, true, true, true, false, false, false, false, false, false, false, false, false, false, false]) (by kernel_rfl) ?_
  obtain ⟨a12, h12⟩ : ∃ a' : Act, a' = a11.put (some 291) (.pointer (some ⟨g, 0, none⟩)) := ⟨_, rfl⟩
  rw [← h12]
  have sz12 : a12.tmps.size = 341 := by rw [h12, size_put]; exact sz11
  have e12_279 : a12.eval (.tmp 279) = .pointer (some ⟨g, 0, none⟩) := by rw [h12, eval_put_ne _ _ _ _ (by decide)]; exact e11_279
  have e12_280 : a12.eval (.tmp 280) = .int .i64 (i : Int) := by rw [h12, eval_put_ne _ _ _ _ (by decide)]; exact e11_280
  have e12_281 : a12.eval (.tmp 281) = .pointer (some ⟨g, 0, none⟩) := by rw [h12, eval_put_ne _ _ _ _ (by decide)]; exact e11_281
  have e12_282 : a12.eval (.tmp 282) = .int .i64 (k : Int) := by rw [h12, eval_put_ne _ _ _ _ (by decide)]; exact e11_282
  have e12_287 : a12.eval (.tmp 287) = .pointer (some ⟨g, 40 + k * 16, none⟩) := by rw [h12, eval_put_ne _ _ _ _ (by decide)]; exact e11_287
  have e12_290 : a12.eval (.tmp 290) = .int .i64 (i : Int) := by rw [h12, eval_put_ne _ _ _ _ (by decide)]; exact e11_290
  have e12_291 : a12.eval (.tmp 291) = .pointer (some ⟨g, 0, none⟩) := by rw [h12]; exact eval_put_eq _ _ _ (by rw [sz11]; decide)
  clear e11_279 e11_280 e11_281 e11_282 e11_287 e11_289 e11_290 sz11
  refine takeH (v := .pointer (some ⟨g, 40, none⟩)) opB35_13 opB35_ns (by kernel_rfl) (by kernel_rfl) HPN (fun w hw o ho => run_fieldN ho e12_291 w) hH ?_
  refine wpAnyH_as (l' := #[true, true, true, true, true, true, true, true, true, false, true, true, true, true, false, false, false, false, false, false, false, false, false, false]) (by kernel_rfl) ?_
  obtain ⟨a13, h13⟩ : ∃ a' : Act, a' = a12.put (some 292) (.pointer (some ⟨g, 40, none⟩)) := ⟨_, rfl⟩
  rw [← h13]
  have sz13 : a13.tmps.size = 341 := by rw [h13, size_put]; exact sz12
  have e13_279 : a13.eval (.tmp 279) = .pointer (some ⟨g, 0, none⟩) := by rw [h13, eval_put_ne _ _ _ _ (by decide)]; exact e12_279
  have e13_280 : a13.eval (.tmp 280) = .int .i64 (i : Int) := by rw [h13, eval_put_ne _ _ _ _ (by decide)]; exact e12_280
  have e13_281 : a13.eval (.tmp 281) = .pointer (some ⟨g, 0, none⟩) := by rw [h13, eval_put_ne _ _ _ _ (by decide)]; exact e12_281
  have e13_282 : a13.eval (.tmp 282) = .int .i64 (k : Int) := by rw [h13, eval_put_ne _ _ _ _ (by decide)]; exact e12_282
  have e13_287 : a13.eval (.tmp 287) = .pointer (some ⟨g, 40 + k * 16, none⟩) := by rw [h13, eval_put_ne _ _ _ _ (by decide)]; exact e12_287
  have e13_290 : a13.eval (.tmp 290) = .int .i64 (i : Int) := by rw [h13, eval_put_ne _ _ _ _ (by decide)]; exact e12_290
  have e13_292 : a13.eval (.tmp 292) = .pointer (some ⟨g, 40, none⟩) := by rw [h13]; exact eval_put_eq _ _ _ (by rw [sz12]; decide)
  clear e12_279 e12_280 e12_281 e12_282 e12_287 e12_290 e12_291 sz12
  refine takeH (v := .pointer (some ⟨g, 40 + i * 16, none⟩)) opB35_14 opB35_ns (by kernel_rfl) (by kernel_rfl) HPN (fun w hw o ho => run_indexN hi8.out ho e13_292 e13_290 w) hH ?_
  refine wpAnyH_as (l' := #[true, true, true, true, true, true, true, true, true, false, true, true, true, true, true, false, false, false, false, false, false, false, false, false]) (by kernel_rfl) ?_
  obtain ⟨a14, h14⟩ : ∃ a' : Act, a' = a13.put (some 293) (.pointer (some ⟨g, 40 + i * 16, none⟩)) := ⟨_, rfl⟩
  rw [← h14]
  have sz14 : a14.tmps.size = 341 := by rw [h14, size_put]; exact sz13
  have e14_279 : a14.eval (.tmp 279) = .pointer (some ⟨g, 0, none⟩) := by rw [h14, eval_put_ne _ _ _ _ (by decide)]; exact e13_279
  have e14_280 : a14.eval (.tmp 280) = .int .i64 (i : Int) := by rw [h14, eval_put_ne _ _ _ _ (by decide)]; exact e13_280
  have e14_281 : a14.eval (.tmp 281) = .pointer (some ⟨g, 0, none⟩) := by rw [h14, eval_put_ne _ _ _ _ (by decide)]; exact e13_281
  have e14_282 : a14.eval (.tmp 282) = .int .i64 (k : Int) := by rw [h14, eval_put_ne _ _ _ _ (by decide)]; exact e13_282
  have e14_287 : a14.eval (.tmp 287) = .pointer (some ⟨g, 40 + k * 16, none⟩) := by rw [h14, eval_put_ne _ _ _ _ (by decide)]; exact e13_287
  have e14_293 : a14.eval (.tmp 293) = .pointer (some ⟨g, 40 + i * 16, none⟩) := by rw [h14]; exact eval_put_eq _ _ _ (by rw [sz13]; decide)
  clear e13_279 e13_280 e13_281 e13_282 e13_287 e13_290 e13_292 sz13
  refine takeH (v := .pointer (some ⟨g, 0, none⟩)) opB35_16 opB35_ns (by kernel_rfl) (by kernel_rfl) HPN (fun w hw o ho => run_nilCheck ho e14_279 w) hH ?_
  refine wpAnyH_as (l' := #[true, true, true, true, true, true, true, true, true, false, true, true, true, true, true, false, true, false, false, false, false, false, false, false]) (by kernel_rfl) ?_
  obtain ⟨a15, h15⟩ : ∃ a' : Act, a' = a14.put (some 295) (.pointer (some ⟨g, 0, none⟩)) := ⟨_, rfl⟩
  rw [← h15]
  have sz15 : a15.tmps.size = 341 := by rw [h15, size_put]; exact sz14
  have e15_280 : a15.eval (.tmp 280) = .int .i64 (i : Int) := by rw [h15, eval_put_ne _ _ _ _ (by decide)]; exact e14_280
  have e15_281 : a15.eval (.tmp 281) = .pointer (some ⟨g, 0, none⟩) := by rw [h15, eval_put_ne _ _ _ _ (by decide)]; exact e14_281
  have e15_282 : a15.eval (.tmp 282) = .int .i64 (k : Int) := by rw [h15, eval_put_ne _ _ _ _ (by decide)]; exact e14_282
  have e15_287 : a15.eval (.tmp 287) = .pointer (some ⟨g, 40 + k * 16, none⟩) := by rw [h15, eval_put_ne _ _ _ _ (by decide)]; exact e14_287
  have e15_293 : a15.eval (.tmp 293) = .pointer (some ⟨g, 40 + i * 16, none⟩) := by rw [h15, eval_put_ne _ _ _ _ (by decide)]; exact e14_293
  have e15_295 : a15.eval (.tmp 295) = .pointer (some ⟨g, 0, none⟩) := by rw [h15]; exact eval_put_eq _ _ _ (by rw [sz14]; decide)
  clear e14_279 e14_280 e14_281 e14_282 e14_287 e14_293 sz14
  refine takeH (v := .pointer (some ⟨g, 40, none⟩)) opB35_17 opB35_ns (by kernel_rfl) (by kernel_rfl) HPN (fun w hw o ho => run_fieldN ho e15_295 w) hH ?_
  refine wpAnyH_as (l' := #[true, true, true, true, true, true, true, true, true, false, true, true, true, true, true, false, true, true, false, false, false, false, false, false]) (by kernel_rfl) ?_
  obtain ⟨a16, h16⟩ : ∃ a' : Act, a' = a15.put (some 296) (.pointer (some ⟨g, 40, none⟩)) := ⟨_, rfl⟩
  rw [← h16]
  have sz16 : a16.tmps.size = 341 := by rw [h16, size_put]; exact sz15
  have e16_280 : a16.eval (.tmp 280) = .int .i64 (i : Int) := by rw [h16, eval_put_ne _ _ _ _ (by decide)]; exact e15_280
  have e16_281 : a16.eval (.tmp 281) = .pointer (some ⟨g, 0, none⟩) := by rw [h16, eval_put_ne _ _ _ _ (by decide)]; exact e15_281
  have e16_282 : a16.eval (.tmp 282) = .int .i64 (k : Int) := by rw [h16, eval_put_ne _ _ _ _ (by decide)]; exact e15_282
  have e16_287 : a16.eval (.tmp 287) = .pointer (some ⟨g, 40 + k * 16, none⟩) := by rw [h16, eval_put_ne _ _ _ _ (by decide)]; exact e15_287
  have e16_293 : a16.eval (.tmp 293) = .pointer (some ⟨g, 40 + i * 16, none⟩) := by rw [h16, eval_put_ne _ _ _ _ (by decide)]; exact e15_293
  have e16_296 : a16.eval (.tmp 296) = .pointer (some ⟨g, 40, none⟩) := by rw [h16]; exact eval_put_eq _ _ _ (by rw [sz15]; decide)
  clear e15_280 e15_281 e15_282 e15_287 e15_293 e15_295 sz15
  refine takeH (v := .pointer (some ⟨g, 0, none⟩)) opB35_20 opB35_ns (by kernel_rfl) (by kernel_rfl) HPN (fun w hw o ho => run_nilCheck ho e16_281 w) hH ?_
  refine wpAnyH_as (l' := #[true, true, true, true, true, true, true, true, true, false, true, true, true, true, true, false, true, true, false, false, true, false, false, false]) (by kernel_rfl) ?_
  obtain ⟨a17, h17⟩ : ∃ a' : Act, a' = a16.put (some 298) (.pointer (some ⟨g, 0, none⟩)) := ⟨_, rfl⟩
  rw [← h17]
  have sz17 : a17.tmps.size = 341 := by rw [h17, size_put]; exact sz16
  have e17_280 : a17.eval (.tmp 280) = .int .i64 (i : Int) := by rw [h17, eval_put_ne _ _ _ _ (by decide)]; exact e16_280
  have e17_282 : a17.eval (.tmp 282) = .int .i64 (k : Int) := by rw [h17, eval_put_ne _ _ _ _ (by decide)]; exact e16_282
  have e17_287 : a17.eval (.tmp 287) = .pointer (some ⟨g, 40 + k * 16, none⟩) := by rw [h17, eval_put_ne _ _ _ _ (by decide)]; exact e16_287
  have e17_293 : a17.eval (.tmp 293) = .pointer (some ⟨g, 40 + i * 16, none⟩) := by rw [h17, eval_put_ne _ _ _ _ (by decide)]; exact e16_293
  have e17_296 : a17.eval (.tmp 296) = .pointer (some ⟨g, 40, none⟩) := by rw [h17, eval_put_ne _ _ _ _ (by decide)]; exact e16_296
  have e17_298 : a17.eval (.tmp 298) = .pointer (some ⟨g, 0, none⟩) := by rw [h17]; exact eval_put_eq _ _ _ (by rw [sz16]; decide)
  clear e16_280 e16_281 e16_282 e16_287 e16_293 e16_296 sz16
  refine takeH (v := .pointer (some ⟨g, 40, none⟩)) opB35_21 opB35_ns (by kernel_rfl) (by kernel_rfl) HPN (fun w hw o ho => run_fieldN ho e17_298 w) hH ?_
  refine wpAnyH_as (l' := #[true, true, true, true, true, true, true, true, true, false, true, true, true, true, true, false, true, true, false, false, true, true, false, false]) (by kernel_rfl) ?_
  obtain ⟨a18, h18⟩ : ∃ a' : Act, a' = a17.put (some 299) (.pointer (some ⟨g, 40, none⟩)) := ⟨_, rfl⟩
  rw [← h18]
  have sz18 : a18.tmps.size = 341 := by rw [h18, size_put]; exact sz17
  have e18_280 : a18.eval (.tmp 280) = .int .i64 (i : Int) := by rw [h18, eval_put_ne _ _ _ _ (by decide)]; exact e17_280
  have e18_282 : a18.eval (.tmp 282) = .int .i64 (k : Int) := by rw [h18, eval_put_ne _ _ _ _ (by decide)]; exact e17_282
  have e18_287 : a18.eval (.tmp 287) = .pointer (some ⟨g, 40 + k * 16, none⟩) := by rw [h18, eval_put_ne _ _ _ _ (by decide)]; exact e17_287
  have e18_293 : a18.eval (.tmp 293) = .pointer (some ⟨g, 40 + i * 16, none⟩) := by rw [h18, eval_put_ne _ _ _ _ (by decide)]; exact e17_293
  have e18_296 : a18.eval (.tmp 296) = .pointer (some ⟨g, 40, none⟩) := by rw [h18, eval_put_ne _ _ _ _ (by decide)]; exact e17_296
  have e18_299 : a18.eval (.tmp 299) = .pointer (some ⟨g, 40, none⟩) := by rw [h18]; exact eval_put_eq _ _ _ (by rw [sz17]; decide)
  clear e17_280 e17_282 e17_287 e17_293 e17_296 e17_298 sz17
  refine readyLd2 (v := .agg (VI .i64 (dg (ns k)))) (u := .agg (VI .i64 (dg (ns i)))) opB35_9 opB35_15 (by decide) (by decide) (by kernel_rfl) (by kernel_rfl) (by kernel_rfl) hH (fun o ho => run_loadN (dg_len _) ho e18_287 _ (hV.bn.rangeN hk8.out)) (fun o ho => run_loadN (dg_len _) ho e18_293 _ (hV.bn.rangeN hi8.out)) (fun o ho => run_loadN (dg_len _) ho ((eval_put_ne _ _ _ _ (by decide)).trans e18_287) _ (hV.bn.rangeN hk8.out)) (fun o ho => run_loadN (dg_len _) ho ((eval_put_ne _ _ _ _ (by decide)).trans e18_293) _ (hV.bn.rangeN hi8.out)) ?_
  refine wpAnyH_as (l' := #[true, true, true, true, true, true, true, true, true, true, true, true, true, true, true, true, true, true, false, false, true, true, false, false]) (by kernel_rfl) ?_
  obtain ⟨a19, h19⟩ : ∃ a' : Act, a' = a18.put (some 288) (.agg (VI .i64 (dg (ns k)))) := ⟨_, rfl⟩
  rw [← h19]
  have sz19 : a19.tmps.size = 341 := by rw [h19, size_put]; exact sz18
  have e19_280 : a19.eval (.tmp 280) = .int .i64 (i : Int) := by rw [h19, eval_put_ne _ _ _ _ (by decide)]; exact e18_280
  have e19_282 : a19.eval (.tmp 282) = .int .i64 (k : Int) := by rw [h19, eval_put_ne _ _ _ _ (by decide)]; exact e18_282
  have e19_296 : a19.eval (.tmp 296) = .pointer (some ⟨g, 40, none⟩) := by rw [h19, eval_put_ne _ _ _ _ (by decide)]; exact e18_296
  have e19_299 : a19.eval (.tmp 299) = .pointer (some ⟨g, 40, none⟩) := by rw [h19, eval_put_ne _ _ _ _ (by decide)]; exact e18_299
  have e19_288 : a19.eval (.tmp 288) = .agg (VI .i64 (dg (ns k))) := by rw [h19]; exact eval_put_eq _ _ _ (by rw [sz18]; decide)
  clear e18_280 e18_282 e18_287 e18_293 e18_296 e18_299 sz18
  obtain ⟨a20, h20⟩ : ∃ a' : Act, a' = a19.put (some 294) (.agg (VI .i64 (dg (ns i)))) := ⟨_, rfl⟩
  rw [← h20]
  have sz20 : a20.tmps.size = 341 := by rw [h20, size_put]; exact sz19
  have e20_280 : a20.eval (.tmp 280) = .int .i64 (i : Int) := by rw [h20, eval_put_ne _ _ _ _ (by decide)]; exact e19_280
  have e20_282 : a20.eval (.tmp 282) = .int .i64 (k : Int) := by rw [h20, eval_put_ne _ _ _ _ (by decide)]; exact e19_282
  have e20_296 : a20.eval (.tmp 296) = .pointer (some ⟨g, 40, none⟩) := by rw [h20, eval_put_ne _ _ _ _ (by decide)]; exact e19_296
  have e20_299 : a20.eval (.tmp 299) = .pointer (some ⟨g, 40, none⟩) := by rw [h20, eval_put_ne _ _ _ _ (by decide)]; exact e19_299
  have e20_288 : a20.eval (.tmp 288) = .agg (VI .i64 (dg (ns k))) := by rw [h20, eval_put_ne _ _ _ _ (by decide)]; exact e19_288
  have e20_294 : a20.eval (.tmp 294) = .agg (VI .i64 (dg (ns i))) := by rw [h20]; exact eval_put_eq _ _ _ (by rw [sz19]; decide)
  clear e19_280 e19_282 e19_288 e19_296 e19_299 sz19
  have hV1 := hV
  refine takeH (v := .pointer (some ⟨g, 40 + i * 16, none⟩)) opB35_18 opB35_ns (by kernel_rfl) (by kernel_rfl) HPN (fun w hw o ho => run_indexN hi8.out ho e20_296 e20_280 w) hH ?_
  refine wpAnyH_as (l' := #[true, true, true, true, true, true, true, true, true, true, true, true, true, true, true, true, true, true, true, false, true, true, false, false]) (by kernel_rfl) ?_
  obtain ⟨a21, h21⟩ : ∃ a' : Act, a' = a20.put (some 297) (.pointer (some ⟨g, 40 + i * 16, none⟩)) := ⟨_, rfl⟩
  rw [← h21]
  have sz21 : a21.tmps.size = 341 := by rw [h21, size_put]; exact sz20
  have e21_282 : a21.eval (.tmp 282) = .int .i64 (k : Int) := by rw [h21, eval_put_ne _ _ _ _ (by decide)]; exact e20_282
  have e21_299 : a21.eval (.tmp 299) = .pointer (some ⟨g, 40, none⟩) := by rw [h21, eval_put_ne _ _ _ _ (by decide)]; exact e20_299
  have e21_288 : a21.eval (.tmp 288) = .agg (VI .i64 (dg (ns k))) := by rw [h21, eval_put_ne _ _ _ _ (by decide)]; exact e20_288
  have e21_294 : a21.eval (.tmp 294) = .agg (VI .i64 (dg (ns i))) := by rw [h21, eval_put_ne _ _ _ _ (by decide)]; exact e20_294
  have e21_297 : a21.eval (.tmp 297) = .pointer (some ⟨g, 40 + i * 16, none⟩) := by rw [h21]; exact eval_put_eq _ _ _ (by rw [sz20]; decide)
  clear e20_280 e20_282 e20_288 e20_294 e20_296 e20_299 sz20
  refine readyH opB35_19 (by kernel_rfl) (fun o ho hd => wp_store_mid _ _ _ ho g (40 + i * 16) (VI .i64 (dg (ns k))) e21_297 e21_288 (by rw [VI_size, dg_len]; exact hV1.bn.thereN hi8.out) (by rw [VI_size, dg_len]; kernel_rfl) (VI_one _ _) ?_)
  have hE0 := hV1.setN hi8.out (m := ns k) (hV.bn.nl _ hk8.out)
  rw [hd]
  refine ⟨hE0.row mx, ?_⟩
  have hH := hE0.row mx
  refine wpAnyH_as (l' := #[true, true, true, true, true, true, true, true, true, true, true, true, true, true, true, true, true, true, true, true, true, true, false, false]) (by kernel_rfl) ?_
  show wpAnyH _ _ _ _ _ _ _ (a21.put none undef) _
  rw [show a21.put none undef = a21 from rfl]
  refine takeH (v := .pointer (some ⟨g, 40 + k * 16, none⟩)) opB35_22 opB35_ns (by kernel_rfl) (by kernel_rfl) HPN (fun w hw o ho => run_indexN hk8.out ho e21_299 e21_282 w) hH ?_
  refine wpAnyH_as (l' := #[true, true, true, true, true, true, true, true, true, true, true, true, true, true, true, true, true, true, true, true, true, true, true, false]) (by kernel_rfl) ?_
  obtain ⟨a22, h22⟩ : ∃ a' : Act, a' = a21.put (some 300) (.pointer (some ⟨g, 40 + k * 16, none⟩)) := ⟨_, rfl⟩
  rw [← h22]
  have sz22 : a22.tmps.size = 341 := by rw [h22, size_put]; exact sz21
  have e22_294 : a22.eval (.tmp 294) = .agg (VI .i64 (dg (ns i))) := by rw [h22, eval_put_ne _ _ _ _ (by decide)]; exact e21_294
  have e22_300 : a22.eval (.tmp 300) = .pointer (some ⟨g, 40 + k * 16, none⟩) := by rw [h22]; exact eval_put_eq _ _ _ (by rw [sz21]; decide)
  clear e21_282 e21_288 e21_294 e21_297 e21_299 sz21
  refine readyH opB35_23 (by kernel_rfl) (fun o ho hd => wp_store_mid _ _ _ ho g (40 + k * 16) (VI .i64 (dg (ns i))) e22_300 e22_294 (by rw [VI_size, dg_len]; exact hE0.bn.thereN hk8.out) (by rw [VI_size, dg_len]; kernel_rfl) (VI_one _ _) ?_)
  have hE1 := hE0.setN hk8.out (m := ns i) (hV.bn.nl _ hi8.out)
  rw [hd]
  refine ⟨hE1.row mx, ?_⟩
  have hH := hE1.row mx
  refine wpAnyH_as (l' := #[true, true, true, true, true, true, true, true, true, true, true, true, true, true, true, true, true, true, true, true, true, true, true, true]) (by kernel_rfl) ?_
  show wpAnyH _ _ _ _ _ _ _ (a22.put none undef) _
  rw [show a22.put none undef = a22 from rfl]
  refine wpAnyH_done (by kernel_rfl) ?_ _
  have hF : a22 = ⟨#[.pointer (some ⟨g, 0, none⟩), rv, c2, c3, c4, .pointer (some ⟨gx, 0, none⟩), .int .i64 (i : Int), .int .i64 (k : Int), .int .i64 (c : Int), c9, c10, c11, c12, c13, c14, c15, c16, c17, c18, c19, c20, c21, c22, c23, c24, c25, c26, c27, c28, c29, c30, c31, c32, c33, c34, c35, c36, c37, c38, c39, c40, c41, c42, c43, c44, c45, c46, c47, c48, c49, c50, c51, c52, c53, c54, c55, c56, c57, c58, c59, c60, c61, c62, c63, c64, c65, c66, c67, c68, c69, c70, c71, c72, c73, c74, c75, c76, c77, c78, c79, c80, c81, c82, c83, c84, c85, c86, c87, c88, c89, c90, c91, c92, c93, c94, c95, c96, c97, c98, c99, c100, c101, c102, c103, c104, c105, c106, c107, c108, c109, c110, c111, c112, c113, c114, c115, c116, c117, c118, c119, c120, c121, c122, c123, c124, c125, c126, c127, c128, c129, c130, c131, c132, c133, c134, c135, c136, c137, c138, c139, c140, c141, c142, c143, c144, c145, c146, c147, c148, c149, c150, c151, c152, c153, c154, c155, c156, c157, c158, c159, c160, c161, c162, c163, c164, c165, c166, c167, c168, c169, c170, c171, c172, c173, c174, c175, c176, c177, c178, c179, c180, c181, c182, c183, c184, c185, c186, c187, c188, c189, c190, c191, c192, c193, c194, c195, c196, c197, c198, c199, c200, c201, c202, c203, c204, c205, c206, c207, c208, c209, c210, c211, c212, c213, c214, c215, c216, c217, c218, c219, c220, c221, c222, c223, c224, c225, c226, c227, c228, c229, c230, c231, c232, c233, c234, c235, c236, c237, c238, c239, c240, c241, c242, c243, c244, c245, c246, c247, c248, c249, c250, c251, c252, c253, c254, c255, c256, c257, c258, c259, c260, c261, c262, c263, c264, c265, c266, c267, c268, c269, c270, c271, c272, c273, c274, c275, c276, c277, c278, .pointer (some ⟨g, 0, none⟩), .int .i64 (i : Int), .pointer (some ⟨g, 0, none⟩), .int .i64 (k : Int), .pointer (some ⟨g, 0, none⟩), .int .i64 (k : Int), .pointer (some ⟨g, 0, none⟩), .pointer (some ⟨g, 40, none⟩), .pointer (some ⟨g, 40 + k * 16, none⟩), .agg (VI .i64 (dg (ns k))), .pointer (some ⟨g, 0, none⟩), .int .i64 (i : Int), .pointer (some ⟨g, 0, none⟩), .pointer (some ⟨g, 40, none⟩), .pointer (some ⟨g, 40 + i * 16, none⟩), .agg (VI .i64 (dg (ns i))), .pointer (some ⟨g, 0, none⟩), .pointer (some ⟨g, 40, none⟩), .pointer (some ⟨g, 40 + i * 16, none⟩), .pointer (some ⟨g, 0, none⟩), .pointer (some ⟨g, 40, none⟩), .pointer (some ⟨g, 40 + k * 16, none⟩), c301, c302, c303, c304, c305, c306, c307, c308, c309, c310, c311, c312, c313, c314, c315, c316, c317, c318, c319, c320, c321, c322, c323, c324, c325, c326, c327, c328, c329, c330, c331, c332, c333, c334, c335, c336, c337, c338, c339, c340], []⟩ := by rw [h22, h21, h20, h19, h18, h17, h16, h15, h14, h13, h12, h11, h10, h9, h8, h7, h6, h5, h4, h3, h2, h1, ha]; kernel_rfl
  rw [hF]
  exact H _ hE1
end Go.Proofs.Ytacofgmnmofkpaa
