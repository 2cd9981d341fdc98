import Derived.Test.YtacofgmnmofkpaaMfal
import Derived.Test.YtacofgmnmofkpaaMfam
namespace Go.Proofs.Ytacofgmnmofkpaa
set_option linter.unusedSimpArgs false
set_option linter.unusedVariables false
open Go.ChangeShapes Go.WideShapes Go.ChangeAt Go.RowKit Go.Pin Go.Fld
noncomputable def rgB21 : Code := ((Try.f17.body.bind (findReg 21)).getD .skip)
noncomputable def opB21 : Array Oper := opsOf rgB21
theorem rgB21_is : rgB21 = .region 21 opB21 true := by kernel_rfl
theorem opB21_ns : Region.noSelect opB21 = true := by kernel_rfl
theorem opB21_0 : opIs opB21 0 (.move (.tmp 0)) (some 163) := by unfold opIs; kernel_rfl
theorem opB21_1 : opIs opB21 1 (.move (.tmp 8)) (some 164) := by unfold opIs; kernel_rfl
theorem opB21_2 : opIs opB21 2 (.move (.tmp 1)) (some 165) := by unfold opIs; kernel_rfl
theorem opB21_3 : opIs opB21 3 (.move (.tmp 0)) (some 166) := by unfold opIs; kernel_rfl
theorem opB21_4 : opIs opB21 4 (.move (.tmp 6)) (some 167) := by unfold opIs; kernel_rfl
theorem opB21_5 : opIs opB21 5 (.nilCheck (.tmp 166)) (some 168) := by unfold opIs; kernel_rfl
theorem opB21_6 : opIs opB21 6 (.fieldAddr 53 (.tmp 168) 0) (some 169) := by unfold opIs; kernel_rfl
theorem opB21_7 : opIs opB21 7 (.indexAddr 48 (.tmp 169) (.tmp 167)) (some 170) := by unfold opIs; kernel_rfl
theorem opB21_8 : opIs opB21 8 (.load 47 (.tmp 170)) (some 171) := by unfold opIs; kernel_rfl
theorem opB21_9 : opIs opB21 9 (.call { callee := .value (.func 41), args := #[.tmp 165, .tmp 171], argTypes := #[23, 47] }) (some 172) := by unfold opIs; kernel_rfl
theorem opB21_10 : opIs opB21 10 (.nilCheck (.tmp 163)) (some 173) := by unfold opIs; kernel_rfl
theorem opB21_11 : opIs opB21 11 (.fieldAddr 53 (.tmp 173) 0) (some 174) := by unfold opIs; kernel_rfl
theorem opB21_12 : opIs opB21 12 (.indexAddr 48 (.tmp 174) (.tmp 164)) (some 175) := by unfold opIs; kernel_rfl
theorem opB21_13 : opIs opB21 13 (.store 47 (.tmp 175) (.tmp 172)) (none) := by unfold opIs; kernel_rfl
set_option maxRecDepth 100000 in
set_option maxHeartbeats 4000000 in
theorem bk_r21 {Q : Exit → Act → World → Prop} {B : Nat} {w W : World} {rv vs : Value} {lr ll : List (Int × Int)} {g gx : Nat} {es : Nat → List Int} {ns : Nat → Nat} {bx : List (Nat × Obj)} {i k c : Nat} {D : List Int} {K0 A0 B0 C0 N T : Int} {z : List Int} {c2 c3 c4 c9 c10 c11 c12 c13 c14 c15 c16 c17 c18 c19 c20 c21 c22 c23 c24 c25 c26 c27 c28 c29 c30 c31 c32 c33 c34 c35 c36 c37 c38 c39 c40 c41 c42 c43 c44 c45 c46 c47 c48 c49 c50 c51 c52 c53 c54 c55 c56 c57 c58 c59 c60 c61 c62 c63 c64 c65 c66 c67 c68 c69 c70 c71 c72 c73 c74 c75 c76 c77 c78 c79 c80 c81 c82 c83 c84 c85 c86 c87 c88 c89 c90 c91 c92 c93 c94 c95 c96 c97 c98 c99 c100 c101 c102 c103 c104 c105 c106 c107 c108 c109 c110 c111 c112 c113 c114 c115 c116 c117 c118 c119 c120 c121 c122 c123 c124 c125 c126 c127 c128 c129 c130 c131 c132 c133 c134 c135 c136 c137 c138 c139 c140 c141 c142 c143 c144 c145 c146 c147 c148 c149 c150 c151 c152 c153 c154 c155 c156 c157 c158 c159 c160 c161 c162 c163 c164 c165 c166 c167 c168 c169 c170 c171 c172 c173 c174 c175 c176 c177 c178 c179 c180 c181 c182 c183 c184 c185 c186 c187 c188 c189 c190 c191 c192 c193 c194 c195 c196 c197 c198 c199 c200 c201 c202 c203 c204 c205 c206 c207 c208 c209 c210 c211 c212 c213 c214 c215 c216 c217 c218 c219 c220 c221 c222 c223 c224 c225 c226 c227 c228 c229 c230 c231 c232 c233 c234 c235 c236 c237 c238 c239 c240 c241 c242 c243 c244 c245 c246 c247 c248 c249 c250 c251 c252 c253 c254 c255 c256 c257 c258 c259 c260 c261 c262 c263 c264 c265 c266 c267 c268 c269 c270 c271 c272 c273 c274 c275 c276 c277 c278 c279 c280 c281 c282 c283 c284 c285 c286 c287 c288 c289 c290 c291 c292 c293 c294 c295 c296 c297 c298 c299 c300 c301 c302 c303 c304 c305 c306 c307 c308 c309 c310 c311 c312 c313 c314 c315 c316 c317 c318 c319 c320 c321 c322 c323 c324 c325 c326 c327 c328 c329 c330 c331 c332 c333 c334 c335 c336 c337 c338 c339 c340 : Value}
    (hi8 : Hid (i < 8)) (hk8 : Hid (k < 8)) (hc8 : Hid (c < 8)) (LD : Hid (D.length = 32))
    (HC : Hid (∀ B w rv l bx wr, Ev B w rv l bx wr → l.length ≤ 1000000 → Calls Try.prog 41 #[rv, .agg (VI .u64 (es i))] wr fun e w' => e = .returned (.agg (VI .u64 z)) ∧ Ev B w rv (l ++ [(3, 4)]) bx w')) (hl : Hid (lr.length ≤ 1000000)) (lz : Hid (Lim z))
    (mx : (gx, stO K0 A0 B0 C0 D N T) ∈ bx)
    (XX : SB B w rv lr g es ns vs ll bx W)
    (HPN : ∀ c (a : Act) d v w, Q (.panic c) (a.put d v) w → Q (.panic c) a w)
    (H : ∀ W', SB B w rv (lr ++ [(3, 4)]) g (upd es c z) ns vs ll bx W' → Q .normal ⟨#[.pointer (some ⟨g, 0, none⟩), rv, c2, c3, c4, .pointer (some ⟨gx, 0, none⟩), .int .i64 (i : Int), .int .i64 (k : Int), .int .i64 (c : Int), c9, c10, c11, c12, c13, c14, c15, c16, c17, c18, c19, c20, c21, c22, c23, c24, c25, c26, c27, c28, c29, c30, c31, c32, c33, c34, c35, c36, c37, c38, c39, c40, c41, c42, c43, c44, c45, c46, c47, c48, c49, c50, c51, c52, c53, c54, c55, c56, c57, c58, c59, c60, c61, c62, c63, c64, c65, c66, c67, c68, c69, c70, c71, c72, c73, c74, c75, c76, c77, c78, c79, c80, c81, c82, c83, c84, c85, c86, c87, c88, c89, c90, c91, c92, c93, c94, c95, c96, c97, c98, c99, c100, c101, c102, c103, c104, c105, c106, c107, c108, c109, c110, c111, c112, c113, c114, c115, c116, c117, c118, c119, c120, c121, c122, c123, c124, c125, c126, c127, c128, c129, c130, c131, c132, c133, c134, c135, c136, c137, c138, c139, c140, c141, c142, c143, c144, c145, c146, c147, c148, c149, c150, c151, c152, c153, c154, c155, c156, c157, c158, c159, c160, c161, c162, .pointer (some ⟨g, 0, none⟩), .int .i64 (c : Int), rv, .pointer (some ⟨g, 0, none⟩), .int .i64 (i : Int), .pointer (some ⟨g, 0, none⟩), .pointer (some ⟨g, 0, none⟩), .pointer (some ⟨g, i * 5, none⟩), .agg (VI .u64 (es i)), .agg (VI .u64 z), .pointer (some ⟨g, 0, none⟩), .pointer (some ⟨g, 0, none⟩), .pointer (some ⟨g, c * 5, none⟩), c176, c177, c178, c179, c180, c181, c182, c183, c184, c185, c186, c187, c188, c189, c190, c191, c192, c193, c194, c195, c196, c197, c198, c199, c200, c201, c202, c203, c204, c205, c206, c207, c208, c209, c210, c211, c212, c213, c214, c215, c216, c217, c218, c219, c220, c221, c222, c223, c224, c225, c226, c227, c228, c229, c230, c231, c232, c233, c234, c235, c236, c237, c238, c239, c240, c241, c242, c243, c244, c245, c246, c247, c248, c249, c250, c251, c252, c253, c254, c255, c256, c257, c258, c259, c260, c261, c262, c263, c264, c265, c266, c267, c268, c269, c270, c271, c272, c273, c274, c275, c276, c277, c278, c279, c280, c281, c282, c283, c284, c285, c286, c287, c288, c289, c290, c291, c292, c293, c294, c295, c296, c297, c298, c299, c300, c301, c302, c303, c304, c305, c306, c307, c308, c309, c310, c311, c312, c313, c314, c315, c316, c317, c318, c319, c320, c321, c322, c323, c324, c325, c326, c327, c328, c329, c330, c331, c332, c333, c334, c335, c336, c337, c338, c339, c340], []⟩ W') :
    Code.wp Try.prog rgB21 Q ⟨#[.pointer (some ⟨g, 0, none⟩), rv, c2, c3, c4, .pointer (some ⟨gx, 0, none⟩), .int .i64 (i : Int), .int .i64 (k : Int), .int .i64 (c : Int), c9, c10, c11, c12, c13, c14, c15, c16, c17, c18, c19, c20, c21, c22, c23, c24, c25, c26, c27, c28, c29, c30, c31, c32, c33, c34, c35, c36, c37, c38, c39, c40, c41, c42, c43, c44, c45, c46, c47, c48, c49, c50, c51, c52, c53, c54, c55, c56, c57, c58, c59, c60, c61, c62, c63, c64, c65, c66, c67, c68, c69, c70, c71, c72, c73, c74, c75, c76, c77, c78, c79, c80, c81, c82, c83, c84, c85, c86, c87, c88, c89, c90, c91, c92, c93, c94, c95, c96, c97, c98, c99, c100, c101, c102, c103, c104, c105, c106, c107, c108, c109, c110, c111, c112, c113, c114, c115, c116, c117, c118, c119, c120, c121, c122, c123, c124, c125, c126, c127, c128, c129, c130, c131, c132, c133, c134, c135, c136, c137, c138, c139, c140, c141, c142, c143, c144, c145, c146, c147, c148, c149, c150, c151, c152, c153, c154, c155, c156, c157, c158, c159, c160, c161, c162, c163, c164, c165, c166, c167, c168, c169, c170, c171, c172, c173, c174, c175, c176, c177, c178, c179, c180, c181, c182, c183, c184, c185, c186, c187, c188, c189, c190, c191, c192, c193, c194, c195, c196, c197, c198, c199, c200, c201, c202, c203, c204, c205, c206, c207, c208, c209, c210, c211, c212, c213, c214, c215, c216, c217, c218, c219, c220, c221, c222, c223, c224, c225, c226, c227, c228, c229, c230, c231, c232, c233, c234, c235, c236, c237, c238, c239, c240, c241, c242, c243, c244, c245, c246, c247, c248, c249, c250, c251, c252, c253, c254, c255, c256, c257, c258, c259, c260, c261, c262, c263, c264, c265, c266, c267, c268, c269, c270, c271, c272, c273, c274, c275, c276, c277, c278, c279, c280, c281, c282, c283, c284, c285, c286, c287, c288, c289, c290, c291, c292, c293, c294, c295, c296, c297, c298, c299, c300, c301, c302, c303, c304, c305, c306, c307, c308, c309, c310, c311, c312, c313, c314, c315, c316, c317, c318, c319, c320, c321, c322, c323, c324, c325, c326, c327, c328, c329, c330, c331, c332, c333, c334, c335, c336, c337, c338, c339, c340], []⟩ W := by
  rw [rgB21_is]
  refine wp_region_held_drew (S := fun Y => Y.heap[gx]? = some (stO K0 A0 B0 C0 D N T)) (by kernel_rfl) (XX.drew.row mx) (fun hH => ?_)
  have hV := XX.drew
  clear XX
  obtain ⟨V0, hV0⟩ : ∃ V, W.drew = V := ⟨_, rfl⟩
  rw [hV0] at hH hV ⊢
  clear hV0
  obtain ⟨a0, ha⟩ : ∃ a : Act, a = ⟨#[.pointer (some ⟨g, 0, none⟩), rv, c2, c3, c4, .pointer (some ⟨gx, 0, none⟩), .int .i64 (i : Int), .int .i64 (k : Int), .int .i64 (c : Int), c9, c10, c11, c12, c13, c14, c15, c16, c17, c18, c19, c20, c21, c22, c23, c24, c25, c26, c27, c28, c29, c30, c31, c32, c33, c34, c35, c36, c37, c38, c39, c40, c41, c42, c43, c44, c45, c46, c47, c48, c49, c50, c51, c52, c53, c54, c55, c56, c57, c58, c59, c60, c61, c62, c63, c64, c65, c66, c67, c68, c69, c70, c71, c72, c73, c74, c75, c76, c77, c78, c79, c80, c81, c82, c83, c84, c85, c86, c87, c88, c89, c90, c91, c92, c93, c94, c95, c96, c97, c98, c99, c100, c101, c102, c103, c104, c105, c106, c107, c108, c109, c110, c111, c112, c113, c114, c115, c116, c117, c118, c119, c120, c121, c122, c123, c124, c125, c126, c127, c128, c129, c130, c131, c132, c133, c134, c135, c136, c137, c138, c139, c140, c141, c142, c143, c144, c145, c146, c147, c148, c149, c150, c151, c152, c153, c154, c155, c156, c157, c158, c159, c160, c161, c162, c163, c164, c165, c166, c167, c168, c169, c170, c171, c172, c173, c174, c175, c176, c177, c178, c179, c180, c181, c182, c183, c184, c185, c186, c187, c188, c189, c190, c191, c192, c193, c194, c195, c196, c197, c198, c199, c200, c201, c202, c203, c204, c205, c206, c207, c208, c209, c210, c211, c212, c213, c214, c215, c216, c217, c218, c219, c220, c221, c222, c223, c224, c225, c226, c227, c228, c229, c230, c231, c232, c233, c234, c235, c236, c237, c238, c239, c240, c241, c242, c243, c244, c245, c246, c247, c248, c249, c250, c251, c252, c253, c254, c255, c256, c257, c258, c259, c260, c261, c262, c263, c264, c265, c266, c267, c268, c269, c270, c271, c272, c273, c274, c275, c276, c277, c278, c279, c280, c281, c282, c283, c284, c285, c286, c287, c288, c289, c290, c291, c292, c293, c294, c295, c296, c297, c298, c299, c300, c301, c302, c303, c304, c305, c306, c307, c308, c309, c310, c311, c312, c313, c314, c315, c316, c317, c318, c319, c320, c321, c322, c323, c324, c325, c326, c327, c328, c329, c330, c331, c332, c333, c334, c335, c336, c337, c338, c339, c340], []⟩ := ⟨_, rfl⟩
  have sz0 : a0.tmps.size = 341 := by rw [ha]; kernel_rfl
  have e0_0 : a0.eval (.tmp 0) = .pointer (some ⟨g, 0, none⟩) := by rw [ha]; kernel_rfl
  have e0_1 : a0.eval (.tmp 1) = rv := by rw [ha]; kernel_rfl
  have e0_6 : a0.eval (.tmp 6) = .int .i64 (i : Int) := by rw [ha]; kernel_rfl
  have e0_8 : a0.eval (.tmp 8) = .int .i64 (c : Int) := by rw [ha]; kernel_rfl
  rw [← ha]
  refine wpAnyH_as (l' := #[false, false, false, false, false, false, false, false, false, false, false, false, false, false]) (by kernel_rfl) ?_
  refine takeH (v := .pointer (some ⟨g, 0, none⟩)) opB21_0 opB21_ns (by kernel_rfl) (by kernel_rfl) HPN (fun w hw o ho => run_move ho e0_0 w) hH ?_
  refine wpAnyH_as (l' := #[true, false, false, false, false, false, false, false, false, false, false, false, false, false]) (by kernel_rfl) ?_
  obtain ⟨a1, h1⟩ : ∃ a' : Act, a' = a0.put (some 163) (.pointer (some ⟨g, 0, none⟩)) := ⟨_, rfl⟩
  rw [← h1]
  have sz1 : a1.tmps.size = 341 := by rw [h1, size_put]; exact sz0
  have e1_0 : a1.eval (.tmp 0) = .pointer (some ⟨g, 0, none⟩) := by rw [h1, eval_put_ne _ _ _ _ (by decide)]; exact e0_0
  have e1_1 : a1.eval (.tmp 1) = rv := by rw [h1, eval_put_ne _ _ _ _ (by decide)]; exact e0_1
  have e1_6 : a1.eval (.tmp 6) = .int .i64 (i : Int) := by rw [h1, eval_put_ne _ _ _ _ (by decide)]; exact e0_6
  have e1_8 : a1.eval (.tmp 8) = .int .i64 (c : Int) := by rw [h1, eval_put_ne _ _ _ _ (by decide)]; exact e0_8
  have e1_163 : a1.eval (.tmp 163) = .pointer (some ⟨g, 0, none⟩) := by rw [h1]; exact eval_put_eq _ _ _ (by rw [sz0]; decide)
  clear e0_0 e0_1 e0_6 e0_8 sz0
  refine takeH (v := .int .i64 (c : Int)) opB21_1 opB21_ns (by kernel_rfl) (by kernel_rfl) HPN (fun w hw o ho => run_move ho e1_8 w) hH ?_
  refine wpAnyH_as (l' := #[true, true, false, false, false, false, false, false, false, false, false, false, false, false]) (by kernel_rfl) ?_
  obtain ⟨a2, h2⟩ : ∃ a' : Act, a' = a1.put (some 164) (.int .i64 (c : Int)) := ⟨_, rfl⟩
  rw [← h2]
  have sz2 : a2.tmps.size = 341 := by rw [h2, size_put]; exact sz1
  have e2_0 : a2.eval (.tmp 0) = .pointer (some ⟨g, 0, none⟩) := by rw [h2, eval_put_ne _ _ _ _ (by decide)]; exact e1_0
  have e2_1 : a2.eval (.tmp 1) = rv := by rw [h2, eval_put_ne _ _ _ _ (by decide)]; exact e1_1
  have e2_6 : a2.eval (.tmp 6) = .int .i64 (i : Int) := by rw [h2, eval_put_ne _ _ _ _ (by decide)]; exact e1_6
  have e2_163 : a2.eval (.tmp 163) = .pointer (some ⟨g, 0, none⟩) := by rw [h2, eval_put_ne _ _ _ _ (by decide)]; exact e1_163
  have e2_164 : a2.eval (.tmp 164) = .int .i64 (c : Int) := by rw [h2]; exact eval_put_eq _ _ _ (by rw [sz1]; decide)
  clear e1_0 e1_1 e1_163 e1_6 e1_8 sz1
  refine takeH (v := rv) opB21_2 opB21_ns (by kernel_rfl) (by kernel_rfl) HPN (fun w hw o ho => run_move ho e2_1 w) hH ?_
  refine wpAnyH_as (l' := #[true, true, true, false, false, false, false, false, false, false, false, false, false, false]) (by kernel_rfl) ?_
  obtain ⟨a3, h3⟩ : ∃ a' : Act, a' = a2.put (some 165) (rv) := ⟨_, rfl⟩
  rw [← h3]
  have sz3 : a3.tmps.size = 341 := by rw [h3, size_put]; exact sz2
  have e3_0 : a3.eval (.tmp 0) = .pointer (some ⟨g, 0, none⟩) := by rw [h3, eval_put_ne _ _ _ _ (by decide)]; exact e2_0
  have e3_6 : a3.eval (.tmp 6) = .int .i64 (i : Int) := by rw [h3, eval_put_ne _ _ _ _ (by decide)]; exact e2_6
  have e3_163 : a3.eval (.tmp 163) = .pointer (some ⟨g, 0, none⟩) := by rw [h3, eval_put_ne _ _ _ _ (by decide)]; exact e2_163
  have e3_164 : a3.eval (.tmp 164) = .int .i64 (c : Int) := by rw [h3, eval_put_ne _ _ _ _ (by decide)]; exact e2_164
  have e3_165 : a3.eval (.tmp 165) = rv := by rw [h3]; exact eval_put_eq _ _ _ (by rw [sz2]; decide)
  clear e2_0 e2_1 e2_163 e2_164 e2_6 sz2
  refine takeH (v := .pointer (some ⟨g, 0, none⟩)) opB21_3 opB21_ns (by kernel_rfl) (by kernel_rfl) HPN (fun w hw o ho => run_move ho e3_0 w) hH ?_
  refine wpAnyH_as (l' := #[true, true, true, true, false, false, false, false, false, false, false, false, false, false]) (by kernel_rfl) ?_
  obtain ⟨a4, h4⟩ : ∃ a' : Act, a' = a3.put (some 166) (.pointer (some ⟨g, 0, none⟩)) := ⟨_, rfl⟩
  rw [← h4]
  have sz4 : a4.tmps.size = 341 := by rw [h4, size_put]; exact sz3
  have e4_6 : a4.eval (.tmp 6) = .int .i64 (i : Int) := by rw [h4, eval_put_ne _ _ _ _ (by decide)]; exact e3_6
  have e4_163 : a4.eval (.tmp 163) = .pointer (some ⟨g, 0, none⟩) := by rw [h4, eval_put_ne _ _ _ _ (by decide)]; exact e3_163
  have e4_164 : a4.eval (.tmp 164) = .int .i64 (c : Int) := by rw [h4, eval_put_ne _ _ _ _ (by decide)]; exact e3_164
  have e4_165 : a4.eval (.tmp 165) = rv := by rw [h4, eval_put_ne _ _ _ _ (by decide)]; exact e3_165
  have e4_166 : a4.eval (.tmp 166) = .pointer (some ⟨g, 0, none⟩) := by rw [h4]; exact eval_put_eq _ _ _ (by rw [sz3]; decide)
  clear e3_0 e3_163 e3_164 e3_165 e3_6 sz3
  refine takeH (v := .int .i64 (i : Int)) opB21_4 opB21_ns (by kernel_rfl) (by kernel_rfl) HPN (fun w hw o ho => run_move ho e4_6 w) hH ?_
  refine wpAnyH_as (l' := #[true, true, true, true, true, false, false, false, false, false, false, false, false, false]) (by kernel_rfl) ?_
  obtain ⟨a5, h5⟩ : ∃ a' : Act, a' = a4.put (some 167) (.int .i64 (i : Int)) := ⟨_, rfl⟩
  rw [← h5]
  have sz5 : a5.tmps.size = 341 := by rw [h5, size_put]; exact sz4
  have e5_163 : a5.eval (.tmp 163) = .pointer (some ⟨g, 0, none⟩) := by rw [h5, eval_put_ne _ _ _ _ (by decide)]; exact e4_163
  have e5_164 : a5.eval (.tmp 164) = .int .i64 (c : Int) := by rw [h5, eval_put_ne _ _ _ _ (by decide)]; exact e4_164
  have e5_165 : a5.eval (.tmp 165) = rv := by rw [h5, eval_put_ne _ _ _ _ (by decide)]; exact e4_165
  have e5_166 : a5.eval (.tmp 166) = .pointer (some ⟨g, 0, none⟩) := by rw [h5, eval_put_ne _ _ _ _ (by decide)]; exact e4_166
  have e5_167 : a5.eval (.tmp 167) = .int .i64 (i : Int) := by rw [h5]; exact eval_put_eq _ _ _ (by rw [sz4]; decide)
  clear e4_163 e4_164 e4_165 e4_166 e4_6 sz4
  refine takeH (v := .pointer (some ⟨g, 0, none⟩)) opB21_5 opB21_ns (by kernel_rfl) (by kernel_rfl) HPN (fun w hw o ho => run_nilCheck ho e5_166 w) hH ?_
  refine wpAnyH_as (l' := #[true, true, true, true, true, true, false, false, false, false, false, false, false, false]) (by kernel_rfl) ?_
  obtain ⟨a6, h6⟩ : ∃ a' : Act, a' = a5.put (some 168) (.pointer (some ⟨g, 0, none⟩)) := ⟨_, rfl⟩
  rw [← h6]
  have sz6 : a6.tmps.size = 341 := by rw [h6, size_put]; exact sz5
  have e6_163 : a6.eval (.tmp 163) = .pointer (some ⟨g, 0, none⟩) := by rw [h6, eval_put_ne _ _ _ _ (by decide)]; exact e5_163
  have e6_164 : a6.eval (.tmp 164) = .int .i64 (c : Int) := by rw [h6, eval_put_ne _ _ _ _ (by decide)]; exact e5_164
  have e6_165 : a6.eval (.tmp 165) = rv := by rw [h6, eval_put_ne _ _ _ _ (by decide)]; exact e5_165
  have e6_167 : a6.eval (.tmp 167) = .int .i64 (i : Int) := by rw [h6, eval_put_ne _ _ _ _ (by decide)]; exact e5_167
  have e6_168 : a6.eval (.tmp 168) = .pointer (some ⟨g, 0, none⟩) := by rw [h6]; exact eval_put_eq _ _ _ (by rw [sz5]; decide)
  clear e5_163 e5_164 e5_165 e5_166 e5_167 sz5
  refine takeH (v := .pointer (some ⟨g, 0, none⟩)) opB21_6 opB21_ns (by kernel_rfl) (by kernel_rfl) HPN (fun w hw o ho => run_fieldE ho e6_168 w) hH ?_
  refine wpAnyH_as (l' := #[true, true, true, true, true, true, true, false, false, false, false, false, false, false]) (by kernel_rfl) ?_
  obtain ⟨a7, h7⟩ : ∃ a' : Act, a' = a6.put (some 169) (.pointer (some ⟨g, 0, none⟩)) := ⟨_, rfl⟩
  rw [← h7]
  have sz7 : a7.tmps.size = 341 := by rw [h7, size_put]; exact sz6
  have e7_163 : a7.eval (.tmp 163) = .pointer (some ⟨g, 0, none⟩) := by rw [h7, eval_put_ne _ _ _ _ (by decide)]; exact e6_163
  have e7_164 : a7.eval (.tmp 164) = .int .i64 (c : Int) := by rw [h7, eval_put_ne _ _ _ _ (by decide)]; exact e6_164
  have e7_165 : a7.eval (.tmp 165) = rv := by rw [h7, eval_put_ne _ _ _ _ (by decide)]; exact e6_165
  have e7_167 : a7.eval (.tmp 167) = .int .i64 (i : Int) := by rw [h7, eval_put_ne _ _ _ _ (by decide)]; exact e6_167
  have e7_169 : a7.eval (.tmp 169) = .pointer (some ⟨g, 0, none⟩) := by rw [h7]; exact eval_put_eq _ _ _ (by rw [sz6]; decide)
  clear e6_163 e6_164 e6_165 e6_167 e6_168 sz6
  refine takeH (v := .pointer (some ⟨g, i * 5, none⟩)) opB21_7 opB21_ns (by kernel_rfl) (by kernel_rfl) HPN (fun w hw o ho => run_indexE hi8.out ho e7_169 e7_167 w) hH ?_
  refine wpAnyH_as (l' := #[true, true, true, true, true, true, true, true, false, false, false, false, false, false]) (by kernel_rfl) ?_
  obtain ⟨a8, h8⟩ : ∃ a' : Act, a' = a7.put (some 170) (.pointer (some ⟨g, i * 5, none⟩)) := ⟨_, rfl⟩
  rw [← h8]
  have sz8 : a8.tmps.size = 341 := by rw [h8, size_put]; exact sz7
  have e8_163 : a8.eval (.tmp 163) = .pointer (some ⟨g, 0, none⟩) := by rw [h8, eval_put_ne _ _ _ _ (by decide)]; exact e7_163
  have e8_164 : a8.eval (.tmp 164) = .int .i64 (c : Int) := by rw [h8, eval_put_ne _ _ _ _ (by decide)]; exact e7_164
  have e8_165 : a8.eval (.tmp 165) = rv := by rw [h8, eval_put_ne _ _ _ _ (by decide)]; exact e7_165
  have e8_170 : a8.eval (.tmp 170) = .pointer (some ⟨g, i * 5, none⟩) := by rw [h8]; exact eval_put_eq _ _ _ (by rw [sz7]; decide)
  clear e7_163 e7_164 e7_165 e7_167 e7_169 sz7
  refine takeH (v := .pointer (some ⟨g, 0, none⟩)) opB21_10 opB21_ns (by kernel_rfl) (by kernel_rfl) HPN (fun w hw o ho => run_nilCheck ho e8_163 w) hH ?_
  refine wpAnyH_as (l' := #[true, true, true, true, true, true, true, true, false, false, true, false, false, false]) (by kernel_rfl) ?_
  obtain ⟨a9, h9⟩ : ∃ a' : Act, a' = a8.put (some 173) (.pointer (some ⟨g, 0, none⟩)) := ⟨_, rfl⟩
  rw [← h9]
  have sz9 : a9.tmps.size = 341 := by rw [h9, size_put]; exact sz8
  have e9_164 : a9.eval (.tmp 164) = .int .i64 (c : Int) := by rw [h9, eval_put_ne _ _ _ _ (by decide)]; exact e8_164
  have e9_165 : a9.eval (.tmp 165) = rv := by rw [h9, eval_put_ne _ _ _ _ (by decide)]; exact e8_165
  have e9_170 : a9.eval (.tmp 170) = .pointer (some ⟨g, i * 5, none⟩) := by rw [h9, eval_put_ne _ _ _ _ (by decide)]; exact e8_170
  have e9_173 : a9.eval (.tmp 173) = .pointer (some ⟨g, 0, none⟩) := by rw [h9]; exact eval_put_eq _ _ _ (by rw [sz8]; decide)
  clear e8_163 e8_164 e8_165 e8_170 sz8
  refine takeH (v := .pointer (some ⟨g, 0, none⟩)) opB21_11 opB21_ns (by kernel_rfl) (by kernel_rfl) HPN (fun w hw o ho => run_fieldE ho e9_173 w) hH ?_
  refine wpAnyH_as (l' := #[true, true, true, true, true, true, true, true, false, false, true, true, false, false]) (by kernel_rfl) ?_
  obtain ⟨a10, h10⟩ : ∃ a' : Act, a' = a9.put (some 174) (.pointer (some ⟨g, 0, none⟩)) := ⟨_, rfl⟩
  rw [← h10]
  have sz10 : a10.tmps.size = 341 := by rw [h10, size_put]; exact sz9
  have e10_164 : a10.eval (.tmp 164) = .int .i64 (c : Int) := by rw [h10, eval_put_ne _ _ _ _ (by decide)]; exact e9_164
  have e10_165 : a10.eval (.tmp 165) = rv := by rw [h10, eval_put_ne _ _ _ _ (by decide)]; exact e9_165
  have e10_170 : a10.eval (.tmp 170) = .pointer (some ⟨g, i * 5, none⟩) := by rw [h10, eval_put_ne _ _ _ _ (by decide)]; exact e9_170
  have e10_174 : a10.eval (.tmp 174) = .pointer (some ⟨g, 0, none⟩) := by rw [h10]; exact eval_put_eq _ _ _ (by rw [sz9]; decide)
  clear e9_164 e9_165 e9_170 e9_173 sz9
  refine readyLd1 (v := .agg (VI .u64 (es i))) opB21_8 (by kernel_rfl) hH (fun o ho => run_loadE (hV.bn.lim i hi8.out).len ho e10_170 _ (hV.bn.rangeE hi8.out)) ?_
  refine wpAnyH_as (l' := #[true, true, true, true, true, true, true, true, true, false, true, true, false, false]) (by kernel_rfl) ?_
  obtain ⟨a11, h11⟩ : ∃ a' : Act, a' = a10.put (some 171) (.agg (VI .u64 (es i))) := ⟨_, rfl⟩
  rw [← h11]
  have sz11 : a11.tmps.size = 341 := by rw [h11, size_put]; exact sz10
  have e11_164 : a11.eval (.tmp 164) = .int .i64 (c : Int) := by rw [h11, eval_put_ne _ _ _ _ (by decide)]; exact e10_164
  have e11_165 : a11.eval (.tmp 165) = rv := by rw [h11, eval_put_ne _ _ _ _ (by decide)]; exact e10_165
  have e11_174 : a11.eval (.tmp 174) = .pointer (some ⟨g, 0, none⟩) := by rw [h11, eval_put_ne _ _ _ _ (by decide)]; exact e10_174
  have e11_171 : a11.eval (.tmp 171) = .agg (VI .u64 (es i)) := by rw [h11]; exact eval_put_eq _ _ _ (by rw [sz10]; decide)
  clear e10_164 e10_165 e10_170 e10_174 sz10
  refine readyH opB21_9 (by kernel_rfl) (fun o ho hd => wpCall (v := .agg (VI .u64 z)) ho hd (args := #[rv, .agg (VI .u64 (es i))]) (by simp only [List.map_toArray, List.map_cons, List.map_nil, e11_165, e11_171] <;> rfl) (fun _ => rfl) (hV.calls (fun b he => HC.out _ _ _ _ _ _ he hl.out)) (fun w1 hw1 => ?_))
  have hV1 := hw1
  refine ⟨hV1.row mx, ?_⟩
  have hH := hV1.row mx
  refine wpAnyH_as (l' := #[true, true, true, true, true, true, true, true, true, true, true, true, false, false]) (by kernel_rfl) ?_
  obtain ⟨a12, h12⟩ : ∃ a' : Act, a' = a11.put (some 172) (.agg (VI .u64 z)) := ⟨_, rfl⟩
  rw [← h12]
  have sz12 : a12.tmps.size = 341 := by rw [h12, size_put]; exact sz11
  have e12_164 : a12.eval (.tmp 164) = .int .i64 (c : Int) := by rw [h12, eval_put_ne _ _ _ _ (by decide)]; exact e11_164
  have e12_174 : a12.eval (.tmp 174) = .pointer (some ⟨g, 0, none⟩) := by rw [h12, eval_put_ne _ _ _ _ (by decide)]; exact e11_174
  have e12_172 : a12.eval (.tmp 172) = .agg (VI .u64 z) := by rw [h12]; exact eval_put_eq _ _ _ (by rw [sz11]; decide)
  clear e11_164 e11_165 e11_171 e11_174 sz11
  refine takeH (v := .pointer (some ⟨g, c * 5, none⟩)) opB21_12 opB21_ns (by kernel_rfl) (by kernel_rfl) HPN (fun w hw o ho => run_indexE hc8.out ho e12_174 e12_164 w) hH ?_
  refine wpAnyH_as (l' := #[true, true, true, true, true, true, true, true, true, true, true, true, true, false]) (by kernel_rfl) ?_
  obtain ⟨a13, h13⟩ : ∃ a' : Act, a' = a12.put (some 175) (.pointer (some ⟨g, c * 5, none⟩)) := ⟨_, rfl⟩
  rw [← h13]
  have sz13 : a13.tmps.size = 341 := by rw [h13, size_put]; exact sz12
  have e13_172 : a13.eval (.tmp 172) = .agg (VI .u64 z) := by rw [h13, eval_put_ne _ _ _ _ (by decide)]; exact e12_172
  have e13_175 : a13.eval (.tmp 175) = .pointer (some ⟨g, c * 5, none⟩) := by rw [h13]; exact eval_put_eq _ _ _ (by rw [sz12]; decide)
  clear e12_164 e12_172 e12_174 sz12
  refine readyH opB21_13 (by kernel_rfl) (fun o ho hd => wp_store_mid _ _ _ ho g (c * 5) (VI .u64 z) e13_175 e13_172 (by rw [VI_size, lz.out.len]; exact hV1.bn.thereE hc8.out) (by rw [VI_size, lz.out.len]; kernel_rfl) (VI_one _ _) ?_)
  have hE := hV1.setE hc8.out lz.out
  rw [hd]
  refine ⟨hE.row mx, ?_⟩
  refine wpAnyH_as (l' := #[true, true, true, true, true, true, true, true, true, true, true, true, true, true]) (by kernel_rfl) ?_
  refine wpAnyH_done (by kernel_rfl) ?_ _
  have hF : a13 = ⟨#[.pointer (some ⟨g, 0, none⟩), rv, c2, c3, c4, .pointer (some ⟨gx, 0, none⟩), .int .i64 (i : Int), .int .i64 (k : Int), .int .i64 (c : Int), c9, c10, c11, c12, c13, c14, c15, c16, c17, c18, c19, c20, c21, c22, c23, c24, c25, c26, c27, c28, c29, c30, c31, c32, c33, c34, c35, c36, c37, c38, c39, c40, c41, c42, c43, c44, c45, c46, c47, c48, c49, c50, c51, c52, c53, c54, c55, c56, c57, c58, c59, c60, c61, c62, c63, c64, c65, c66, c67, c68, c69, c70, c71, c72, c73, c74, c75, c76, c77, c78, c79, c80, c81, c82, c83, c84, c85, c86, c87, c88, c89, c90, c91, c92, c93, c94, c95, c96, c97, c98, c99, c100, c101, c102, c103, c104, c105, c106, c107, c108, c109, c110, c111, c112, c113, c114, c115, c116, c117, c118, c119, c120, c121, c122, c123, c124, c125, c126, c127, c128, c129, c130, c131, c132, c133, c134, c135, c136, c137, c138, c139, c140, c141, c142, c143, c144, c145, c146, c147, c148, c149, c150, c151, c152, c153, c154, c155, c156, c157, c158, c159, c160, c161, c162, .pointer (some ⟨g, 0, none⟩), .int .i64 (c : Int), rv, .pointer (some ⟨g, 0, none⟩), .int .i64 (i : Int), .pointer (some ⟨g, 0, none⟩), .pointer (some ⟨g, 0, none⟩), .pointer (some ⟨g, i * 5, none⟩), .agg (VI .u64 (es i)), .agg (VI .u64 z), .pointer (some ⟨g, 0, none⟩), .pointer (some ⟨g, 0, none⟩), .pointer (some ⟨g, c * 5, none⟩), c176, c177, c178, c179, c180, c181, c182, c183, c184, c185, c186, c187, c188, c189, c190, c191, c192, c193, c194, c195, c196, c197, c198, c199, c200, c201, c202, c203, c204, c205, c206, c207, c208, c209, c210, c211, c212, c213, c214, c215, c216, c217, c218, c219, c220, c221, c222, c223, c224, c225, c226, c227, c228, c229, c230, c231, c232, c233, c234, c235, c236, c237, c238, c239, c240, c241, c242, c243, c244, c245, c246, c247, c248, c249, c250, c251, c252, c253, c254, c255, c256, c257, c258, c259, c260, c261, c262, c263, c264, c265, c266, c267, c268, c269, c270, c271, c272, c273, c274, c275, c276, c277, c278, c279, c280, c281, c282, c283, c284, c285, c286, c287, c288, c289, c290, c291, c292, c293, c294, c295, c296, c297, c298, c299, c300, c301, c302, c303, c304, c305, c306, c307, c308, c309, c310, c311, c312, c313, c314, c315, c316, c317, c318, c319, c320, c321, c322, c323, c324, c325, c326, c327, c328, c329, c330, c331, c332, c333, c334, c335, c336, c337, c338, c339, c340], []⟩ := by rw [h13, h12, h11, h10, h9, h8, h7, h6, h5, h4, h3, h2, h1, ha]; kernel_rfl
  show Q .normal (a13.put none undef) _
  rw [show a13.put none undef = a13 from rfl, hF]
  exact H _ hE
noncomputable def rgB22 : Code := ((Try.f17.body.bind (findReg 22)).getD .skip)
noncomputable def opB22 : Array Oper := opsOf rgB22
theorem rgB22_is : rgB22 = .region 22 opB22 true := by kernel_rfl
theorem opB22_ns : Region.noSelect opB22 = true := by kernel_rfl
theorem opB22_0 : opIs opB22 0 (.move (.tmp 0)) (some 176) := by unfold opIs; kernel_rfl
theorem opB22_1 : opIs opB22 1 (.move (.tmp 8)) (some 177) := by unfold opIs; kernel_rfl
theorem opB22_2 : opIs opB22 2 (.move (.tmp 0)) (some 178) := by unfold opIs; kernel_rfl
theorem opB22_3 : opIs opB22 3 (.move (.tmp 6)) (some 179) := by unfold opIs; kernel_rfl
theorem opB22_4 : opIs opB22 4 (.nilCheck (.tmp 178)) (some 180) := by unfold opIs; kernel_rfl
theorem opB22_5 : opIs opB22 5 (.fieldAddr 53 (.tmp 180) 1) (some 181) := by unfold opIs; kernel_rfl
theorem opB22_6 : opIs opB22 6 (.indexAddr 51 (.tmp 181) (.tmp 179)) (some 182) := by unfold opIs; kernel_rfl
theorem opB22_7 : opIs opB22 7 (.load 50 (.tmp 182)) (some 183) := by unfold opIs; kernel_rfl
theorem opB22_8 : opIs opB22 8 (.move (.tmp 0)) (some 184) := by unfold opIs; kernel_rfl
theorem opB22_9 : opIs opB22 9 (.move (.tmp 6)) (some 185) := by unfold opIs; kernel_rfl
theorem opB22_10 : opIs opB22 10 (.nilCheck (.tmp 184)) (some 186) := by unfold opIs; kernel_rfl
theorem opB22_11 : opIs opB22 11 (.fieldAddr 53 (.tmp 186) 1) (some 187) := by unfold opIs; kernel_rfl
theorem opB22_12 : opIs opB22 12 (.indexAddr 51 (.tmp 187) (.tmp 185)) (some 188) := by unfold opIs; kernel_rfl
theorem opB22_13 : opIs opB22 13 (.load 50 (.tmp 188)) (some 189) := by unfold opIs; kernel_rfl
theorem opB22_14 : opIs opB22 14 (.call { callee := .value (.func 40), args := #[.tmp 183, .tmp 189], argTypes := #[50, 50] }) (some 190) := by unfold opIs; kernel_rfl
theorem opB22_15 : opIs opB22 15 (.nilCheck (.tmp 176)) (some 191) := by unfold opIs; kernel_rfl
theorem opB22_16 : opIs opB22 16 (.fieldAddr 53 (.tmp 191) 1) (some 192) := by unfold opIs; kernel_rfl
theorem opB22_17 : opIs opB22 17 (.indexAddr 51 (.tmp 192) (.tmp 177)) (some 193) := by unfold opIs; kernel_rfl
theorem opB22_18 : opIs opB22 18 (.store 50 (.tmp 193) (.tmp 190)) (none) := by unfold opIs; kernel_rfl
set_option maxRecDepth 100000 in
set_option maxHeartbeats 4000000 in
theorem bk_r22 {Q : Exit → Act → World → Prop} {B : Nat} {w W : World} {rv vs : Value} {lr ll : List (Int × Int)} {g gx : Nat} {es : Nat → List Int} {ns : Nat → Nat} {bx : List (Nat × Obj)} {i k c : Nat} {D : List Int} {K0 A0 B0 C0 N T : Int} {m : Nat} {c2 c3 c4 c9 c10 c11 c12 c13 c14 c15 c16 c17 c18 c19 c20 c21 c22 c23 c24 c25 c26 c27 c28 c29 c30 c31 c32 c33 c34 c35 c36 c37 c38 c39 c40 c41 c42 c43 c44 c45 c46 c47 c48 c49 c50 c51 c52 c53 c54 c55 c56 c57 c58 c59 c60 c61 c62 c63 c64 c65 c66 c67 c68 c69 c70 c71 c72 c73 c74 c75 c76 c77 c78 c79 c80 c81 c82 c83 c84 c85 c86 c87 c88 c89 c90 c91 c92 c93 c94 c95 c96 c97 c98 c99 c100 c101 c102 c103 c104 c105 c106 c107 c108 c109 c110 c111 c112 c113 c114 c115 c116 c117 c118 c119 c120 c121 c122 c123 c124 c125 c126 c127 c128 c129 c130 c131 c132 c133 c134 c135 c136 c137 c138 c139 c140 c141 c142 c143 c144 c145 c146 c147 c148 c149 c150 c151 c152 c153 c154 c155 c156 c157 c158 c159 c160 c161 c162 c163 c164 c165 c166 c167 c168 c169 c170 c171 c172 c173 c174 c175 c176 c177 c178 c179 c180 c181 c182 c183 c184 c185 c186 c187 c188 c189 c190 c191 c192 c193 c194 c195 c196 c197 c198 c199 c200 c201 c202 c203 c204 c205 c206 c207 c208 c209 c210 c211 c212 c213 c214 c215 c216 c217 c218 c219 c220 c221 c222 c223 c224 c225 c226 c227 c228 c229 c230 c231 c232 c233 c234 c235 c236 c237 c238 c239 c240 c241 c242 c243 c244 c245 c246 c247 c248 c249 c250 c251 c252 c253 c254 c255 c256 c257 c258 c259 c260 c261 c262 c263 c264 c265 c266 c267 c268 c269 c270 c271 c272 c273 c274 c275 c276 c277 c278 c279 c280 c281 c282 c283 c284 c285 c286 c287 c288 c289 c290 c291 c292 c293 c294 c295 c296 c297 c298 c299 c300 c301 c302 c303 c304 c305 c306 c307 c308 c309 c310 c311 c312 c313 c314 c315 c316 c317 c318 c319 c320 c321 c322 c323 c324 c325 c326 c327 c328 c329 c330 c331 c332 c333 c334 c335 c336 c337 c338 c339 c340 : Value}
    (hi8 : Hid (i < 8)) (hk8 : Hid (k < 8)) (hc8 : Hid (c < 8)) (LD : Hid (D.length = 32))
    (HC : Hid (∀ w, Calls Try.prog 40 #[.agg (VI .i64 (dg (ns i))), .agg (VI .i64 (dg (ns i)))] w fun e w' => e = .returned (.agg (VI .i64 (dg m))) ∧ Below w.heap.size w w')) (hm : Hid (m < P)) 
    (mx : (gx, stO K0 A0 B0 C0 D N T) ∈ bx)
    (XX : SB B w rv lr g es ns vs ll bx W)
    (HPN : ∀ c (a : Act) d v w, Q (.panic c) (a.put d v) w → Q (.panic c) a w)
    (H : ∀ W', SB B w rv lr g es (upd ns c m) vs ll bx W' → Q .normal ⟨#[.pointer (some ⟨g, 0, none⟩), rv, c2, c3, c4, .pointer (some ⟨gx, 0, none⟩), .int .i64 (i : Int), .int .i64 (k : Int), .int .i64 (c : Int), c9, c10, c11, c12, c13, c14, c15, c16, c17, c18, c19, c20, c21, c22, c23, c24, c25, c26, c27, c28, c29, c30, c31, c32, c33, c34, c35, c36, c37, c38, c39, c40, c41, c42, c43, c44, c45, c46, c47, c48, c49, c50, c51, c52, c53, c54, c55, c56, c57, c58, c59, c60, c61, c62, c63, c64, c65, c66, c67, c68, c69, c70, c71, c72, c73, c74, c75, c76, c77, c78, c79, c80, c81, c82, c83, c84, c85, c86, c87, c88, c89, c90, c91, c92, c93, c94, c95, c96, c97, c98, c99, c100, c101, c102, c103, c104, c105, c106, c107, c108, c109, c110, c111, c112, c113, c114, c115, c116, c117, c118, c119, c120, c121, c122, c123, c124, c125, c126, c127, c128, c129, c130, c131, c132, c133, c134, c135, c136, c137, c138, c139, c140, c141, c142, c143, c144, c145, c146, c147, c148, c149, c150, c151, c152, c153, c154, c155, c156, c157, c158, c159, c160, c161, c162, c163, c164, c165, c166, c167, c168, c169, c170, c171, c172, c173, c174, c175, .pointer (some ⟨g, 0, none⟩), .int .i64 (c : Int), .pointer (some ⟨g, 0, none⟩), .int .i64 (i : Int), .pointer (some ⟨g, 0, none⟩), .pointer (some ⟨g, 40, none⟩), .pointer (some ⟨g, 40 + i * 16, none⟩), .agg (VI .i64 (dg (ns i))), .pointer (some ⟨g, 0, none⟩), .int .i64 (i : Int), .pointer (some ⟨g, 0, none⟩), .pointer (some ⟨g, 40, none⟩), .pointer (some ⟨g, 40 + i * 16, none⟩), .agg (VI .i64 (dg (ns i))), .agg (VI .i64 (dg m)), .pointer (some ⟨g, 0, none⟩), .pointer (some ⟨g, 40, none⟩), .pointer (some ⟨g, 40 + c * 16, none⟩), c194, c195, c196, c197, c198, c199, c200, c201, c202, c203, c204, c205, c206, c207, c208, c209, c210, c211, c212, c213, c214, c215, c216, c217, c218, c219, c220, c221, c222, c223, c224, c225, c226, c227, c228, c229, c230, c231, c232, c233, c234, c235, c236, c237, c238, c239, c240, c241, c242, c243, c244, c245, c246, c247, c248, c249, c250, c251, c252, c253, c254, c255, c256, c257, c258, c259, c260, c261, c262, c263, c264, c265, c266, c267, c268, c269, c270, c271, c272, c273, c274, c275, c276, c277, c278, c279, c280, c281, c282, c283, c284, c285, c286, c287, c288, c289, c290, c291, c292, c293, c294, c295, c296, c297, c298, c299, c300, c301, c302, c303, c304, c305, c306, c307, c308, c309, c310, c311, c312, c313, c314, c315, c316, c317, c318, c319, c320, c321, c322, c323, c324, c325, c326, c327, c328, c329, c330, c331, c332, c333, c334, c335, c336, c337, c338, c339, c340], []⟩ W') :
    Code.wp Try.prog rgB22 Q ⟨#[.pointer (some ⟨g, 0, none⟩), rv, c2, c3, c4, .pointer (some ⟨gx, 0, none⟩), .int .i64 (i : Int), .int .i64 (k : Int), .int .i64 (c : Int), c9, c10, c11, c12, c13, c14, c15, c16, c17, c18, c19, c20, c21, c22, c23, c24, c25, c26, c27, c28, c29, c30, c31, c32, c33, c34, c35, c36, c37, c38, c39, c40, c41, c42, c43, c44, c45, c46, c47, c48, c49, c50, c51, c52, c53, c54, c55, c56, c57, c58, c59, c60, c61, c62, c63, c64, c65, c66, c67, c68, c69, c70, c71, c72, c73, c74, c75, c76, c77, c78, c79, c80, c81, c82, c83, c84, c85, c86, c87, c88, c89, c90, c91, c92, c93, c94, c95, c96, c97, c98, c99, c100, c101, c102, c103, c104, c105, c106, c107, c108, c109, c110, c111, c112, c113, c114, c115, c116, c117, c118, c119, c120, c121, c122, c123, c124, c125, c126, c127, c128, c129, c130, c131, c132, c133, c134, c135, c136, c137, c138, c139, c140, c141, c142, c143, c144, c145, c146, c147, c148, c149, c150, c151, c152, c153, c154, c155, c156, c157, c158, c159, c160, c161, c162, c163, c164, c165, c166, c167, c168, c169, c170, c171, c172, c173, c174, c175, c176, c177, c178, c179, c180, c181, c182, c183, c184, c185, c186, c187, c188, c189, c190, c191, c192, c193, c194, c195, c196, c197, c198, c199, c200, c201, c202, c203, c204, c205, c206, c207, c208, c209, c210, c211, c212, c213, c214, c215, c216, c217, c218, c219, c220, c221, c222, c223, c224, c225, c226, c227, c228, c229, c230, c231, c232, c233, c234, c235, c236, c237, c238, c239, c240, c241, c242, c243, c244, c245, c246, c247, c248, c249, c250, c251, c252, c253, c254, c255, c256, c257, c258, c259, c260, c261, c262, c263, c264, c265, c266, c267, c268, c269, c270, c271, c272, c273, c274, c275, c276, c277, c278, c279, c280, c281, c282, c283, c284, c285, c286, c287, c288, c289, c290, c291, c292, c293, c294, c295, c296, c297, c298, c299, c300, c301, c302, c303, c304, c305, c306, c307, c308, c309, c310, c311, c312, c313, c314, c315, c316, c317, c318, c319, c320, c321, c322, c323, c324, c325, c326, c327, c328, c329, c330, c331, c332, c333, c334, c335, c336, c337, c338, c339, c340], []⟩ W := by
  rw [rgB22_is]
  refine wp_region_held_drew (S := fun Y => Y.heap[gx]? = some (stO K0 A0 B0 C0 D N T)) (by kernel_rfl) (XX.drew.row mx) (fun hH => ?_)
  have hV := XX.drew
  clear XX
  obtain ⟨V0, hV0⟩ : ∃ V, W.drew = V := ⟨_, rfl⟩
  rw [hV0] at hH hV ⊢
  clear hV0
  obtain ⟨a0, ha⟩ : ∃ a : Act, a = ⟨#[.pointer (some ⟨g, 0, none⟩), rv, c2, c3, c4, .pointer (some ⟨gx, 0, none⟩), .int .i64 (i : Int), .int .i64 (k : Int), .int .i64 (c : Int), c9, c10, c11, c12, c13, c14, c15, c16, c17, c18, c19, c20, c21, c22, c23, c24, c25, c26, c27, c28, c29, c30, c31, c32, c33, c34, c35, c36, c37, c38, c39, c40, c41, c42, c43, c44, c45, c46, c47, c48, c49, c50, c51, c52, c53, c54, c55, c56, c57, c58, c59, c60, c61, c62, c63, c64, c65, c66, c67, c68, c69, c70, c71, c72, c73, c74, c75, c76, c77, c78, c79, c80, c81, c82, c83, c84, c85, c86, c87, c88, c89, c90, c91, c92, c93, c94, c95, c96, c97, c98, c99, c100, c101, c102, c103, c104, c105, c106, c107, c108, c109, c110, c111, c112, c113, c114, c115, c116, c117, c118, c119, c120, c121, c122, c123, c124, c125, c126, c127, c128, c129, c130, c131, c132, c133, c134, c135, c136, c137, c138, c139, c140, c141, c142, c143, c144, c145, c146, c147, c148, c149, c150, c151, c152, c153, c154, c155, c156, c157, c158, c159, c160, c161, c162, c163, c164, c165, c166, c167, c168, c169, c170, c171, c172, c173, c174, c175, c176, c177, c178, c179, c180, c181, c182, c183, c184, c185, c186, c187, c188, c189, c190, c191, c192, c193, c194, c195, c196, c197, c198, c199, c200, c201, c202, c203, c204, c205, c206, c207, c208, c209, c210, c211, c212, c213, c214, c215, c216, c217, c218, c219, c220, c221, c222, c223, c224, c225, c226, c227, c228, c229, c230, c231, c232, c233, c234, c235, c236, c237, c238, c239, c240, c241, c242, c243, c244, c245, c246, c247, c248, c249, c250, c251, c252, c253, c254, c255, c256, c257, c258, c259, c260, c261, c262, c263, c264, c265, c266, c267, c268, c269, c270, c271, c272, c273, c274, c275, c276, c277, c278, c279, c280, c281, c282, c283, c284, c285, c286, c287, c288, c289, c290, c291, c292, c293, c294, c295, c296, c297, c298, c299, c300, c301, c302, c303, c304, c305, c306, c307, c308, c309, c310, c311, c312, c313, c314, c315, c316, c317, c318, c319, c320, c321, c322, c323, c324, c325, c326, c327, c328, c329, c330, c331, c332, c333, c334, c335, c336, c337, c338, c339, c340], []⟩ := ⟨_, rfl⟩
  have sz0 : a0.tmps.size = 341 := by rw [ha]; kernel_rfl
  have e0_0 : a0.eval (.tmp 0) = .pointer (some ⟨g, 0, none⟩) := by rw [ha]; kernel_rfl
  have e0_6 : a0.eval (.tmp 6) = .int .i64 (i : Int) := by rw [ha]; kernel_rfl
  have e0_8 : a0.eval (.tmp 8) = .int .i64 (c : Int) := by rw [ha]; kernel_rfl
  rw [← ha]
  refine wpAnyH_as (l' := #[false, false, false, false, false, false, false, false, false, false, false, false, false, false, false, false, false, false, false]) (by kernel_rfl) ?_
  refine takeH (v := .pointer (some ⟨g, 0, none⟩)) opB22_0 opB22_ns (by kernel_rfl) (by kernel_rfl) HPN (fun w hw o ho => run_move ho e0_0 w) hH ?_
  refine wpAnyH_as (l' := #[true, false, false, false, false, false, false, false, false, false, false, false, false, false, false, false, false, false, false]) (by kernel_rfl) ?_
  obtain ⟨a1, h1⟩ : ∃ a' : Act, a' = a0.put (some 176) (.pointer (some ⟨g, 0, none⟩)) := ⟨_, rfl⟩
  rw [← h1]
  have sz1 : a1.tmps.size = 341 := by rw [h1, size_put]; exact sz0
  have e1_0 : a1.eval (.tmp 0) = .pointer (some ⟨g, 0, none⟩) := by rw [h1, eval_put_ne _ _ _ _ (by decide)]; exact e0_0
  have e1_6 : a1.eval (.tmp 6) = .int .i64 (i : Int) := by rw [h1, eval_put_ne _ _ _ _ (by decide)]; exact e0_6
  have e1_8 : a1.eval (.tmp 8) = .int .i64 (c : Int) := by rw [h1, eval_put_ne _ _ _ _ (by decide)]; exact e0_8
  have e1_176 : a1.eval (.tmp 176) = .pointer (some ⟨g, 0, none⟩) := by rw [h1]; exact eval_put_eq _ _ _ (by rw [sz0]; decide)
  clear e0_0 e0_6 e0_8 sz0
  refine takeH (v := .int .i64 (c : Int)) opB22_1 opB22_ns (by kernel_rfl) (by kernel_rfl) HPN (fun w hw o ho => run_move ho e1_8 w) hH ?_
  refine wpAnyH_as (l' := #[true, true, false, false, false, false, false, false, false, false, false, false, false, false, false, false, false, false, false]) (by kernel_rfl) ?_
  obtain ⟨a2, h2⟩ : ∃ a' : Act, a' = a1.put (some 177) (.int .i64 (c : Int)) := ⟨_, rfl⟩
  rw [← h2]
  have sz2 : a2.tmps.size = 341 := by rw [h2, size_put]; exact sz1
  have e2_0 : a2.eval (.tmp 0) = .pointer (some ⟨g, 0, none⟩) := by rw [h2, eval_put_ne _ _ _ _ (by decide)]; exact e1_0
  have e2_6 : a2.eval (.tmp 6) = .int .i64 (i : Int) := by rw [h2, eval_put_ne _ _ _ _ (by decide)]; exact e1_6
  have e2_176 : a2.eval (.tmp 176) = .pointer (some ⟨g, 0, none⟩) := by rw [h2, eval_put_ne _ _ _ _ (by decide)]; exact e1_176
  have e2_177 : a2.eval (.tmp 177) = .int .i64 (c : Int) := by rw [h2]; exact eval_put_eq _ _ _ (by rw [sz1]; decide)
  clear e1_0 e1_176 e1_6 e1_8 sz1
  refine takeH (v := .pointer (some ⟨g, 0, none⟩)) opB22_2 opB22_ns (by kernel_rfl) (by kernel_rfl) HPN (fun w hw o ho => run_move ho e2_0 w) hH ?_
  refine wpAnyH_as (l' := #[true, true, true, false, false, false, false, false, false, false, false, false, false, false, false, false, false, false, false]) (by kernel_rfl) ?_
  obtain ⟨a3, h3⟩ : ∃ a' : Act, a' = a2.put (some 178) (.pointer (some ⟨g, 0, none⟩)) := ⟨_, rfl⟩
  rw [← h3]
  have sz3 : a3.tmps.size = 341 := by rw [h3, size_put]; exact sz2
  have e3_0 : a3.eval (.tmp 0) = .pointer (some ⟨g, 0, none⟩) := by rw [h3, eval_put_ne _ _ _ _ (by decide)]; exact e2_0
  have e3_6 : a3.eval (.tmp 6) = .int .i64 (i : Int) := by rw [h3, eval_put_ne _ _ _ _ (by decide)]; exact e2_6
  have e3_176 : a3.eval (.tmp 176) = .pointer (some ⟨g, 0, none⟩) := by rw [h3, eval_put_ne _ _ _ _ (by decide)]; exact e2_176
  have e3_177 : a3.eval (.tmp 177) = .int .i64 (c : Int) := by rw [h3, eval_put_ne _ _ _ _ (by decide)]; exact e2_177
  have e3_178 : a3.eval (.tmp 178) = .pointer (some ⟨g, 0, none⟩) := by rw [h3]; exact eval_put_eq _ _ _ (by rw [sz2]; decide)
  clear e2_0 e2_176 e2_177 e2_6 sz2
  refine takeH (v := .int .i64 (i : Int)) opB22_3 opB22_ns (by kernel_rfl) (by kernel_rfl) HPN (fun w hw o ho => run_move ho e3_6 w) hH ?_
  refine wpAnyH_as (l' := #[true, true, true, true, false, false, false, false, false, false, false, false, false, false, false, false, false, false, false]) (by kernel_rfl) ?_
  obtain ⟨a4, h4⟩ : ∃ a' : Act, a' = a3.put (some 179) (.int .i64 (i : Int)) := ⟨_, rfl⟩
  rw [← h4]
  have sz4 : a4.tmps.size = 341 := by rw [h4, size_put]; exact sz3
  have e4_0 : a4.eval (.tmp 0) = .pointer (some ⟨g, 0, none⟩) := by rw [h4, eval_put_ne _ _ _ _ (by decide)]; exact e3_0
  have e4_6 : a4.eval (.tmp 6) = .int .i64 (i : Int) := by rw [h4, eval_put_ne _ _ _ _ (by decide)]; exact e3_6
  have e4_176 : a4.eval (.tmp 176) = .pointer (some ⟨g, 0, none⟩) := by rw [h4, eval_put_ne _ _ _ _ (by decide)]; exact e3_176
  have e4_177 : a4.eval (.tmp 177) = .int .i64 (c : Int) := by rw [h4, eval_put_ne _ _ _ _ (by decide)]; exact e3_177
  have e4_178 : a4.eval (.tmp 178) = .pointer (some ⟨g, 0, none⟩) := by rw [h4, eval_put_ne _ _ _ _ (by decide)]; exact e3_178
  have e4_179 : a4.eval (.tmp 179) = .int .i64 (i : Int) := by rw [h4]; exact eval_put_eq _ _ _ (by rw [sz3]; decide)
  clear e3_0 e3_176 e3_177 e3_178 e3_6 sz3
  refine takeH (v := .pointer (some ⟨g, 0, none⟩)) opB22_4 opB22_ns (by kernel_rfl) (by kernel_rfl) HPN (fun w hw o ho => run_nilCheck ho e4_178 w) hH ?_
  refine wpAnyH_as (l' := #[true, true, true, true, true, false, false, false, false, false, false, false, false, false, false, false, false, false, false]) (by kernel_rfl) ?_
  obtain ⟨a5, h5⟩ : ∃ a' : Act, a' = a4.put (some 180) (.pointer (some ⟨g, 0, none⟩)) := ⟨_, rfl⟩
  rw [← h5]
  have sz5 : a5.tmps.size = 341 := by rw [h5, size_put]; exact sz4
  have e5_0 : a5.eval (.tmp 0) = .pointer (some ⟨g, 0, none⟩) := by rw [h5, eval_put_ne _ _ _ _ (by decide)]; exact e4_0
  have e5_6 : a5.eval (.tmp 6) = .int .i64 (i : Int) := by rw [h5, eval_put_ne _ _ _ _ (by decide)]; exact e4_6
  have e5_176 : a5.eval (.tmp 176) = .pointer (some ⟨g, 0, none⟩) := by rw [h5, eval_put_ne _ _ _ _ (by decide)]; exact e4_176
  have e5_177 : a5.eval (.tmp 177) = .int .i64 (c : Int) := by rw [h5, eval_put_ne _ _ _ _ (by decide)]; exact e4_177
  have e5_179 : a5.eval (.tmp 179) = .int .i64 (i : Int) := by rw [h5, eval_put_ne _ _ _ _ (by decide)]; exact e4_179
  have e5_180 : a5.eval (.tmp 180) = .pointer (some ⟨g, 0, none⟩) := by rw [h5]; exact eval_put_eq _ _ _ (by rw [sz4]; decide)
  clear e4_0 e4_176 e4_177 e4_178 e4_179 e4_6 sz4
  refine takeH (v := .pointer (some ⟨g, 40, none⟩)) opB22_5 opB22_ns (by kernel_rfl) (by kernel_rfl) HPN (fun w hw o ho => run_fieldN ho e5_180 w) hH ?_
  refine wpAnyH_as (l' := #[true, true, true, true, true, true, false, false, false, false, false, false, false, false, false, false, false, false, false]) (by kernel_rfl) ?_
  obtain ⟨a6, h6⟩ : ∃ a' : Act, a' = a5.put (some 181) (.pointer (some ⟨g, 40, none⟩)) := ⟨_, rfl⟩
  rw [← h6]
  have sz6 : a6.tmps.size = 341 := by rw [h6, size_put]; exact sz5
  have e6_0 : a6.eval (.tmp 0) = .pointer (some ⟨g, 0, none⟩) := by rw [h6, eval_put_ne _ _ _ _ (by decide)]; exact e5_0
  have e6_6 : a6.eval (.tmp 6) = .int .i64 (i : Int) := by rw [h6, eval_put_ne _ _ _ _ (by decide)]; exact e5_6
  have e6_176 : a6.eval (.tmp 176) = .pointer (some ⟨g, 0, none⟩) := by rw [h6, eval_put_ne _ _ _ _ (by decide)]; exact e5_176
  have e6_177 : a6.eval (.tmp 177) = .int .i64 (c : Int) := by rw [h6, eval_put_ne _ _ _ _ (by decide)]; exact e5_177
  have e6_179 : a6.eval (.tmp 179) = .int .i64 (i : Int) := by rw [h6, eval_put_ne _ _ _ _ (by decide)]; exact e5_179
  have e6_181 : a6.eval (.tmp 181) = .pointer (some ⟨g, 40, none⟩) := by rw [h6]; exact eval_put_eq _ _ _ (by rw [sz5]; decide)
  clear e5_0 e5_176 e5_177 e5_179 e5_180 e5_6 sz5
  refine takeH (v := .pointer (some ⟨g, 40 + i * 16, none⟩)) opB22_6 opB22_ns (by kernel_rfl) (by kernel_rfl) HPN (fun w hw o ho => run_indexN hi8.out ho e6_181 e6_179 w) hH ?_
  refine wpAnyH_as (l' := #[true, true, true, true, true, true, true, false, false, false, false, false, false, false, false, false, false, false, false]) (by kernel_rfl) ?_
  obtain ⟨a7, h7⟩ : ∃ a' : Act, a' = a6.put (some 182) (.pointer (some ⟨g, 40 + i * 16, none⟩)) := ⟨_, rfl⟩
  rw [← h7]
  have sz7 : a7.tmps.size = 341 := by rw [h7, size_put]; exact sz6
  have e7_0 : a7.eval (.tmp 0) = .pointer (some ⟨g, 0, none⟩) := by rw [h7, eval_put_ne _ _ _ _ (by decide)]; exact e6_0
  have e7_6 : a7.eval (.tmp 6) = .int .i64 (i : Int) := by rw [h7, eval_put_ne _ _ _ _ (by decide)]; exact e6_6
  have e7_176 : a7.eval (.tmp 176) = .pointer (some ⟨g, 0, none⟩) := by rw [h7, eval_put_ne _ _ _ _ (by decide)]; exact e6_176
  have e7_177 : a7.eval (.tmp 177) = .int .i64 (c : Int) := by rw [h7, eval_put_ne _ _ _ _ (by decide)]; exact e6_177
  have e7_182 : a7.eval (.tmp 182) = .pointer (some ⟨g, 40 + i * 16, none⟩) := by rw [h7]; exact eval_put_eq _ _ _ (by rw [sz6]; decide)
  clear e6_0 e6_176 e6_177 e6_179 e6_181 e6_6 sz6
  refine takeH (v := .pointer (some ⟨g, 0, none⟩)) opB22_8 opB22_ns (by kernel_rfl) (by kernel_rfl) HPN (fun w hw o ho => run_move ho e7_0 w) hH ?_
  refine wpAnyH_as (l' := #[true, true, true, true, true, true, true, false, true, false, false, false, false, false, false, false, false, false, false]) (by kernel_rfl) ?_
  obtain ⟨a8, h8⟩ : ∃ a' : Act, a' = a7.put (some 184) (.pointer (some ⟨g, 0, none⟩)) := ⟨_, rfl⟩
  rw [← h8]
  have sz8 : a8.tmps.size = 341 := by rw [h8, size_put]; exact sz7
  have e8_6 : a8.eval (.tmp 6) = .int .i64 (i : Int) := by rw [h8, eval_put_ne _ _ _ _ (by decide)]; exact e7_6
  have e8_176 : a8.eval (.tmp 176) = .pointer (some ⟨g, 0, none⟩) := by rw [h8, eval_put_ne _ _ _ _ (by decide)]; exact e7_176
  have e8_177 : a8.eval (.tmp 177) = .int .i64 (c : Int) := by rw [h8, eval_put_ne _ _ _ _ (by decide)]; exact e7_177
  have e8_182 : a8.eval (.tmp 182) = .pointer (some ⟨g, 40 + i * 16, none⟩) := by rw [h8, eval_put_ne _ _ _ _ (by decide)]; exact e7_182
  have e8_184 : a8.eval (.tmp 184) = .pointer (some ⟨g, 0, none⟩) := by rw [h8]; exact eval_put_eq _ _ _ (by rw [sz7]; decide)
  clear e7_0 e7_176 e7_177 e7_182 e7_6 sz7
  refine takeH (v := .int .i64 (i : Int)) opB22_9 opB22_ns (by kernel_rfl) (by kernel_rfl) HPN (fun w hw o ho => run_move ho e8_6 w) hH ?_
  refine wpAnyH_as (l' := #[true, true, true, true, true, true, true, false, true, true, false, false, false, false, false, false, false, false, false]) (by kernel_rfl) ?_
  obtain ⟨a9, h9⟩ : ∃ a' : Act, a' = a8.put (some 185) (.int .i64 (i : Int)) := ⟨_, rfl⟩
  rw [← h9]
  have sz9 : a9.tmps.size = 341 := by rw [h9, size_put]; exact sz8
  have e9_176 : a9.eval (.tmp 176) = .pointer (some ⟨g, 0, none⟩) := by rw [h9, eval_put_ne _ _ _ _ (by decide)]; exact e8_176
  have e9_177 : a9.eval (.tmp 177) = .int .i64 (c : Int) := by rw [h9, eval_put_ne _ _ _ _ (by decide)]; exact e8_177
  have e9_182 : a9.eval (.tmp 182) = .pointer (some ⟨g, 40 + i * 16, none⟩) := by rw [h9, eval_put_ne _ _ _ _ (by decide)]; exact e8_182
  have e9_184 : a9.eval (.tmp 184) = .pointer (some ⟨g, 0, none⟩) := by rw [h9, eval_put_ne _ _ _ _ (by decide)]; exact e8_184
  have e9_185 : a9.eval (.tmp 185) = .int .i64 (i : Int) := by rw [h9]; exact eval_put_eq _ _ _ (by rw [sz8]; decide)
  clear e8_176 e8_177 e8_182 e8_184 e8_6 sz8
  refine takeH (v := .pointer (some ⟨g, 0, none⟩)) opB22_10 opB22_ns (by kernel_rfl) (by kernel_rfl) HPN (fun w hw o ho => run_nilCheck ho e9_184 w) hH ?_
  refine wpAnyH_as (l' := #[true, true, true, true, true, true, true, false, true, true, true, false, false, false, false, false, false, false, false]) (by kernel_rfl) ?_
  obtain ⟨a10, h10⟩ : ∃ a' : Act, a' = a9.put (some 186) (.pointer (some ⟨g, 0, none⟩)) := ⟨_, rfl⟩
  rw [← h10]
  have sz10 : a10.tmps.size = 341 := by rw [h10, size_put]; exact sz9
  have e10_176 : a10.eval (.tmp 176) = .pointer (some ⟨g, 0, none⟩) := by rw [h10, eval_put_ne _ _ _ _ (by decide)]; exact e9_176
  have e10_177 : a10.eval (.tmp 177) = .int .i64 (c : Int) := by rw [h10, eval_put_ne _ _ _ _ (by decide)]; exact e9_177
  have e10_182 : a10.eval (.tmp 182) = .pointer (some ⟨g, 40 + i * 16, none⟩) := by rw [h10, eval_put_ne _ _ _ _ (by decide)]; exact e9_182
  have e10_185 : a10.eval (.tmp 185) = .int .i64 (i : Int) := by rw [h10, eval_put_ne _ _ _ _ (by decide)]; exact e9_185
  have e10_186 : a10.eval (.tmp 186) = .pointer (some ⟨g, 0, none⟩) := by rw [h10]; exact eval_put_eq _ _ _ (by rw [sz9]; decide)
  clear e9_176 e9_177 e9_182 e9_184 e9_185 sz9
  refine takeH (v := .pointer (some ⟨g, 40, none⟩)) opB22_11 opB22_ns (by kernel_rfl) (by kernel_rfl) HPN (fun w hw o ho => run_fieldN ho e10_186 w) hH ?_
  refine wpAnyH_as (l' := #[true, true, true, true, true, true, true, false, true, true, true, true, false, false, false, false, false, false, false]) (by kernel_rfl) ?_
  obtain ⟨a11, h11⟩ : ∃ a' : Act, a' = a10.put (some 187) (.pointer (some ⟨g, 40, none⟩)) := ⟨_, rfl⟩
  rw [← h11]
  have sz11 : a11.tmps.size = 341 := by rw [h11, size_put]; exact sz10
  have e11_176 : a11.eval (.tmp 176) = .pointer (some ⟨g, 0, none⟩) := by rw [h11, eval_put_ne _ _ _ _ (by decide)]; exact e10_176
  have e11_177 : a11.eval (.tmp 177) = .int .i64 (c : Int) := by rw [h11, eval_put_ne _ _ _ _ (by decide)]; exact e10_177
  have e11_182 : a11.eval (.tmp 182) = .pointer (some ⟨g, 40 + i * 16, none⟩) := by rw [h11, eval_put_ne _ _ _ _ (by decide)]; exact e10_182
  have e11_185 : a11.eval (.tmp 185) = .int .i64 (i : Int) := by rw [h11, eval_put_ne _ _ _ _ (by decide)]; exact e10_185
  have e11_187 : a11.eval (.tmp 187) = .pointer (some ⟨g, 40, none⟩) := by rw [h11]; exact eval_put_eq _ _ _ (by rw [sz10]; decide)
  clear e10_176 e10_177 e10_182 e10_185 e10_186 sz10
  refine takeH (v := .pointer (some ⟨g, 40 + i * 16, none⟩)) opB22_12 opB22_ns (by kernel_rfl) (by kernel_rfl) HPN (fun w hw o ho => run_indexN hi8.out ho e11_187 e11_185 w) hH ?_
  refine wpAnyH_as (l' := #[true, true, true, true, true, true, true, false, true, true, true, true, true, false, false, false, false, false, false]) (by kernel_rfl) ?_
  obtain ⟨a12, h12⟩ : ∃ a' : Act, a' = a11.put (some 188) (.pointer (some ⟨g, 40 + i * 16, none⟩)) := ⟨_, rfl⟩
  rw [← h12]
  have sz12 : a12.tmps.size = 341 := by rw [h12, size_put]; exact sz11
  have e12_176 : a12.eval (.tmp 176) = .pointer (some ⟨g, 0, none⟩) := by rw [h12, eval_put_ne _ _ _ _ (by decide)]; exact e11_176
  have e12_177 : a12.eval (.tmp 177) = .int .i64 (c : Int) := by rw [h12, eval_put_ne _ _ _ _ (by decide)]; exact e11_177
  have e12_182 : a12.eval (.tmp 182) = .pointer (some ⟨g, 40 + i * 16, none⟩) := by rw [h12, eval_put_ne _ _ _ _ (by decide)]; exact e11_182
  have e12_188 : a12.eval (.tmp 188) = .pointer (some ⟨g, 40 + i * 16, none⟩) := by rw [h12]; exact eval_put_eq _ _ _ (by rw [sz11]; decide)
  clear e11_176 e11_177 e11_182 e11_185 e11_187 sz11
  refine takeH (v := .pointer (some ⟨g, 0, none⟩)) opB22_15 opB22_ns (by kernel_rfl) (by kernel_rfl) HPN (fun w hw o ho => run_nilCheck ho e12_176 w) hH ?_
  refine wpAnyH_as (l' := #[true, true, true, true, true, true, true, false, true, true, true, true, true, false, false, true, false, false, false]) (by kernel_rfl) ?_
  obtain ⟨a13, h13⟩ : ∃ a' : Act, a' = a12.put (some 191) (.pointer (some ⟨g, 0, none⟩)) := ⟨_, rfl⟩
  rw [← h13]
  have sz13 : a13.tmps.size = 341 := by rw [h13, size_put]; exact sz12
  have e13_177 : a13.eval (.tmp 177) = .int .i64 (c : Int) := by rw [h13, eval_put_ne _ _ _ _ (by decide)]; exact e12_177
  have e13_182 : a13.eval (.tmp 182) = .pointer (some ⟨g, 40 + i * 16, none⟩) := by rw [h13, eval_put_ne _ _ _ _ (by decide)]; exact e12_182
  have e13_188 : a13.eval (.tmp 188) = .pointer (some ⟨g, 40 + i * 16, none⟩) := by rw [h13, eval_put_ne _ _ _ _ (by decide)]; exact e12_188
  have e13_191 : a13.eval (.tmp 191) = .pointer (some ⟨g, 0, none⟩) := by rw [h13]; exact eval_put_eq _ _ _ (by rw [sz12]; decide)
  clear e12_176 e12_177 e12_182 e12_188 sz12
  refine takeH (v := .pointer (some ⟨g, 40, none⟩)) opB22_16 opB22_ns (by kernel_rfl) (by kernel_rfl) HPN (fun w hw o ho => run_fieldN ho e13_191 w) hH ?_
  refine wpAnyH_as (l' := #[true, true, true, true, true, true, true, false, true, true, true, true, true, false, false, true, true, false, false]) (by kernel_rfl) ?_
  obtain ⟨a14, h14⟩ : ∃ a' : Act, a' = a13.put (some 192) (.pointer (some ⟨g, 40, none⟩)) := ⟨_, rfl⟩
  rw [← h14]
  have sz14 : a14.tmps.size = 341 := by rw [h14, size_put]; exact sz13
  have e14_177 : a14.eval (.tmp 177) = .int .i64 (c : Int) := by rw [h14, eval_put_ne _ _ _ _ (by decide)]; exact e13_177
  have e14_182 : a14.eval (.tmp 182) = .pointer (some ⟨g, 40 + i * 16, none⟩) := by rw [h14, eval_put_ne _ _ _ _ (by decide)]; exact e13_182
  have e14_188 : a14.eval (.tmp 188) = .pointer (some ⟨g, 40 + i * 16, none⟩) := by rw [h14, eval_put_ne _ _ _ _ (by decide)]; exact e13_188
  have e14_192 : a14.eval (.tmp 192) = .pointer (some ⟨g, 40, none⟩) := by rw [h14]; exact eval_put_eq _ _ _ (by rw [sz13]; decide)
  clear e13_177 e13_182 e13_188 e13_191 sz13
  refine readyLd2 (v := .agg (VI .i64 (dg (ns i)))) (u := .agg (VI .i64 (dg (ns i)))) opB22_7 opB22_13 (by decide) (by decide) (by kernel_rfl) (by kernel_rfl) (by kernel_rfl) hH (fun o ho => run_loadN (dg_len _) ho e14_182 _ (hV.bn.rangeN hi8.out)) (fun o ho => run_loadN (dg_len _) ho e14_188 _ (hV.bn.rangeN hi8.out)) (fun o ho => run_loadN (dg_len _) ho ((eval_put_ne _ _ _ _ (by decide)).trans e14_182) _ (hV.bn.rangeN hi8.out)) (fun o ho => run_loadN (dg_len _) ho ((eval_put_ne _ _ _ _ (by decide)).trans e14_188) _ (hV.bn.rangeN hi8.out)) ?_
  refine wpAnyH_as (l' := #[true, true, true, true, true, true, true, true, true, true, true, true, true, true, false, true, true, false, false]) (by kernel_rfl) ?_
  obtain ⟨a15, h15⟩ : ∃ a' : Act, a' = a14.put (some 183) (.agg (VI .i64 (dg (ns i)))) := ⟨_, rfl⟩
  rw [← h15]
  have sz15 : a15.tmps.size = 341 := by rw [h15, size_put]; exact sz14
  have e15_177 : a15.eval (.tmp 177) = .int .i64 (c : Int) := by rw [h15, eval_put_ne _ _ _ _ (by decide)]; exact e14_177
  have e15_192 : a15.eval (.tmp 192) = .pointer (some ⟨g, 40, none⟩) := by rw [h15, eval_put_ne _ _ _ _ (by decide)]; exact e14_192
  have e15_183 : a15.eval (.tmp 183) = .agg (VI .i64 (dg (ns i))) := by rw [h15]; exact eval_put_eq _ _ _ (by rw [sz14]; decide)
  clear e14_177 e14_182 e14_188 e14_192 sz14
  obtain ⟨a16, h16⟩ : ∃ a' : Act, a' = a15.put (some 189) (.agg (VI .i64 (dg (ns i)))) := ⟨_, rfl⟩
  rw [← h16]
  have sz16 : a16.tmps.size = 341 := by rw [h16, size_put]; exact sz15
  have e16_177 : a16.eval (.tmp 177) = .int .i64 (c : Int) := by rw [h16, eval_put_ne _ _ _ _ (by decide)]; exact e15_177
  have e16_192 : a16.eval (.tmp 192) = .pointer (some ⟨g, 40, none⟩) := by rw [h16, eval_put_ne _ _ _ _ (by decide)]; exact e15_192
  have e16_183 : a16.eval (.tmp 183) = .agg (VI .i64 (dg (ns i))) := by rw [h16, eval_put_ne _ _ _ _ (by decide)]; exact e15_183
  have e16_189 : a16.eval (.tmp 189) = .agg (VI .i64 (dg (ns i))) := by rw [h16]; exact eval_put_eq _ _ _ (by rw [sz15]; decide)
  clear e15_177 e15_183 e15_192 sz15
  refine readyH opB22_14 (by kernel_rfl) (fun o ho hd => wpCall (v := .agg (VI .i64 (dg m))) ho hd (args := #[.agg (VI .i64 (dg (ns i))), .agg (VI .i64 (dg (ns i)))]) (by simp only [List.map_toArray, List.map_cons, List.map_nil, e16_183, e16_189] <;> rfl) (fun _ => rfl) (HC.out _) (fun w1 hw1 => ?_))
  have hV1 := hV.below hw1
  refine ⟨hV1.row mx, ?_⟩
  have hH := hV1.row mx
  refine wpAnyH_as (l' := #[true, true, true, true, true, true, true, true, true, true, true, true, true, true, true, true, true, false, false]) (by kernel_rfl) ?_
  obtain ⟨a17, h17⟩ : ∃ a' : Act, a' = a16.put (some 190) (.agg (VI .i64 (dg m))) := ⟨_, rfl⟩
  rw [← h17]
  have sz17 : a17.tmps.size = 341 := by rw [h17, size_put]; exact sz16
  have e17_177 : a17.eval (.tmp 177) = .int .i64 (c : Int) := by rw [h17, eval_put_ne _ _ _ _ (by decide)]; exact e16_177
  have e17_192 : a17.eval (.tmp 192) = .pointer (some ⟨g, 40, none⟩) := by rw [h17, eval_put_ne _ _ _ _ (by decide)]; exact e16_192
  have e17_190 : a17.eval (.tmp 190) = .agg (VI .i64 (dg m)) := by rw [h17]; exact eval_put_eq _ _ _ (by rw [sz16]; decide)
  clear e16_177 e16_183 e16_189 e16_192 sz16
  refine takeH (v := .pointer (some ⟨g, 40 + c * 16, none⟩)) opB22_17 opB22_ns (by kernel_rfl) (by kernel_rfl) HPN (fun w hw o ho => run_indexN hc8.out ho e17_192 e17_177 w) hH ?_
  refine wpAnyH_as (l' := #[true, true, true, true, true, true, true, true, true, true, true, true, true, true, true, true, true, true, false]) (by kernel_rfl) ?_
  obtain ⟨a18, h18⟩ : ∃ a' : Act, a' = a17.put (some 193) (.pointer (some ⟨g, 40 + c * 16, none⟩)) := ⟨_, rfl⟩
  rw [← h18]
  have sz18 : a18.tmps.size = 341 := by rw [h18, size_put]; exact sz17
  have e18_190 : a18.eval (.tmp 190) = .agg (VI .i64 (dg m)) := by rw [h18, eval_put_ne _ _ _ _ (by decide)]; exact e17_190
  have e18_193 : a18.eval (.tmp 193) = .pointer (some ⟨g, 40 + c * 16, none⟩) := by rw [h18]; exact eval_put_eq _ _ _ (by rw [sz17]; decide)
  clear e17_177 e17_190 e17_192 sz17
  refine readyH opB22_18 (by kernel_rfl) (fun o ho hd => wp_store_mid _ _ _ ho g (40 + c * 16) (VI .i64 (dg m)) e18_193 e18_190 (by rw [VI_size, dg_len]; exact hV1.bn.thereN hc8.out) (by rw [VI_size, dg_len]; kernel_rfl) (VI_one _ _) ?_)
  have hE := hV1.setN hc8.out hm.out
  rw [hd]
  refine ⟨hE.row mx, ?_⟩
  refine wpAnyH_as (l' := #[true, true, true, true, true, true, true, true, true, true, true, true, true, true, true, true, true, true, true]) (by kernel_rfl) ?_
  refine wpAnyH_done (by kernel_rfl) ?_ _
  have hF : a18 = ⟨#[.pointer (some ⟨g, 0, none⟩), rv, c2, c3, c4, .pointer (some ⟨gx, 0, none⟩), .int .i64 (i : Int), .int .i64 (k : Int), .int .i64 (c : Int), c9, c10, c11, c12, c13, c14, c15, c16, c17, c18, c19, c20, c21, c22, c23, c24, c25, c26, c27, c28, c29, c30, c31, c32, c33, c34, c35, c36, c37, c38, c39, c40, c41, c42, c43, c44, c45, c46, c47, c48, c49, c50, c51, c52, c53, c54, c55, c56, c57, c58, c59, c60, c61, c62, c63, c64, c65, c66, c67, c68, c69, c70, c71, c72, c73, c74, c75, c76, c77, c78, c79, c80, c81, c82, c83, c84, c85, c86, c87, c88, c89, c90, c91, c92, c93, c94, c95, c96, c97, c98, c99, c100, c101, c102, c103, c104, c105, c106, c107, c108, c109, c110, c111, c112, c113, c114, c115, c116, c117, c118, c119, c120, c121, c122, c123, c124, c125, c126, c127, c128, c129, c130, c131, c132, c133, c134, c135, c136, c137, c138, c139, c140, c141, c142, c143, c144, c145, c146, c147, c148, c149, c150, c151, c152, c153, c154, c155, c156, c157, c158, c159, c160, c161, c162, c163, c164, c165, c166, c167, c168, c169, c170, c171, c172, c173, c174, c175, .pointer (some ⟨g, 0, none⟩), .int .i64 (c : Int), .pointer (some ⟨g, 0, none⟩), .int .i64 (i : Int), .pointer (some ⟨g, 0, none⟩), .pointer (some ⟨g, 40, none⟩), .pointer (some ⟨g, 40 + i * 16, none⟩), .agg (VI .i64 (dg (ns i))), .pointer (some ⟨g, 0, none⟩), .int .i64 (i : Int), .pointer (some ⟨g, 0, none⟩), .pointer (some ⟨g, 40, none⟩), .pointer (some ⟨g, 40 + i * 16, none⟩), .agg (VI .i64 (dg (ns i))), .agg (VI .i64 (dg m)), .pointer (some ⟨g, 0, none⟩), .pointer (some ⟨g, 40, none⟩), .pointer (some ⟨g, 40 + c * 16, none⟩), c194, c195, c196, c197, c198, c199, c200, c201, c202, c203, c204, c205, c206, c207, c208, c209, c210, c211, c212, c213, c214, c215, c216, c217, c218, c219, c220, c221, c222, c223, c224, c225, c226, c227, c228, c229, c230, c231, c232, c233, c234, c235, c236, c237, c238, c239, c240, c241, c242, c243, c244, c245, c246, c247, c248, c249, c250, c251, c252, c253, c254, c255, c256, c257, c258, c259, c260, c261, c262, c263, c264, c265, c266, c267, c268, c269, c270, c271, c272, c273, c274, c275, c276, c277, c278, c279, c280, c281, c282, c283, c284, c285, c286, c287, c288, c289, c290, c291, c292, c293, c294, c295, c296, c297, c298, c299, c300, c301, c302, c303, c304, c305, c306, c307, c308, c309, c310, c311, c312, c313, c314, c315, c316, c317, c318, c319, c320, c321, c322, c323, c324, c325, c326, c327, c328, c329, c330, c331, c332, c333, c334, c335, c336, c337, c338, c339, c340], []⟩ := by rw [h18, h17, h16, h15, h14, h13, h12, h11, h10, h9, h8, h7, h6, h5, h4, h3, h2, h1, ha]; kernel_rfl
  show Q .normal (a18.put none undef) _
  rw [show a18.put none undef = a18 from rfl, hF]
  exact H _ hE
noncomputable def rgB25 : Code := ((Try.f17.body.bind (findReg 25)).getD .skip)
noncomputable def opB25 : Array Oper := opsOf rgB25
theorem rgB25_is : rgB25 = .region 25 opB25 true := by kernel_rfl
theorem opB25_ns : Region.noSelect opB25 = true := by kernel_rfl
theorem opB25_0 : opIs opB25 0 (.move (.tmp 0)) (some 198) := by unfold opIs; kernel_rfl
theorem opB25_1 : opIs opB25 1 (.move (.tmp 8)) (some 199) := by unfold opIs; kernel_rfl
theorem opB25_2 : opIs opB25 2 (.move (.tmp 1)) (some 200) := by unfold opIs; kernel_rfl
theorem opB25_3 : opIs opB25 3 (.move (.tmp 0)) (some 201) := by unfold opIs; kernel_rfl
theorem opB25_4 : opIs opB25 4 (.move (.tmp 6)) (some 202) := by unfold opIs; kernel_rfl
theorem opB25_5 : opIs opB25 5 (.nilCheck (.tmp 201)) (some 203) := by unfold opIs; kernel_rfl
theorem opB25_6 : opIs opB25 6 (.fieldAddr 53 (.tmp 203) 0) (some 204) := by unfold opIs; kernel_rfl
theorem opB25_7 : opIs opB25 7 (.indexAddr 48 (.tmp 204) (.tmp 202)) (some 205) := by unfold opIs; kernel_rfl
theorem opB25_8 : opIs opB25 8 (.load 47 (.tmp 205)) (some 206) := by unfold opIs; kernel_rfl
theorem opB25_9 : opIs opB25 9 (.fieldAddr 60 (.tmp 5) 5) (some 207) := by unfold opIs; kernel_rfl
theorem opB25_10 : opIs opB25 10 (.load 58 (.tmp 207)) (some 208) := by unfold opIs; kernel_rfl
theorem opB25_11 : opIs opB25 11 (.call { callee := .value (.func 42), args := #[.tmp 200, .tmp 206, .tmp 208], argTypes := #[23, 47, 58] }) (some 209) := by unfold opIs; kernel_rfl
theorem opB25_12 : opIs opB25 12 (.nilCheck (.tmp 198)) (some 210) := by unfold opIs; kernel_rfl
theorem opB25_13 : opIs opB25 13 (.fieldAddr 53 (.tmp 210) 0) (some 211) := by unfold opIs; kernel_rfl
theorem opB25_14 : opIs opB25 14 (.indexAddr 48 (.tmp 211) (.tmp 199)) (some 212) := by unfold opIs; kernel_rfl
theorem opB25_15 : opIs opB25 15 (.store 47 (.tmp 212) (.tmp 209)) (none) := by unfold opIs; kernel_rfl
set_option maxRecDepth 100000 in
set_option maxHeartbeats 4000000 in
theorem bk_r25 {Q : Exit → Act → World → Prop} {B : Nat} {w W : World} {rv vs : Value} {lr ll : List (Int × Int)} {g gx : Nat} {es : Nat → List Int} {ns : Nat → Nat} {bx : List (Nat × Obj)} {i k c : Nat} {D : List Int} {K0 A0 B0 C0 N T : Int} {z : List Int} {c2 c3 c4 c9 c10 c11 c12 c13 c14 c15 c16 c17 c18 c19 c20 c21 c22 c23 c24 c25 c26 c27 c28 c29 c30 c31 c32 c33 c34 c35 c36 c37 c38 c39 c40 c41 c42 c43 c44 c45 c46 c47 c48 c49 c50 c51 c52 c53 c54 c55 c56 c57 c58 c59 c60 c61 c62 c63 c64 c65 c66 c67 c68 c69 c70 c71 c72 c73 c74 c75 c76 c77 c78 c79 c80 c81 c82 c83 c84 c85 c86 c87 c88 c89 c90 c91 c92 c93 c94 c95 c96 c97 c98 c99 c100 c101 c102 c103 c104 c105 c106 c107 c108 c109 c110 c111 c112 c113 c114 c115 c116 c117 c118 c119 c120 c121 c122 c123 c124 c125 c126 c127 c128 c129 c130 c131 c132 c133 c134 c135 c136 c137 c138 c139 c140 c141 c142 c143 c144 c145 c146 c147 c148 c149 c150 c151 c152 c153 c154 c155 c156 c157 c158 c159 c160 c161 c162 c163 c164 c165 c166 c167 c168 c169 c170 c171 c172 c173 c174 c175 c176 c177 c178 c179 c180 c181 c182 c183 c184 c185 c186 c187 c188 c189 c190 c191 c192 c193 c194 c195 c196 c197 c198 c199 c200 c201 c202 c203 c204 c205 c206 c207 c208 c209 c210 c211 c212 c213 c214 c215 c216 c217 c218 c219 c220 c221 c222 c223 c224 c225 c226 c227 c228 c229 c230 c231 c232 c233 c234 c235 c236 c237 c238 c239 c240 c241 c242 c243 c244 c245 c246 c247 c248 c249 c250 c251 c252 c253 c254 c255 c256 c257 c258 c259 c260 c261 c262 c263 c264 c265 c266 c267 c268 c269 c270 c271 c272 c273 c274 c275 c276 c277 c278 c279 c280 c281 c282 c283 c284 c285 c286 c287 c288 c289 c290 c291 c292 c293 c294 c295 c296 c297 c298 c299 c300 c301 c302 c303 c304 c305 c306 c307 c308 c309 c310 c311 c312 c313 c314 c315 c316 c317 c318 c319 c320 c321 c322 c323 c324 c325 c326 c327 c328 c329 c330 c331 c332 c333 c334 c335 c336 c337 c338 c339 c340 : Value}
    (hi8 : Hid (i < 8)) (hk8 : Hid (k < 8)) (hc8 : Hid (c < 8)) (LD : Hid (D.length = 32))
    (HC : Hid (∀ B w rv l bx wr, Ev B w rv l bx wr → l.length ≤ 1000000 → Calls Try.prog 42 #[rv, .agg (VI .u64 (es i)), .int .u32 N] wr fun e w' => e = .returned (.agg (VI .u64 z)) ∧ Ev B w rv (l ++ [(3, 5)]) bx w')) (hl : Hid (lr.length ≤ 1000000)) (lz : Hid (Lim z))
    (mx : (gx, stO K0 A0 B0 C0 D N T) ∈ bx)
    (XX : SB B w rv lr g es ns vs ll bx W)
    (HPN : ∀ c (a : Act) d v w, Q (.panic c) (a.put d v) w → Q (.panic c) a w)
    (H : ∀ W', SB B w rv (lr ++ [(3, 5)]) g (upd es c z) ns vs ll bx W' → Q .normal ⟨#[.pointer (some ⟨g, 0, none⟩), rv, c2, c3, c4, .pointer (some ⟨gx, 0, none⟩), .int .i64 (i : Int), .int .i64 (k : Int), .int .i64 (c : Int), c9, c10, c11, c12, c13, c14, c15, c16, c17, c18, c19, c20, c21, c22, c23, c24, c25, c26, c27, c28, c29, c30, c31, c32, c33, c34, c35, c36, c37, c38, c39, c40, c41, c42, c43, c44, c45, c46, c47, c48, c49, c50, c51, c52, c53, c54, c55, c56, c57, c58, c59, c60, c61, c62, c63, c64, c65, c66, c67, c68, c69, c70, c71, c72, c73, c74, c75, c76, c77, c78, c79, c80, c81, c82, c83, c84, c85, c86, c87, c88, c89, c90, c91, c92, c93, c94, c95, c96, c97, c98, c99, c100, c101, c102, c103, c104, c105, c106, c107, c108, c109, c110, c111, c112, c113, c114, c115, c116, c117, c118, c119, c120, c121, c122, c123, c124, c125, c126, c127, c128, c129, c130, c131, c132, c133, c134, c135, c136, c137, c138, c139, c140, c141, c142, c143, c144, c145, c146, c147, c148, c149, c150, c151, c152, c153, c154, c155, c156, c157, c158, c159, c160, c161, c162, c163, c164, c165, c166, c167, c168, c169, c170, c171, c172, c173, c174, c175, c176, c177, c178, c179, c180, c181, c182, c183, c184, c185, c186, c187, c188, c189, c190, c191, c192, c193, c194, c195, c196, c197, .pointer (some ⟨g, 0, none⟩), .int .i64 (c : Int), rv, .pointer (some ⟨g, 0, none⟩), .int .i64 (i : Int), .pointer (some ⟨g, 0, none⟩), .pointer (some ⟨g, 0, none⟩), .pointer (some ⟨g, i * 5, none⟩), .agg (VI .u64 (es i)), .pointer (some ⟨gx, 36, none⟩), .int .u32 N, .agg (VI .u64 z), .pointer (some ⟨g, 0, none⟩), .pointer (some ⟨g, 0, none⟩), .pointer (some ⟨g, c * 5, none⟩), c213, c214, c215, c216, c217, c218, c219, c220, c221, c222, c223, c224, c225, c226, c227, c228, c229, c230, c231, c232, c233, c234, c235, c236, c237, c238, c239, c240, c241, c242, c243, c244, c245, c246, c247, c248, c249, c250, c251, c252, c253, c254, c255, c256, c257, c258, c259, c260, c261, c262, c263, c264, c265, c266, c267, c268, c269, c270, c271, c272, c273, c274, c275, c276, c277, c278, c279, c280, c281, c282, c283, c284, c285, c286, c287, c288, c289, c290, c291, c292, c293, c294, c295, c296, c297, c298, c299, c300, c301, c302, c303, c304, c305, c306, c307, c308, c309, c310, c311, c312, c313, c314, c315, c316, c317, c318, c319, c320, c321, c322, c323, c324, c325, c326, c327, c328, c329, c330, c331, c332, c333, c334, c335, c336, c337, c338, c339, c340], []⟩ W') :
    Code.wp Try.prog rgB25 Q ⟨#[.pointer (some ⟨g, 0, none⟩), rv, c2, c3, c4, .pointer (some ⟨gx, 0, none⟩), .int .i64 (i : Int), .int .i64 (k : Int), .int .i64 (c : Int), c9, c10, c11, c12, c13, c14, c15, c16, c17, c18, c19, c20, c21, c22, c23, c24, c25, c26, c27, c28, c29, c30, c31, c32, c33, c34, c35, c36, c37, c38, c39, c40, c41, c42, c43, c44, c45, c46, c47, c48, c49, c50, c51, c52, c53, c54, c55, c56, c57, c58, c59, c60, c61, c62, c63, c64, c65, c66, c67, c68, c69, c70, c71, c72, c73, c74, c75, c76, c77, c78, c79, c80, c81, c82, c83, c84, c85, c86, c87, c88, c89, c90, c91, c92, c93, c94, c95, c96, c97, c98, c99, c100, c101, c102, c103, c104, c105, c106, c107, c108, c109, c110, c111, c112, c113, c114, c115, c116, c117, c118, c119, c120, c121, c122, c123, c124, c125, c126, c127, c128, c129, c130, c131, c132, c133, c134, c135, c136, c137, c138, c139, c140, c141, c142, c143, c144, c145, c146, c147, c148, c149, c150, c151, c152, c153, c154, c155, c156, c157, c158, c159, c160, c161, c162, c163, c164, c165, c166, c167, c168, c169, c170, c171, c172, c173, c174, c175, c176, c177, c178, c179, c180, c181, c182, c183, c184, c185, c186, c187, c188, c189, c190, c191, c192, c193, c194, c195, c196, c197, c198, c199, c200, c201, c202, c203, c204, c205, c206, c207, c208, c209, c210, c211, c212, c213, c214, c215, c216, c217, c218, c219, c220, c221, c222, c223, c224, c225, c226, c227, c228, c229, c230, c231, c232, c233, c234, c235, c236, c237, c238, c239, c240, c241, c242, c243, c244, c245, c246, c247, c248, c249, c250, c251, c252, c253, c254, c255, c256, c257, c258, c259, c260, c261, c262, c263, c264, c265, c266, c267, c268, c269, c270, c271, c272, c273, c274, c275, c276, c277, c278, c279, c280, c281, c282, c283, c284, c285, c286, c287, c288, c289, c290, c291, c292, c293, c294, c295, c296, c297, c298, c299, c300, c301, c302, c303, c304, c305, c306, c307, c308, c309, c310, c311, c312, c313, c314, c315, c316, c317, c318, c319, c320, c321, c322, c323, c324, c325, c326, c327, c328, c329, c330, c331, c332, c333, c334, c335, c336, c337, c338, c339, c340], []⟩ W := by
  rw [rgB25_is]
  refine wp_region_held_drew (S := fun Y => Y.heap[gx]? = some (stO K0 A0 B0 C0 D N T)) (by kernel_rfl) (XX.drew.row mx) (fun hH => ?_)
  have hV := XX.drew
  clear XX
  obtain ⟨V0, hV0⟩ : ∃ V, W.drew = V := ⟨_, rfl⟩
  rw [hV0] at hH hV ⊢
  clear hV0
  obtain ⟨a0, ha⟩ : ∃ a : Act, a = ⟨#[.pointer (some ⟨g, 0, none⟩), rv, c2, c3, c4, .pointer (some ⟨gx, 0, none⟩), .int .i64 (i : Int), .int .i64 (k : Int), .int .i64 (c : Int), c9, c10, c11, c12, c13, c14, c15, c16, c17, c18, c19, c20, c21, c22, c23, c24, c25, c26, c27, c28, c29, c30, c31, c32, c33, c34, c35, c36, c37, c38, c39, c40, c41, c42, c43, c44, c45, c46, c47, c48, c49, c50, c51, c52, c53, c54, c55, c56, c57, c58, c59, c60, c61, c62, c63, c64, c65, c66, c67, c68, c69, c70, c71, c72, c73, c74, c75, c76, c77, c78, c79, c80, c81, c82, c83, c84, c85, c86, c87, c88, c89, c90, c91, c92, c93, c94, c95, c96, c97, c98, c99, c100, c101, c102, c103, c104, c105, c106, c107, c108, c109, c110, c111, c112, c113, c114, c115, c116, c117, c118, c119, c120, c121, c122, c123, c124, c125, c126, c127, c128, c129, c130, c131, c132, c133, c134, c135, c136, c137, c138, c139, c140, c141, c142, c143, c144, c145, c146, c147, c148, c149, c150, c151, c152, c153, c154, c155, c156, c157, c158, c159, c160, c161, c162, c163, c164, c165, c166, c167, c168, c169, c170, c171, c172, c173, c174, c175, c176, c177, c178, c179, c180, c181, c182, c183, c184, c185, c186, c187, c188, c189, c190, c191, c192, c193, c194, c195, c196, c197, c198, c199, c200, c201, c202, c203, c204, c205, c206, c207, c208, c209, c210, c211, c212, c213, c214, c215, c216, c217, c218, c219, c220, c221, c222, c223, c224, c225, c226, c227, c228, c229, c230, c231, c232, c233, c234, c235, c236, c237, c238, c239, c240, c241, c242, c243, c244, c245, c246, c247, c248, c249, c250, c251, c252, c253, c254, c255, c256, c257, c258, c259, c260, c261, c262, c263, c264, c265, c266, c267, c268, c269, c270, c271, c272, c273, c274, c275, c276, c277, c278, c279, c280, c281, c282, c283, c284, c285, c286, c287, c288, c289, c290, c291, c292, c293, c294, c295, c296, c297, c298, c299, c300, c301, c302, c303, c304, c305, c306, c307, c308, c309, c310, c311, c312, c313, c314, c315, c316, c317, c318, c319, c320, c321, c322, c323, c324, c325, c326, c327, c328, c329, c330, c331, c332, c333, c334, c335, c336, c337, c338, c339, c340], []⟩ := ⟨_, rfl⟩
  have sz0 : a0.tmps.size = 341 := by rw [ha]; kernel_rfl
  have e0_0 : a0.eval (.tmp 0) = .pointer (some ⟨g, 0, none⟩) := by rw [ha]; kernel_rfl
  have e0_1 : a0.eval (.tmp 1) = rv := by rw [ha]; kernel_rfl
  have e0_5 : a0.eval (.tmp 5) = .pointer (some ⟨gx, 0, none⟩) := by rw [ha]; kernel_rfl
  have e0_6 : a0.eval (.tmp 6) = .int .i64 (i : Int) := by rw [ha]; kernel_rfl
  have e0_8 : a0.eval (.tmp 8) = .int .i64 (c : Int) := by rw [ha]; kernel_rfl
  rw [← ha]
  refine wpAnyH_as (l' := #[false, false, false, false, false, false, false, false, false, false, false, false, false, false, false, false]) (by kernel_rfl) ?_
  refine takeH (v := .pointer (some ⟨g, 0, none⟩)) opB25_0 opB25_ns (by kernel_rfl) (by kernel_rfl) HPN (fun w hw o ho => run_move ho e0_0 w) hH ?_
  refine wpAnyH_as (l' := #[true, false, false, false, false, false, false, false, false, false, false, false, false, false, false, false]) (by kernel_rfl) ?_
  obtain ⟨a1, h1⟩ : ∃ a' : Act, a' = a0.put (some 198) (.pointer (some ⟨g, 0, none⟩)) := ⟨_, rfl⟩
  rw [← h1]
  have sz1 : a1.tmps.size = 341 := by rw [h1, size_put]; exact sz0
  have e1_0 : a1.eval (.tmp 0) = .pointer (some ⟨g, 0, none⟩) := by rw [h1, eval_put_ne _ _ _ _ (by decide)]; exact e0_0
  have e1_1 : a1.eval (.tmp 1) = rv := by rw [h1, eval_put_ne _ _ _ _ (by decide)]; exact e0_1
  have e1_5 : a1.eval (.tmp 5) = .pointer (some ⟨gx, 0, none⟩) := by rw [h1, eval_put_ne _ _ _ _ (by decide)]; exact e0_5
  have e1_6 : a1.eval (.tmp 6) = .int .i64 (i : Int) := by rw [h1, eval_put_ne _ _ _ _ (by decide)]; exact e0_6
  have e1_8 : a1.eval (.tmp 8) = .int .i64 (c : Int) := by rw [h1, eval_put_ne _ _ _ _ (by decide)]; exact e0_8
  have e1_198 : a1.eval (.tmp 198) = .pointer (some ⟨g, 0, none⟩) := by rw [h1]; exact eval_put_eq _ _ _ (by rw [sz0]; decide)
  clear e0_0 e0_1 e0_5 e0_6 e0_8 sz0
  refine takeH (v := .int .i64 (c : Int)) opB25_1 opB25_ns (by kernel_rfl) (by kernel_rfl) HPN (fun w hw o ho => run_move ho e1_8 w) hH ?_
  refine wpAnyH_as (l' := #[true, true, false, false, false, false, false, false, false, false, false, false, false, false, false, false]) (by kernel_rfl) ?_
  obtain ⟨a2, h2⟩ : ∃ a' : Act, a' = a1.put (some 199) (.int .i64 (c : Int)) := ⟨_, rfl⟩
  rw [← h2]
  have sz2 : a2.tmps.size = 341 := by rw [h2, size_put]; exact sz1
  have e2_0 : a2.eval (.tmp 0) = .pointer (some ⟨g, 0, none⟩) := by rw [h2, eval_put_ne _ _ _ _ (by decide)]; exact e1_0
  have e2_1 : a2.eval (.tmp 1) = rv := by rw [h2, eval_put_ne _ _ _ _ (by decide)]; exact e1_1
  have e2_5 : a2.eval (.tmp 5) = .pointer (some ⟨gx, 0, none⟩) := by rw [h2, eval_put_ne _ _ _ _ (by decide)]; exact e1_5
  have e2_6 : a2.eval (.tmp 6) = .int .i64 (i : Int) := by rw [h2, eval_put_ne _ _ _ _ (by decide)]; exact e1_6
  have e2_198 : a2.eval (.tmp 198) = .pointer (some ⟨g, 0, none⟩) := by rw [h2, eval_put_ne _ _ _ _ (by decide)]; exact e1_198
  have e2_199 : a2.eval (.tmp 199) = .int .i64 (c : Int) := by rw [h2]; exact eval_put_eq _ _ _ (by rw [sz1]; decide)
  clear e1_0 e1_1 e1_198 e1_5 e1_6 e1_8 sz1
  refine takeH (v := rv) opB25_2 opB25_ns (by kernel_rfl) (by kernel_rfl) HPN (fun w hw o ho => run_move ho e2_1 w) hH ?_
  refine wpAnyH_as (l' := #[true, true, true, false, false, false, false, false, false, false, false, false, false, false, false, false]) (by kernel_rfl) ?_
  obtain ⟨a3, h3⟩ : ∃ a' : Act, a' = a2.put (some 200) (rv) := ⟨_, rfl⟩
  rw [← h3]
  have sz3 : a3.tmps.size = 341 := by rw [h3, size_put]; exact sz2
  have e3_0 : a3.eval (.tmp 0) = .pointer (some ⟨g, 0, none⟩) := by rw [h3, eval_put_ne _ _ _ _ (by decide)]; exact e2_0
  have e3_5 : a3.eval (.tmp 5) = .pointer (some ⟨gx, 0, none⟩) := by rw [h3, eval_put_ne _ _ _ _ (by decide)]; exact e2_5
  have e3_6 : a3.eval (.tmp 6) = .int .i64 (i : Int) := by rw [h3, eval_put_ne _ _ _ _ (by decide)]; exact e2_6
  have e3_198 : a3.eval (.tmp 198) = .pointer (some ⟨g, 0, none⟩) := by rw [h3, eval_put_ne _ _ _ _ (by decide)]; exact e2_198
  have e3_199 : a3.eval (.tmp 199) = .int .i64 (c : Int) := by rw [h3, eval_put_ne _ _ _ _ (by decide)]; exact e2_199
  have e3_200 : a3.eval (.tmp 200) = rv := by rw [h3]; exact eval_put_eq _ _ _ (by rw [sz2]; decide)
  clear e2_0 e2_1 e2_198 e2_199 e2_5 e2_6 sz2
  refine takeH (v := .pointer (some ⟨g, 0, none⟩)) opB25_3 opB25_ns (by kernel_rfl) (by kernel_rfl) HPN (fun w hw o ho => run_move ho e3_0 w) hH ?_
  refine wpAnyH_as (l' := #[true, true, true, true, false, false, false, false, false, false, false, false, false, false, false, false]) (by kernel_rfl) ?_
  obtain ⟨a4, h4⟩ : ∃ a' : Act, a' = a3.put (some 201) (.pointer (some ⟨g, 0, none⟩)) := ⟨_, rfl⟩
  rw [← h4]
  have sz4 : a4.tmps.size = 341 := by rw [h4, size_put]; exact sz3
  have e4_5 : a4.eval (.tmp 5) = .pointer (some ⟨gx, 0, none⟩) := by rw [h4, eval_put_ne _ _ _ _ (by decide)]; exact e3_5
  have e4_6 : a4.eval (.tmp 6) = .int .i64 (i : Int) := by rw [h4, eval_put_ne _ _ _ _ (by decide)]; exact e3_6
  have e4_198 : a4.eval (.tmp 198) = .pointer (some ⟨g, 0, none⟩) := by rw [h4, eval_put_ne _ _ _ _ (by decide)]; exact e3_198
  have e4_199 : a4.eval (.tmp 199) = .int .i64 (c : Int) := by rw [h4, eval_put_ne _ _ _ _ (by decide)]; exact e3_199
  have e4_200 : a4.eval (.tmp 200) = rv := by rw [h4, eval_put_ne _ _ _ _ (by decide)]; exact e3_200
  have e4_201 : a4.eval (.tmp 201) = .pointer (some ⟨g, 0, none⟩) := by rw [h4]; exact eval_put_eq _ _ _ (by rw [sz3]; decide)
  clear e3_0 e3_198 e3_199 e3_200 e3_5 e3_6 sz3
  refine takeH (v := .int .i64 (i : Int)) opB25_4 opB25_ns (by kernel_rfl) (by kernel_rfl) HPN (fun w hw o ho => run_move ho e4_6 w) hH ?_
  refine wpAnyH_as (l' := #[true, true, true, true, true, false, false, false, false, false, false, false, false, false, false, false]) (by kernel_rfl) ?_
  obtain ⟨a5, h5⟩ : ∃ a' : Act, a' = a4.put (some 202) (.int .i64 (i : Int)) := ⟨_, rfl⟩
  rw [← h5]
  have sz5 : a5.tmps.size = 341 := by rw [h5, size_put]; exact sz4
  have e5_5 : a5.eval (.tmp 5) = .pointer (some ⟨gx, 0, none⟩) := by rw [h5, eval_put_ne _ _ _ _ (by decide)]; exact e4_5
  have e5_198 : a5.eval (.tmp 198) = .pointer (some ⟨g, 0, none⟩) := by rw [h5, eval_put_ne _ _ _ _ (by decide)]; exact e4_198
  have e5_199 : a5.eval (.tmp 199) = .int .i64 (c : Int) := by rw [h5, eval_put_ne _ _ _ _ (by decide)]; exact e4_199
  have e5_200 : a5.eval (.tmp 200) = rv := by rw [h5, eval_put_ne _ _ _ _ (by decide)]; exact e4_200
  have e5_201 : a5.eval (.tmp 201) = .pointer (some ⟨g, 0, none⟩) := by rw [h5, eval_put_ne _ _ _ _ (by decide)]; exact e4_201
  have e5_202 : a5.eval (.tmp 202) = .int .i64 (i : Int) := by rw [h5]; exact eval_put_eq _ _ _ (by rw [sz4]; decide)
  clear e4_198 e4_199 e4_200 e4_201 e4_5 e4_6 sz4
  refine takeH (v := .pointer (some ⟨g, 0, none⟩)) opB25_5 opB25_ns (by kernel_rfl) (by kernel_rfl) HPN (fun w hw o ho => run_nilCheck ho e5_201 w) hH ?_
  refine wpAnyH_as (l' := #[true, true, true, true, true, true, false, false, false, false, false, false, false, false, false, false]) (by kernel_rfl) ?_
  obtain ⟨a6, h6⟩ : ∃ a' : Act, a' = a5.put (some 203) (.pointer (some ⟨g, 0, none⟩)) := ⟨_, rfl⟩
  rw [← h6]
  have sz6 : a6.tmps.size = 341 := by rw [h6, size_put]; exact sz5
  have e6_5 : a6.eval (.tmp 5) = .pointer (some ⟨gx, 0, none⟩) := by rw [h6, eval_put_ne _ _ _ _ (by decide)]; exact e5_5
  have e6_198 : a6.eval (.tmp 198) = .pointer (some ⟨g, 0, none⟩) := by rw [h6, eval_put_ne _ _ _ _ (by decide)]; exact e5_198
  have e6_199 : a6.eval (.tmp 199) = .int .i64 (c : Int) := by rw [h6, eval_put_ne _ _ _ _ (by decide)]; exact e5_199
  have e6_200 : a6.eval (.tmp 200) = rv := by rw [h6, eval_put_ne _ _ _ _ (by decide)]; exact e5_200
  have e6_202 : a6.eval (.tmp 202) = .int .i64 (i : Int) := by rw [h6, eval_put_ne _ _ _ _ (by decide)]; exact e5_202
  have e6_203 : a6.eval (.tmp 203) = .pointer (some ⟨g, 0, none⟩) := by rw [h6]; exact eval_put_eq _ _ _ (by rw [sz5]; decide)
  clear e5_198 e5_199 e5_200 e5_201 e5_202 e5_5 sz5
  refine takeH (v := .pointer (some ⟨g, 0, none⟩)) opB25_6 opB25_ns (by kernel_rfl) (by kernel_rfl) HPN (fun w hw o ho => run_fieldE ho e6_203 w) hH ?_
  refine wpAnyH_as (l' := #[true, true, true, true, true, true, true, false, false, false, false, false, false, false, false, false]) (by kernel_rfl) ?_
  obtain ⟨a7, h7⟩ : ∃ a' : Act, a' = a6.put (some 204) (.pointer (some ⟨g, 0, none⟩)) := ⟨_, rfl⟩
  rw [← h7]
  have sz7 : a7.tmps.size = 341 := by rw [h7, size_put]; exact sz6
  have e7_5 : a7.eval (.tmp 5) = .pointer (some ⟨gx, 0, none⟩) := by rw [h7, eval_put_ne _ _ _ _ (by decide)]; exact e6_5
  have e7_198 : a7.eval (.tmp 198) = .pointer (some ⟨g, 0, none⟩) := by rw [h7, eval_put_ne _ _ _ _ (by decide)]; exact e6_198
  have e7_199 : a7.eval (.tmp 199) = .int .i64 (c : Int) := by rw [h7, eval_put_ne _ _ _ _ (by decide)]; exact e6_199
  have e7_200 : a7.eval (.tmp 200) = rv := by rw [h7, eval_put_ne _ _ _ _ (by decide)]; exact e6_200
  have e7_202 : a7.eval (.tmp 202) = .int .i64 (i : Int) := by rw [h7, eval_put_ne _ _ _ _ (by decide)]; exact e6_202
  have e7_204 : a7.eval (.tmp 204) = .pointer (some ⟨g, 0, none⟩) := by rw [h7]; exact eval_put_eq _ _ _ (by rw [sz6]; decide)
  clear e6_198 e6_199 e6_200 e6_202 e6_203 e6_5 sz6
  refine takeH (v := .pointer (some ⟨g, i * 5, none⟩)) opB25_7 opB25_ns (by kernel_rfl) (by kernel_rfl) HPN (fun w hw o ho => run_indexE hi8.out ho e7_204 e7_202 w) hH ?_
  refine wpAnyH_as (l' := #[true, true, true, true, true, true, true, true, false, false, false, false, false, false, false, false]) (by kernel_rfl) ?_
  obtain ⟨a8, h8⟩ : ∃ a' : Act, a' = a7.put (some 205) (.pointer (some ⟨g, i * 5, none⟩)) := ⟨_, rfl⟩
  rw [← h8]
  have sz8 : a8.tmps.size = 341 := by rw [h8, size_put]; exact sz7
  have e8_5 : a8.eval (.tmp 5) = .pointer (some ⟨gx, 0, none⟩) := by rw [h8, eval_put_ne _ _ _ _ (by decide)]; exact e7_5
  have e8_198 : a8.eval (.tmp 198) = .pointer (some ⟨g, 0, none⟩) := by rw [h8, eval_put_ne _ _ _ _ (by decide)]; exact e7_198
  have e8_199 : a8.eval (.tmp 199) = .int .i64 (c : Int) := by rw [h8, eval_put_ne _ _ _ _ (by decide)]; exact e7_199
  have e8_200 : a8.eval (.tmp 200) = rv := by rw [h8, eval_put_ne _ _ _ _ (by decide)]; exact e7_200
  have e8_205 : a8.eval (.tmp 205) = .pointer (some ⟨g, i * 5, none⟩) := by rw [h8]; exact eval_put_eq _ _ _ (by rw [sz7]; decide)
  clear e7_198 e7_199 e7_200 e7_202 e7_204 e7_5 sz7
  refine takeH (v := .pointer (some ⟨gx, 36, none⟩)) opB25_9 opB25_ns (by kernel_rfl) (by kernel_rfl) HPN (fun w hw o ho => run_stN ho e8_5 w) hH ?_
  refine wpAnyH_as (l' := #[true, true, true, true, true, true, true, true, false, true, false, false, false, false, false, false]) (by kernel_rfl) ?_
  obtain ⟨a9, h9⟩ : ∃ a' : Act, a' = a8.put (some 207) (.pointer (some ⟨gx, 36, none⟩)) := ⟨_, rfl⟩
  rw [← h9]
  have sz9 : a9.tmps.size = 341 := by rw [h9, size_put]; exact sz8
  have e9_198 : a9.eval (.tmp 198) = .pointer (some ⟨g, 0, none⟩) := by rw [h9, eval_put_ne _ _ _ _ (by decide)]; exact e8_198
  have e9_199 : a9.eval (.tmp 199) = .int .i64 (c : Int) := by rw [h9, eval_put_ne _ _ _ _ (by decide)]; exact e8_199
  have e9_200 : a9.eval (.tmp 200) = rv := by rw [h9, eval_put_ne _ _ _ _ (by decide)]; exact e8_200
  have e9_205 : a9.eval (.tmp 205) = .pointer (some ⟨g, i * 5, none⟩) := by rw [h9, eval_put_ne _ _ _ _ (by decide)]; exact e8_205
  have e9_207 : a9.eval (.tmp 207) = .pointer (some ⟨gx, 36, none⟩) := by rw [h9]; exact eval_put_eq _ _ _ (by rw [sz8]; decide)
  clear e8_198 e8_199 e8_200 e8_205 e8_5 sz8
  refine takeH (v := .int .u32 N) opB25_10 opB25_ns (by kernel_rfl) (by kernel_rfl) HPN (fun w hw o ho => run_loadU32 ho e9_207 w (st_n hw LD.out)) hH ?_
  refine wpAnyH_as (l' := #[true, true, true, true, true, true, true, true, false, true, true, false, false, false, false, false]) (by kernel_rfl) ?_
  obtain ⟨a10, h10⟩ : ∃ a' : Act, a' = a9.put (some 208) (.int .u32 N) := ⟨_, rfl⟩
  rw [← h10]
  have sz10 : a10.tmps.size = 341 := by rw [h10, size_put]; exact sz9
  have e10_198 : a10.eval (.tmp 198) = .pointer (some ⟨g, 0, none⟩) := by rw [h10, eval_put_ne _ _ _ _ (by decide)]; exact e9_198
  have e10_199 : a10.eval (.tmp 199) = .int .i64 (c : Int) := by rw [h10, eval_put_ne _ _ _ _ (by decide)]; exact e9_199
  have e10_200 : a10.eval (.tmp 200) = rv := by rw [h10, eval_put_ne _ _ _ _ (by decide)]; exact e9_200
  have e10_205 : a10.eval (.tmp 205) = .pointer (some ⟨g, i * 5, none⟩) := by rw [h10, eval_put_ne _ _ _ _ (by decide)]; exact e9_205
  have e10_208 : a10.eval (.tmp 208) = .int .u32 N := by rw [h10]; exact eval_put_eq _ _ _ (by rw [sz9]; decide)
  clear e9_198 e9_199 e9_200 e9_205 e9_207 sz9
  refine takeH (v := .pointer (some ⟨g, 0, none⟩)) opB25_12 opB25_ns (by kernel_rfl) (by kernel_rfl) HPN (fun w hw o ho => run_nilCheck ho e10_198 w) hH ?_
  refine wpAnyH_as (l' := #[true, true, true, true, true, true, true, true, false, true, true, false, true, false, false, false]) (by kernel_rfl) ?_
  obtain ⟨a11, h11⟩ : ∃ a' : Act, a' = a10.put (some 210) (.pointer (some ⟨g, 0, none⟩)) := ⟨_, rfl⟩
  rw [← h11]
  have sz11 : a11.tmps.size = 341 := by rw [h11, size_put]; exact sz10
  have e11_199 : a11.eval (.tmp 199) = .int .i64 (c : Int) := by rw [h11, eval_put_ne _ _ _ _ (by decide)]; exact e10_199
  have e11_200 : a11.eval (.tmp 200) = rv := by rw [h11, eval_put_ne _ _ _ _ (by decide)]; exact e10_200
  have e11_205 : a11.eval (.tmp 205) = .pointer (some ⟨g, i * 5, none⟩) := by rw [h11, eval_put_ne _ _ _ _ (by decide)]; exact e10_205
  have e11_208 : a11.eval (.tmp 208) = .int .u32 N := by rw [h11, eval_put_ne _ _ _ _ (by decide)]; exact e10_208
  have e11_210 : a11.eval (.tmp 210) = .pointer (some ⟨g, 0, none⟩) := by rw [h11]; exact eval_put_eq _ _ _ (by rw [sz10]; decide)
  clear e10_198 e10_199 e10_200 e10_205 e10_208 sz10
  refine takeH (v := .pointer (some ⟨g, 0, none⟩)) opB25_13 opB25_ns (by kernel_rfl) (by kernel_rfl) HPN (fun w hw o ho => run_fieldE ho e11_210 w) hH ?_
  refine wpAnyH_as (l' := #[true, true, true, true, true, true, true, true, false, true, true, false, true, true, false, false]) (by kernel_rfl) ?_
  obtain ⟨a12, h12⟩ : ∃ a' : Act, a' = a11.put (some 211) (.pointer (some ⟨g, 0, none⟩)) := ⟨_, rfl⟩
  rw [← h12]
  have sz12 : a12.tmps.size = 341 := by rw [h12, size_put]; exact sz11
  have e12_199 : a12.eval (.tmp 199) = .int .i64 (c : Int) := by rw [h12, eval_put_ne _ _ _ _ (by decide)]; exact e11_199
  have e12_200 : a12.eval (.tmp 200) = rv := by rw [h12, eval_put_ne _ _ _ _ (by decide)]; exact e11_200
  have e12_205 : a12.eval (.tmp 205) = .pointer (some ⟨g, i * 5, none⟩) := by rw [h12, eval_put_ne _ _ _ _ (by decide)]; exact e11_205
  have e12_208 : a12.eval (.tmp 208) = .int .u32 N := by rw [h12, eval_put_ne _ _ _ _ (by decide)]; exact e11_208
  have e12_211 : a12.eval (.tmp 211) = .pointer (some ⟨g, 0, none⟩) := by rw [h12]; exact eval_put_eq _ _ _ (by rw [sz11]; decide)
  clear e11_199 e11_200 e11_205 e11_208 e11_210 sz11
  refine readyLd1 (v := .agg (VI .u64 (es i))) opB25_8 (by kernel_rfl) hH (fun o ho => run_loadE (hV.bn.lim i hi8.out).len ho e12_205 _ (hV.bn.rangeE hi8.out)) ?_
  refine wpAnyH_as (l' := #[true, true, true, true, true, true, true, true, true, true, true, false, true, true, false, false]) (by kernel_rfl) ?_
  obtain ⟨a13, h13⟩ : ∃ a' : Act, a' = a12.put (some 206) (.agg (VI .u64 (es i))) := ⟨_, rfl⟩
  rw [← h13]
  have sz13 : a13.tmps.size = 341 := by rw [h13, size_put]; exact sz12
  have e13_199 : a13.eval (.tmp 199) = .int .i64 (c : Int) := by rw [h13, eval_put_ne _ _ _ _ (by decide)]; exact e12_199
  have e13_200 : a13.eval (.tmp 200) = rv := by rw [h13, eval_put_ne _ _ _ _ (by decide)]; exact e12_200
  have e13_208 : a13.eval (.tmp 208) = .int .u32 N := by rw [h13, eval_put_ne _ _ _ _ (by decide)]; exact e12_208
  have e13_211 : a13.eval (.tmp 211) = .pointer (some ⟨g, 0, none⟩) := by rw [h13, eval_put_ne _ _ _ _ (by decide)]; exact e12_211
  have e13_206 : a13.eval (.tmp 206) = .agg (VI .u64 (es i)) := by rw [h13]; exact eval_put_eq _ _ _ (by rw [sz12]; decide)
  clear e12_199 e12_200 e12_205 e12_208 e12_211 sz12
  refine readyH opB25_11 (by kernel_rfl) (fun o ho hd => wpCall (v := .agg (VI .u64 z)) ho hd (args := #[rv, .agg (VI .u64 (es i)), .int .u32 N]) (by simp only [List.map_toArray, List.map_cons, List.map_nil, e13_200, e13_206, e13_208] <;> rfl) (fun _ => rfl) (hV.calls (fun b he => HC.out _ _ _ _ _ _ he hl.out)) (fun w1 hw1 => ?_))
  have hV1 := hw1
  refine ⟨hV1.row mx, ?_⟩
  have hH := hV1.row mx
  refine wpAnyH_as (l' := #[true, true, true, true, true, true, true, true, true, true, true, true, true, true, false, false]) (by kernel_rfl) ?_
  obtain ⟨a14, h14⟩ : ∃ a' : Act, a' = a13.put (some 209) (.agg (VI .u64 z)) := ⟨_, rfl⟩
  rw [← h14]
  have sz14 : a14.tmps.size = 341 := by rw [h14, size_put]; exact sz13
  have e14_199 : a14.eval (.tmp 199) = .int .i64 (c : Int) := by rw [h14, eval_put_ne _ _ _ _ (by decide)]; exact e13_199
  have e14_211 : a14.eval (.tmp 211) = .pointer (some ⟨g, 0, none⟩) := by rw [h14, eval_put_ne _ _ _ _ (by decide)]; exact e13_211
  have e14_209 : a14.eval (.tmp 209) = .agg (VI .u64 z) := by rw [h14]; exact eval_put_eq _ _ _ (by rw [sz13]; decide)
  clear e13_199 e13_200 e13_206 e13_208 e13_211 sz13
  refine takeH (v := .pointer (some ⟨g, c * 5, none⟩)) opB25_14 opB25_ns (by kernel_rfl) (by kernel_rfl) HPN (fun w hw o ho => run_indexE hc8.out ho e14_211 e14_199 w) hH ?_
  refine wpAnyH_as (l' := #[true, true, true, true, true, true, true, true, true, true, true, true, true, true, true, false]) (by kernel_rfl) ?_
  obtain ⟨a15, h15⟩ : ∃ a' : Act, a' = a14.put (some 212) (.pointer (some ⟨g, c * 5, none⟩)) := ⟨_, rfl⟩
  rw [← h15]
  have sz15 : a15.tmps.size = 341 := by rw [h15, size_put]; exact sz14
  have e15_209 : a15.eval (.tmp 209) = .agg (VI .u64 z) := by rw [h15, eval_put_ne _ _ _ _ (by decide)]; exact e14_209
  have e15_212 : a15.eval (.tmp 212) = .pointer (some ⟨g, c * 5, none⟩) := by rw [h15]; exact eval_put_eq _ _ _ (by rw [sz14]; decide)
  clear e14_199 e14_209 e14_211 sz14
  refine readyH opB25_15 (by kernel_rfl) (fun o ho hd => wp_store_mid _ _ _ ho g (c * 5) (VI .u64 z) e15_212 e15_209 (by rw [VI_size, lz.out.len]; exact hV1.bn.thereE hc8.out) (by rw [VI_size, lz.out.len]; kernel_rfl) (VI_one _ _) ?_)
  have hE := hV1.setE hc8.out lz.out
  rw [hd]
  refine ⟨hE.row mx, ?_⟩
  refine wpAnyH_as (l' := #[true, true, true, true, true, true, true, true, true, true, true, true, true, true, true, true]) (by kernel_rfl) ?_
  refine wpAnyH_done (by kernel_rfl) ?_ _
  have hF : a15 = ⟨#[.pointer (some ⟨g, 0, none⟩), rv, c2, c3, c4, .pointer (some ⟨gx, 0, none⟩), .int .i64 (i : Int), .int .i64 (k : Int), .int .i64 (c : Int), c9, c10, c11, c12, c13, c14, c15, c16, c17, c18, c19, c20, c21, c22, c23, c24, c25, c26, c27, c28, c29, c30, c31, c32, c33, c34, c35, c36, c37, c38, c39, c40, c41, c42, c43, c44, c45, c46, c47, c48, c49, c50, c51, c52, c53, c54, c55, c56, c57, c58, c59, c60, c61, c62, c63, c64, c65, c66, c67, c68, c69, c70, c71, c72, c73, c74, c75, c76, c77, c78, c79, c80, c81, c82, c83, c84, c85, c86, c87, c88, c89, c90, c91, c92, c93, c94, c95, c96, c97, c98, c99, c100, c101, c102, c103, c104, c105, c106, c107, c108, c109, c110, c111, c112, c113, c114, c115, c116, c117, c118, c119, c120, c121, c122, c123, c124, c125, c126, c127, c128, c129, c130, c131, c132, c133, c134, c135, c136, c137, c138, c139, c140, c141, c142, c143, c144, c145, c146, c147, c148, c149, c150, c151, c152, c153, c154, c155, c156, c157, c158, c159, c160, c161, c162, c163, c164, c165, c166, c167, c168, c169, c170, c171, c172, c173, c174, c175, c176, c177, c178, c179, c180, c181, c182, c183, c184, c185, c186, c187, c188, c189, c190, c191, c192, c193, c194, c195, c196, c197, .pointer (some ⟨g, 0, none⟩), .int .i64 (c : Int), rv, .pointer (some ⟨g, 0, none⟩), .int .i64 (i : Int), .pointer (some ⟨g, 0, none⟩), .pointer (some ⟨g, 0, none⟩), .pointer (some ⟨g, i * 5, none⟩), .agg (VI .u64 (es i)), .pointer (some ⟨gx, 36, none⟩), .int .u32 N, .agg (VI .u64 z), .pointer (some ⟨g, 0, none⟩), .pointer (some ⟨g, 0, none⟩), .pointer (some ⟨g, c * 5, none⟩), c213, c214, c215, c216, c217, c218, c219, c220, c221, c222, c223, c224, c225, c226, c227, c228, c229, c230, c231, c232, c233, c234, c235, c236, c237, c238, c239, c240, c241, c242, c243, c244, c245, c246, c247, c248, c249, c250, c251, c252, c253, c254, c255, c256, c257, c258, c259, c260, c261, c262, c263, c264, c265, c266, c267, c268, c269, c270, c271, c272, c273, c274, c275, c276, c277, c278, c279, c280, c281, c282, c283, c284, c285, c286, c287, c288, c289, c290, c291, c292, c293, c294, c295, c296, c297, c298, c299, c300, c301, c302, c303, c304, c305, c306, c307, c308, c309, c310, c311, c312, c313, c314, c315, c316, c317, c318, c319, c320, c321, c322, c323, c324, c325, c326, c327, c328, c329, c330, c331, c332, c333, c334, c335, c336, c337, c338, c339, c340], []⟩ := by rw [h15, h14, h13, h12, h11, h10, h9, h8, h7, h6, h5, h4, h3, h2, h1, ha]; kernel_rfl
  show Q .normal (a15.put none undef) _
  rw [show a15.put none undef = a15 from rfl, hF]
  exact H _ hE
noncomputable def rgB26 : Code := ((Try.f17.body.bind (findReg 26)).getD .skip)
noncomputable def opB26 : Array Oper := opsOf rgB26
theorem rgB26_is : rgB26 = .region 26 opB26 true := by kernel_rfl
theorem opB26_ns : Region.noSelect opB26 = true := by kernel_rfl
theorem opB26_0 : opIs opB26 0 (.move (.tmp 0)) (some 213) := by unfold opIs; kernel_rfl
theorem opB26_1 : opIs opB26 1 (.move (.tmp 8)) (some 214) := by unfold opIs; kernel_rfl
theorem opB26_2 : opIs opB26 2 (.move (.tmp 0)) (some 215) := by unfold opIs; kernel_rfl
theorem opB26_3 : opIs opB26 3 (.move (.tmp 6)) (some 216) := by unfold opIs; kernel_rfl
theorem opB26_4 : opIs opB26 4 (.nilCheck (.tmp 215)) (some 217) := by unfold opIs; kernel_rfl
theorem opB26_5 : opIs opB26 5 (.fieldAddr 53 (.tmp 217) 1) (some 218) := by unfold opIs; kernel_rfl
theorem opB26_6 : opIs opB26 6 (.indexAddr 51 (.tmp 218) (.tmp 216)) (some 219) := by unfold opIs; kernel_rfl
theorem opB26_7 : opIs opB26 7 (.load 50 (.tmp 219)) (some 220) := by unfold opIs; kernel_rfl
theorem opB26_8 : opIs opB26 8 (.fieldAddr 60 (.tmp 5) 5) (some 221) := by unfold opIs; kernel_rfl
theorem opB26_9 : opIs opB26 9 (.load 58 (.tmp 221)) (some 222) := by unfold opIs; kernel_rfl
theorem opB26_10 : opIs opB26 10 (.convert 58 3 (.tmp 222)) (some 223) := by unfold opIs; kernel_rfl
theorem opB26_11 : opIs opB26 11 (.call { callee := .value (.func 43), args := #[.tmp 220, .tmp 223], argTypes := #[50, 3] }) (some 224) := by unfold opIs; kernel_rfl
theorem opB26_12 : opIs opB26 12 (.nilCheck (.tmp 213)) (some 225) := by unfold opIs; kernel_rfl
theorem opB26_13 : opIs opB26 13 (.fieldAddr 53 (.tmp 225) 1) (some 226) := by unfold opIs; kernel_rfl
theorem opB26_14 : opIs opB26 14 (.indexAddr 51 (.tmp 226) (.tmp 214)) (some 227) := by unfold opIs; kernel_rfl
theorem opB26_15 : opIs opB26 15 (.store 50 (.tmp 227) (.tmp 224)) (none) := by unfold opIs; kernel_rfl
set_option maxRecDepth 100000 in
set_option maxHeartbeats 4000000 in
theorem bk_r26 {Q : Exit → Act → World → Prop} {B : Nat} {w W : World} {rv vs : Value} {lr ll : List (Int × Int)} {g gx : Nat} {es : Nat → List Int} {ns : Nat → Nat} {bx : List (Nat × Obj)} {i k c : Nat} {D : List Int} {K0 A0 B0 C0 N T : Int} {m : Nat} {c2 c3 c4 c9 c10 c11 c12 c13 c14 c15 c16 c17 c18 c19 c20 c21 c22 c23 c24 c25 c26 c27 c28 c29 c30 c31 c32 c33 c34 c35 c36 c37 c38 c39 c40 c41 c42 c43 c44 c45 c46 c47 c48 c49 c50 c51 c52 c53 c54 c55 c56 c57 c58 c59 c60 c61 c62 c63 c64 c65 c66 c67 c68 c69 c70 c71 c72 c73 c74 c75 c76 c77 c78 c79 c80 c81 c82 c83 c84 c85 c86 c87 c88 c89 c90 c91 c92 c93 c94 c95 c96 c97 c98 c99 c100 c101 c102 c103 c104 c105 c106 c107 c108 c109 c110 c111 c112 c113 c114 c115 c116 c117 c118 c119 c120 c121 c122 c123 c124 c125 c126 c127 c128 c129 c130 c131 c132 c133 c134 c135 c136 c137 c138 c139 c140 c141 c142 c143 c144 c145 c146 c147 c148 c149 c150 c151 c152 c153 c154 c155 c156 c157 c158 c159 c160 c161 c162 c163 c164 c165 c166 c167 c168 c169 c170 c171 c172 c173 c174 c175 c176 c177 c178 c179 c180 c181 c182 c183 c184 c185 c186 c187 c188 c189 c190 c191 c192 c193 c194 c195 c196 c197 c198 c199 c200 c201 c202 c203 c204 c205 c206 c207 c208 c209 c210 c211 c212 c213 c214 c215 c216 c217 c218 c219 c220 c221 c222 c223 c224 c225 c226 c227 c228 c229 c230 c231 c232 c233 c234 c235 c236 c237 c238 c239 c240 c241 c242 c243 c244 c245 c246 c247 c248 c249 c250 c251 c252 c253 c254 c255 c256 c257 c258 c259 c260 c261 c262 c263 c264 c265 c266 c267 c268 c269 c270 c271 c272 c273 c274 c275 c276 c277 c278 c279 c280 c281 c282 c283 c284 c285 c286 c287 c288 c289 c290 c291 c292 c293 c294 c295 c296 c297 c298 c299 c300 c301 c302 c303 c304 c305 c306 c307 c308 c309 c310 c311 c312 c313 c314 c315 c316 c317 c318 c319 c320 c321 c322 c323 c324 c325 c326 c327 c328 c329 c330 c331 c332 c333 c334 c335 c336 c337 c338 c339 c340 : Value}
    (hi8 : Hid (i < 8)) (hk8 : Hid (k < 8)) (hc8 : Hid (c < 8)) (LD : Hid (D.length = 32))
    (HC : Hid (∀ w, Calls Try.prog 43 #[.agg (VI .i64 (dg (ns i))), .int .i64 N] w fun e w' => e = .returned (.agg (VI .i64 (dg m))) ∧ Below w.heap.size w w')) (hm : Hid (m < P)) (HN : Hid (0 ≤ N ∧ N < 4294967296))
    (mx : (gx, stO K0 A0 B0 C0 D N T) ∈ bx)
    (XX : SB B w rv lr g es ns vs ll bx W)
    (HPN : ∀ c (a : Act) d v w, Q (.panic c) (a.put d v) w → Q (.panic c) a w)
    (H : ∀ W', SB B w rv lr g es (upd ns c m) vs ll bx W' → Q .normal ⟨#[.pointer (some ⟨g, 0, none⟩), rv, c2, c3, c4, .pointer (some ⟨gx, 0, none⟩), .int .i64 (i : Int), .int .i64 (k : Int), .int .i64 (c : Int), c9, c10, c11, c12, c13, c14, c15, c16, c17, c18, c19, c20, c21, c22, c23, c24, c25, c26, c27, c28, c29, c30, c31, c32, c33, c34, c35, c36, c37, c38, c39, c40, c41, c42, c43, c44, c45, c46, c47, c48, c49, c50, c51, c52, c53, c54, c55, c56, c57, c58, c59, c60, c61, c62, c63, c64, c65, c66, c67, c68, c69, c70, c71, c72, c73, c74, c75, c76, c77, c78, c79, c80, c81, c82, c83, c84, c85, c86, c87, c88, c89, c90, c91, c92, c93, c94, c95, c96, c97, c98, c99, c100, c101, c102, c103, c104, c105, c106, c107, c108, c109, c110, c111, c112, c113, c114, c115, c116, c117, c118, c119, c120, c121, c122, c123, c124, c125, c126, c127, c128, c129, c130, c131, c132, c133, c134, c135, c136, c137, c138, c139, c140, c141, c142, c143, c144, c145, c146, c147, c148, c149, c150, c151, c152, c153, c154, c155, c156, c157, c158, c159, c160, c161, c162, c163, c164, c165, c166, c167, c168, c169, c170, c171, c172, c173, c174, c175, c176, c177, c178, c179, c180, c181, c182, c183, c184, c185, c186, c187, c188, c189, c190, c191, c192, c193, c194, c195, c196, c197, c198, c199, c200, c201, c202, c203, c204, c205, c206, c207, c208, c209, c210, c211, c212, .pointer (some ⟨g, 0, none⟩), .int .i64 (c : Int), .pointer (some ⟨g, 0, none⟩), .int .i64 (i : Int), .pointer (some ⟨g, 0, none⟩), .pointer (some ⟨g, 40, none⟩), .pointer (some ⟨g, 40 + i * 16, none⟩), .agg (VI .i64 (dg (ns i))), .pointer (some ⟨gx, 36, none⟩), .int .u32 N, .int .i64 N, .agg (VI .i64 (dg m)), .pointer (some ⟨g, 0, none⟩), .pointer (some ⟨g, 40, none⟩), .pointer (some ⟨g, 40 + c * 16, none⟩), c228, c229, c230, c231, c232, c233, c234, c235, c236, c237, c238, c239, c240, c241, c242, c243, c244, c245, c246, c247, c248, c249, c250, c251, c252, c253, c254, c255, c256, c257, c258, c259, c260, c261, c262, c263, c264, c265, c266, c267, c268, c269, c270, c271, c272, c273, c274, c275, c276, c277, c278, c279, c280, c281, c282, c283, c284, c285, c286, c287, c288, c289, c290, c291, c292, c293, c294, c295, c296, c297, c298, c299, c300, c301, c302, c303, c304, c305, c306, c307, c308, c309, c310, c311, c312, c313, c314, c315, c316, c317, c318, c319, c320, c321, c322, c323, c324, c325, c326, c327, c328, c329, c330, c331, c332, c333, c334, c335, c336, c337, c338, c339, c340], []⟩ W') :
    Code.wp Try.prog rgB26 Q ⟨#[.pointer (some ⟨g, 0, none⟩), rv, c2, c3, c4, .pointer (some ⟨gx, 0, none⟩), .int .i64 (i : Int), .int .i64 (k : Int), .int .i64 (c : Int), c9, c10, c11, c12, c13, c14, c15, c16, c17, c18, c19, c20, c21, c22, c23, c24, c25, c26, c27, c28, c29, c30, c31, c32, c33, c34, c35, c36, c37, c38, c39, c40, c41, c42, c43, c44, c45, c46, c47, c48, c49, c50, c51, c52, c53, c54, c55, c56, c57, c58, c59, c60, c61, c62, c63, c64, c65, c66, c67, c68, c69, c70, c71, c72, c73, c74, c75, c76, c77, c78, c79, c80, c81, c82, c83, c84, c85, c86, c87, c88, c89, c90, c91, c92, c93, c94, c95, c96, c97, c98, c99, c100, c101, c102, c103, c104, c105, c106, c107, c108, c109, c110, c111, c112, c113, c114, c115, c116, c117, c118, c119, c120, c121, c122, c123, c124, c125, c126, c127, c128, c129, c130, c131, c132, c133, c134, c135, c136, c137, c138, c139, c140, c141, c142, c143, c144, c145, c146, c147, c148, c149, c150, c151, c152, c153, c154, c155, c156, c157, c158, c159, c160, c161, c162, c163, c164, c165, c166, c167, c168, c169, c170, c171, c172, c173, c174, c175, c176, c177, c178, c179, c180, c181, c182, c183, c184, c185, c186, c187, c188, c189, c190, c191, c192, c193, c194, c195, c196, c197, c198, c199, c200, c201, c202, c203, c204, c205, c206, c207, c208, c209, c210, c211, c212, c213, c214, c215, c216, c217, c218, c219, c220, c221, c222, c223, c224, c225, c226, c227, c228, c229, c230, c231, c232, c233, c234, c235, c236, c237, c238, c239, c240, c241, c242, c243, c244, c245, c246, c247, c248, c249, c250, c251, c252, c253, c254, c255, c256, c257, c258, c259, c260, c261, c262, c263, c264, c265, c266, c267, c268, c269, c270, c271, c272, c273, c274, c275, c276, c277, c278, c279, c280, c281, c282, c283, c284, c285, c286, c287, c288, c289, c290, c291, c292, c293, c294, c295, c296, c297, c298, c299, c300, c301, c302, c303, c304, c305, c306, c307, c308, c309, c310, c311, c312, c313, c314, c315, c316, c317, c318, c319, c320, c321, c322, c323, c324, c325, c326, c327, c328, c329, c330, c331, c332, c333, c334, c335, c336, c337, c338, c339, c340], []⟩ W := by
  rw [rgB26_is]
  refine wp_region_held_drew (S := fun Y => Y.heap[gx]? = some (stO K0 A0 B0 C0 D N T)) (by kernel_rfl) (XX.drew.row mx) (fun hH => ?_)
  have hV := XX.drew
  clear XX
  obtain ⟨V0, hV0⟩ : ∃ V, W.drew = V := ⟨_, rfl⟩
  rw [hV0] at hH hV ⊢
  clear hV0
  obtain ⟨a0, ha⟩ : ∃ a : Act, a = ⟨#[.pointer (some ⟨g, 0, none⟩), rv, c2, c3, c4, .pointer (some ⟨gx, 0, none⟩), .int .i64 (i : Int), .int .i64 (k : Int), .int .i64 (c : Int), c9, c10, c11, c12, c13, c14, c15, c16, c17, c18, c19, c20, c21, c22, c23, c24, c25, c26, c27, c28, c29, c30, c31, c32, c33, c34, c35, c36, c37, c38, c39, c40, c41, c42, c43, c44, c45, c46, c47, c48, c49, c50, c51, c52, c53, c54, c55, c56, c57, c58, c59, c60, c61, c62, c63, c64, c65, c66, c67, c68, c69, c70, c71, c72, c73, c74, c75, c76, c77, c78, c79, c80, c81, c82, c83, c84, c85, c86, c87, c88, c89, c90, c91, c92, c93, c94, c95, c96, c97, c98, c99, c100, c101, c102, c103, c104, c105, c106, c107, c108, c109, c110, c111, c112, c113, c114, c115, c116, c117, c118, c119, c120, c121, c122, c123, c124, c125, c126, c127, c128, c129, c130, c131, c132, c133, c134, c135, c136, c137, c138, c139, c140, c141, c142, c143, c144, c145, c146, c147, c148, c149, c150, c151, c152, c153, c154, c155, c156, c157, c158, c159, c160, c161, c162, c163, c164, c165, c166, c167, c168, c169, c170, c171, c172, c173, c174, c175, c176, c177, c178, c179, c180, c181, c182, c183, c184, c185, c186, c187, c188, c189, c190, c191, c192, c193, c194, c195, c196, c197, c198, c199, c200, c201, c202, c203, c204, c205, c206, c207, c208, c209, c210, c211, c212, c213, c214, c215, c216, c217, c218, c219, c220, c221, c222, c223, c224, c225, c226, c227, c228, c229, c230, c231, c232, c233, c234, c235, c236, c237, c238, c239, c240, c241, c242, c243, c244, c245, c246, c247, c248, c249, c250, c251, c252, c253, c254, c255, c256, c257, c258, c259, c260, c261, c262, c263, c264, c265, c266, c267, c268, c269, c270, c271, c272, c273, c274, c275, c276, c277, c278, c279, c280, c281, c282, c283, c284, c285, c286, c287, c288, c289, c290, c291, c292, c293, c294, c295, c296, c297, c298, c299, c300, c301, c302, c303, c304, c305, c306, c307, c308, c309, c310, c311, c312, c313, c314, c315, c316, c317, c318, c319, c320, c321, c322, c323, c324, c325, c326, c327, c328, c329, c330, c331, c332, c333, c334, c335, c336, c337, c338, c339, c340], []⟩ := ⟨_, rfl⟩
  have sz0 : a0.tmps.size = 341 := by rw [ha]; kernel_rfl
  have e0_0 : a0.eval (.tmp 0) = .pointer (some ⟨g, 0, none⟩) := by rw [ha]; kernel_rfl
  have e0_5 : a0.eval (.tmp 5) = .pointer (some ⟨gx, 0, none⟩) := by rw [ha]; kernel_rfl
  have e0_6 : a0.eval (.tmp 6) = .int .i64 (i : Int) := by rw [ha]; kernel_rfl
  have e0_8 : a0.eval (.tmp 8) = .int .i64 (c : Int) := by rw [ha]; kernel_rfl
  rw [← ha]
  refine wpAnyH_as (l' := #[false, false, false, false, false, false, false, false, false, false, false, false, false, false, false, false]) (by kernel_rfl) ?_
  refine takeH (v := .pointer (some ⟨g, 0, none⟩)) opB26_0 opB26_ns (by kernel_rfl) (by kernel_rfl) HPN (fun w hw o ho => run_move ho e0_0 w) hH ?_
  refine wpAnyH_as (l' := #[true, false, false, false, false, false, false, false, false, false, false, false, false, false, false, false]) (by kernel_rfl) ?_
  obtain ⟨a1, h1⟩ : ∃ a' : Act, a' = a0.put (some 213) (.pointer (some ⟨g, 0, none⟩)) := ⟨_, rfl⟩
  rw [← h1]
  have sz1 : a1.tmps.size = 341 := by rw [h1, size_put]; exact sz0
  have e1_0 : a1.eval (.tmp 0) = .pointer (some ⟨g, 0, none⟩) := by rw [h1, eval_put_ne _ _ _ _ (by decide)]; exact e0_0
  have e1_5 : a1.eval (.tmp 5) = .pointer (some ⟨gx, 0, none⟩) := by rw [h1, eval_put_ne _ _ _ _ (by decide)]; exact e0_5
  have e1_6 : a1.eval (.tmp 6) = .int .i64 (i : Int) := by rw [h1, eval_put_ne _ _ _ _ (by decide)]; exact e0_6
  have e1_8 : a1.eval (.tmp 8) = .int .i64 (c : Int) := by rw [h1, eval_put_ne _ _ _ _ (by decide)]; exact e0_8
  have e1_213 : a1.eval (.tmp 213) = .pointer (some ⟨g, 0, none⟩) := by rw [h1]; exact eval_put_eq _ _ _ (by rw [sz0]; decide)
  clear e0_0 e0_5 e0_6 e0_8 sz0
  refine takeH (v := .int .i64 (c : Int)) opB26_1 opB26_ns (by kernel_rfl) (by kernel_rfl) HPN (fun w hw o ho => run_move ho e1_8 w) hH ?_
  refine wpAnyH_as (l' := #[true, true, false, false, false, false, false, false, false, false, false, false, false, false, false, false]) (by kernel_rfl) ?_
  obtain ⟨a2, h2⟩ : ∃ a' : Act, a' = a1.put (some 214) (.int .i64 (c : Int)) := ⟨_, rfl⟩
  rw [← h2]
  have sz2 : a2.tmps.size = 341 := by rw [h2, size_put]; exact sz1
  have e2_0 : a2.eval (.tmp 0) = .pointer (some ⟨g, 0, none⟩) := by rw [h2, eval_put_ne _ _ _ _ (by decide)]; exact e1_0
  have e2_5 : a2.eval (.tmp 5) = .pointer (some ⟨gx, 0, none⟩) := by rw [h2, eval_put_ne _ _ _ _ (by decide)]; exact e1_5
  have e2_6 : a2.eval (.tmp 6) = .int .i64 (i : Int) := by rw [h2, eval_put_ne _ _ _ _ (by decide)]; exact e1_6
  have e2_213 : a2.eval (.tmp 213) = .pointer (some ⟨g, 0, none⟩) := by rw [h2, eval_put_ne _ _ _ _ (by decide)]; exact e1_213
  have e2_214 : a2.eval (.tmp 214) = .int .i64 (c : Int) := by rw [h2]; exact eval_put_eq _ _ _ (by rw [sz1]; decide)
  clear e1_0 e1_213 e1_5 e1_6 e1_8 sz1
  refine takeH (v := .pointer (some ⟨g, 0, none⟩)) opB26_2 opB26_ns (by kernel_rfl) (by kernel_rfl) HPN (fun w hw o ho => run_move ho e2_0 w) hH ?_
  refine wpAnyH_as (l' := #[true, true, true, false, false, false, false, false, false, false, false, false, false, false, false, false]) (by kernel_rfl) ?_
  obtain ⟨a3, h3⟩ : ∃ a' : Act, a' = a2.put (some 215) (.pointer (some ⟨g, 0, none⟩)) := ⟨_, rfl⟩
  rw [← h3]
  have sz3 : a3.tmps.size = 341 := by rw [h3, size_put]; exact sz2
  have e3_5 : a3.eval (.tmp 5) = .pointer (some ⟨gx, 0, none⟩) := by rw [h3, eval_put_ne _ _ _ _ (by decide)]; exact e2_5
  have e3_6 : a3.eval (.tmp 6) = .int .i64 (i : Int) := by rw [h3, eval_put_ne _ _ _ _ (by decide)]; exact e2_6
  have e3_213 : a3.eval (.tmp 213) = .pointer (some ⟨g, 0, none⟩) := by rw [h3, eval_put_ne _ _ _ _ (by decide)]; exact e2_213
  have e3_214 : a3.eval (.tmp 214) = .int .i64 (c : Int) := by rw [h3, eval_put_ne _ _ _ _ (by decide)]; exact e2_214
  have e3_215 : a3.eval (.tmp 215) = .pointer (some ⟨g, 0, none⟩) := by rw [h3]; exact eval_put_eq _ _ _ (by rw [sz2]; decide)
  clear e2_0 e2_213 e2_214 e2_5 e2_6 sz2
  refine takeH (v := .int .i64 (i : Int)) opB26_3 opB26_ns (by kernel_rfl) (by kernel_rfl) HPN (fun w hw o ho => run_move ho e3_6 w) hH ?_
  refine wpAnyH_as (l' := #[true, true, true, true, false, false, false, false, false, false, false, false, false, false, false, false]) (by kernel_rfl) ?_
  obtain ⟨a4, h4⟩ : ∃ a' : Act, a' = a3.put (some 216) (.int .i64 (i : Int)) := ⟨_, rfl⟩
  rw [← h4]
  have sz4 : a4.tmps.size = 341 := by rw [h4, size_put]; exact sz3
  have e4_5 : a4.eval (.tmp 5) = .pointer (some ⟨gx, 0, none⟩) := by rw [h4, eval_put_ne _ _ _ _ (by decide)]; exact e3_5
  have e4_213 : a4.eval (.tmp 213) = .pointer (some ⟨g, 0, none⟩) := by rw [h4, eval_put_ne _ _ _ _ (by decide)]; exact e3_213
  have e4_214 : a4.eval (.tmp 214) = .int .i64 (c : Int) := by rw [h4, eval_put_ne _ _ _ _ (by decide)]; exact e3_214
  have e4_215 : a4.eval (.tmp 215) = .pointer (some ⟨g, 0, none⟩) := by rw [h4, eval_put_ne _ _ _ _ (by decide)]; exact e3_215
  have e4_216 : a4.eval (.tmp 216) = .int .i64 (i : Int) := by rw [h4]; exact eval_put_eq _ _ _ (by rw [sz3]; decide)
  clear e3_213 e3_214 e3_215 e3_5 e3_6 sz3
  refine takeH (v := .pointer (some ⟨g, 0, none⟩)) opB26_4 opB26_ns (by kernel_rfl) (by kernel_rfl) HPN (fun w hw o ho => run_nilCheck ho e4_215 w) hH ?_
  refine wpAnyH_as (l' := #[true, true, true, true, true, false, false, false, false, false, false, false, false, false, false, false]) (by kernel_rfl) ?_
  obtain ⟨a5, h5⟩ : ∃ a' : Act, a' = a4.put (some 217) (.pointer (some ⟨g, 0, none⟩)) := ⟨_, rfl⟩
  rw [← h5]
  have sz5 : a5.tmps.size = 341 := by rw [h5, size_put]; exact sz4
  have e5_5 : a5.eval (.tmp 5) = .pointer (some ⟨gx, 0, none⟩) := by rw [h5, eval_put_ne _ _ _ _ (by decide)]; exact e4_5
  have e5_213 : a5.eval (.tmp 213) = .pointer (some ⟨g, 0, none⟩) := by rw [h5, eval_put_ne _ _ _ _ (by decide)]; exact e4_213
  have e5_214 : a5.eval (.tmp 214) = .int .i64 (c : Int) := by rw [h5, eval_put_ne _ _ _ _ (by decide)]; exact e4_214
  have e5_216 : a5.eval (.tmp 216) = .int .i64 (i : Int) := by rw [h5, eval_put_ne _ _ _ _ (by decide)]; exact e4_216
  have e5_217 : a5.eval (.tmp 217) = .pointer (some ⟨g, 0, none⟩) := by rw [h5]; exact eval_put_eq _ _ _ (by rw [sz4]; decide)
  clear e4_213 e4_214 e4_215 e4_216 e4_5 sz4
  refine takeH (v := .pointer (some ⟨g, 40, none⟩)) opB26_5 opB26_ns (by kernel_rfl) (by kernel_rfl) HPN (fun w hw o ho => run_fieldN ho e5_217 w) hH ?_
  refine wpAnyH_as (l' := #[true, true, true, true, true, true, false, false, false, false, false, false, false, false, false, false]) (by kernel_rfl) ?_
  obtain ⟨a6, h6⟩ : ∃ a' : Act, a' = a5.put (some 218) (.pointer (some ⟨g, 40, none⟩)) := ⟨_, rfl⟩
  rw [← h6]
  have sz6 : a6.tmps.size = 341 := by rw [h6, size_put]; exact sz5
  have e6_5 : a6.eval (.tmp 5) = .pointer (some ⟨gx, 0, none⟩) := by rw [h6, eval_put_ne _ _ _ _ (by decide)]; exact e5_5
  have e6_213 : a6.eval (.tmp 213) = .pointer (some ⟨g, 0, none⟩) := by rw [h6, eval_put_ne _ _ _ _ (by decide)]; exact e5_213
  have e6_214 : a6.eval (.tmp 214) = .int .i64 (c : Int) := by rw [h6, eval_put_ne _ _ _ _ (by decide)]; exact e5_214
  have e6_216 : a6.eval (.tmp 216) = .int .i64 (i : Int) := by rw [h6, eval_put_ne _ _ _ _ (by decide)]; exact e5_216
  have e6_218 : a6.eval (.tmp 218) = .pointer (some ⟨g, 40, none⟩) := by rw [h6]; exact eval_put_eq _ _ _ (by rw [sz5]; decide)
  clear e5_213 e5_214 e5_216 e5_217 e5_5 sz5
  refine takeH (v := .pointer (some ⟨g, 40 + i * 16, none⟩)) opB26_6 opB26_ns (by kernel_rfl) (by kernel_rfl) HPN (fun w hw o ho => run_indexN hi8.out ho e6_218 e6_216 w) hH ?_
  refine wpAnyH_as (l' := #[true, true, true, true, true, true, true, false, false, false, false, false, false, false, false, false]) (by kernel_rfl) ?_
  obtain ⟨a7, h7⟩ : ∃ a' : Act, a' = a6.put (some 219) (.pointer (some ⟨g, 40 + i * 16, none⟩)) := ⟨_, rfl⟩
  rw [← h7]
  have sz7 : a7.tmps.size = 341 := by rw [h7, size_put]; exact sz6
  have e7_5 : a7.eval (.tmp 5) = .pointer (some ⟨gx, 0, none⟩) := by rw [h7, eval_put_ne _ _ _ _ (by decide)]; exact e6_5
  have e7_213 : a7.eval (.tmp 213) = .pointer (some ⟨g, 0, none⟩) := by rw [h7, eval_put_ne _ _ _ _ (by decide)]; exact e6_213
  have e7_214 : a7.eval (.tmp 214) = .int .i64 (c : Int) := by rw [h7, eval_put_ne _ _ _ _ (by decide)]; exact e6_214
  have e7_219 : a7.eval (.tmp 219) = .pointer (some ⟨g, 40 + i * 16, none⟩) := by rw [h7]; exact eval_put_eq _ _ _ (by rw [sz6]; decide)
  clear e6_213 e6_214 e6_216 e6_218 e6_5 sz6
  refine takeH (v := .pointer (some ⟨gx, 36, none⟩)) opB26_8 opB26_ns (by kernel_rfl) (by kernel_rfl) HPN (fun w hw o ho => run_stN ho e7_5 w) hH ?_
  refine wpAnyH_as (l' := #[true, true, true, true, true, true, true, false, true, false, false, false, false, false, false, false]) (by kernel_rfl) ?_
  obtain ⟨a8, h8⟩ : ∃ a' : Act, a' = a7.put (some 221) (.pointer (some ⟨gx, 36, none⟩)) := ⟨_, rfl⟩
  rw [← h8]
  have sz8 : a8.tmps.size = 341 := by rw [h8, size_put]; exact sz7
  have e8_213 : a8.eval (.tmp 213) = .pointer (some ⟨g, 0, none⟩) := by rw [h8, eval_put_ne _ _ _ _ (by decide)]; exact e7_213
  have e8_214 : a8.eval (.tmp 214) = .int .i64 (c : Int) := by rw [h8, eval_put_ne _ _ _ _ (by decide)]; exact e7_214
  have e8_219 : a8.eval (.tmp 219) = .pointer (some ⟨g, 40 + i * 16, none⟩) := by rw [h8, eval_put_ne _ _ _ _ (by decide)]; exact e7_219
  have e8_221 : a8.eval (.tmp 221) = .pointer (some ⟨gx, 36, none⟩) := by rw [h8]; exact eval_put_eq _ _ _ (by rw [sz7]; decide)
  clear e7_213 e7_214 e7_219 e7_5 sz7
  refine takeH (v := .int .u32 N) opB26_9 opB26_ns (by kernel_rfl) (by kernel_rfl) HPN (fun w hw o ho => run_loadU32 ho e8_221 w (st_n hw LD.out)) hH ?_
  refine wpAnyH_as (l' := #[true, true, true, true, true, true, true, false, true, true, false, false, false, false, false, false]) (by kernel_rfl) ?_
  obtain ⟨a9, h9⟩ : ∃ a' : Act, a' = a8.put (some 222) (.int .u32 N) := ⟨_, rfl⟩
  rw [← h9]
  have sz9 : a9.tmps.size = 341 := by rw [h9, size_put]; exact sz8
  have e9_213 : a9.eval (.tmp 213) = .pointer (some ⟨g, 0, none⟩) := by rw [h9, eval_put_ne _ _ _ _ (by decide)]; exact e8_213
  have e9_214 : a9.eval (.tmp 214) = .int .i64 (c : Int) := by rw [h9, eval_put_ne _ _ _ _ (by decide)]; exact e8_214
  have e9_219 : a9.eval (.tmp 219) = .pointer (some ⟨g, 40 + i * 16, none⟩) := by rw [h9, eval_put_ne _ _ _ _ (by decide)]; exact e8_219
  have e9_222 : a9.eval (.tmp 222) = .int .u32 N := by rw [h9]; exact eval_put_eq _ _ _ (by rw [sz8]; decide)
  clear e8_213 e8_214 e8_219 e8_221 sz8
  refine takeH (v := .int .i64 N) opB26_10 opB26_ns (by kernel_rfl) (by kernel_rfl) HPN (fun w hw o ho => run_conv HN.out ho e9_222 w) hH ?_
  refine wpAnyH_as (l' := #[true, true, true, true, true, true, true, false, true, true, true, false, false, false, false, false]) (by kernel_rfl) ?_
  obtain ⟨a10, h10⟩ : ∃ a' : Act, a' = a9.put (some 223) (.int .i64 N) := ⟨_, rfl⟩
  rw [← h10]
  have sz10 : a10.tmps.size = 341 := by rw [h10, size_put]; exact sz9
  have e10_213 : a10.eval (.tmp 213) = .pointer (some ⟨g, 0, none⟩) := by rw [h10, eval_put_ne _ _ _ _ (by decide)]; exact e9_213
  have e10_214 : a10.eval (.tmp 214) = .int .i64 (c : Int) := by rw [h10, eval_put_ne _ _ _ _ (by decide)]; exact e9_214
  have e10_219 : a10.eval (.tmp 219) = .pointer (some ⟨g, 40 + i * 16, none⟩) := by rw [h10, eval_put_ne _ _ _ _ (by decide)]; exact e9_219
  have e10_223 : a10.eval (.tmp 223) = .int .i64 N := by rw [h10]; exact eval_put_eq _ _ _ (by rw [sz9]; decide)
  clear e9_213 e9_214 e9_219 e9_222 sz9
  refine takeH (v := .pointer (some ⟨g, 0, none⟩)) opB26_12 opB26_ns (by kernel_rfl) (by kernel_rfl) HPN (fun w hw o ho => run_nilCheck ho e10_213 w) hH ?_
  refine wpAnyH_as (l' := #[true, true, true, true, true, true, true, false, true, true, true, false, true, false, false, false]) (by kernel_rfl) ?_
  obtain ⟨a11, h11⟩ : ∃ a' : Act, a' = a10.put (some 225) (.pointer (some ⟨g, 0, none⟩)) := ⟨_, rfl⟩
  rw [← h11]
  have sz11 : a11.tmps.size = 341 := by rw [h11, size_put]; exact sz10
  have e11_214 : a11.eval (.tmp 214) = .int .i64 (c : Int) := by rw [h11, eval_put_ne _ _ _ _ (by decide)]; exact e10_214
  have e11_219 : a11.eval (.tmp 219) = .pointer (some ⟨g, 40 + i * 16, none⟩) := by rw [h11, eval_put_ne _ _ _ _ (by decide)]; exact e10_219
  have e11_223 : a11.eval (.tmp 223) = .int .i64 N := by rw [h11, eval_put_ne _ _ _ _ (by decide)]; exact e10_223
  have e11_225 : a11.eval (.tmp 225) = .pointer (some ⟨g, 0, none⟩) := by rw [h11]; exact eval_put_eq _ _ _ (by rw [sz10]; decide)
  clear e10_213 e10_214 e10_219 e10_223 sz10
  refine takeH (v := .pointer (some ⟨g, 40, none⟩)) opB26_13 opB26_ns (by kernel_rfl) (by kernel_rfl) HPN (fun w hw o ho => run_fieldN ho e11_225 w) hH ?_
  refine wpAnyH_as (l' := #[true, true, true, true, true, true, true, false, true, true, true, false, true, true, false, false]) (by kernel_rfl) ?_
  obtain ⟨a12, h12⟩ : ∃ a' : Act, a' = a11.put (some 226) (.pointer (some ⟨g, 40, none⟩)) := ⟨_, rfl⟩
  rw [← h12]
  have sz12 : a12.tmps.size = 341 := by rw [h12, size_put]; exact sz11
  have e12_214 : a12.eval (.tmp 214) = .int .i64 (c : Int) := by rw [h12, eval_put_ne _ _ _ _ (by decide)]; exact e11_214
  have e12_219 : a12.eval (.tmp 219) = .pointer (some ⟨g, 40 + i * 16, none⟩) := by rw [h12, eval_put_ne _ _ _ _ (by decide)]; exact e11_219
  have e12_223 : a12.eval (.tmp 223) = .int .i64 N := by rw [h12, eval_put_ne _ _ _ _ (by decide)]; exact e11_223
  have e12_226 : a12.eval (.tmp 226) = .pointer (some ⟨g, 40, none⟩) := by rw [h12]; exact eval_put_eq _ _ _ (by rw [sz11]; decide)
  clear e11_214 e11_219 e11_223 e11_225 sz11
  refine readyLd1 (v := .agg (VI .i64 (dg (ns i)))) opB26_7 (by kernel_rfl) hH (fun o ho => run_loadN (dg_len _) ho e12_219 _ (hV.bn.rangeN hi8.out)) ?_
  refine wpAnyH_as (l' := #[true, true, true, true, true, true, true, true, true, true, true, false, true, true, false, false]) (by kernel_rfl) ?_
  obtain ⟨a13, h13⟩ : ∃ a' : Act, a' = a12.put (some 220) (.agg (VI .i64 (dg (ns i)))) := ⟨_, rfl⟩
  rw [← h13]
  have sz13 : a13.tmps.size = 341 := by rw [h13, size_put]; exact sz12
  have e13_214 : a13.eval (.tmp 214) = .int .i64 (c : Int) := by rw [h13, eval_put_ne _ _ _ _ (by decide)]; exact e12_214
  have e13_223 : a13.eval (.tmp 223) = .int .i64 N := by rw [h13, eval_put_ne _ _ _ _ (by decide)]; exact e12_223
  have e13_226 : a13.eval (.tmp 226) = .pointer (some ⟨g, 40, none⟩) := by rw [h13, eval_put_ne _ _ _ _ (by decide)]; exact e12_226
  have e13_220 : a13.eval (.tmp 220) = .agg (VI .i64 (dg (ns i))) := by rw [h13]; exact eval_put_eq _ _ _ (by rw [sz12]; decide)
  clear e12_214 e12_219 e12_223 e12_226 sz12
  refine readyH opB26_11 (by kernel_rfl) (fun o ho hd => wpCall (v := .agg (VI .i64 (dg m))) ho hd (args := #[.agg (VI .i64 (dg (ns i))), .int .i64 N]) (by simp only [List.map_toArray, List.map_cons, List.map_nil, e13_220, e13_223] <;> rfl) (fun _ => rfl) (HC.out _) (fun w1 hw1 => ?_))
  have hV1 := hV.below hw1
  refine ⟨hV1.row mx, ?_⟩
  have hH := hV1.row mx
  refine wpAnyH_as (l' := #[true, true, true, true, true, true, true, true, true, true, true, true, true, true, false, false]) (by kernel_rfl) ?_
  obtain ⟨a14, h14⟩ : ∃ a' : Act, a' = a13.put (some 224) (.agg (VI .i64 (dg m))) := ⟨_, rfl⟩
  rw [← h14]
  have sz14 : a14.tmps.size = 341 := by rw [h14, size_put]; exact sz13
  have e14_214 : a14.eval (.tmp 214) = .int .i64 (c : Int) := by rw [h14, eval_put_ne _ _ _ _ (by decide)]; exact e13_214
  have e14_226 : a14.eval (.tmp 226) = .pointer (some ⟨g, 40, none⟩) := by rw [h14, eval_put_ne _ _ _ _ (by decide)]; exact e13_226
  have e14_224 : a14.eval (.tmp 224) = .agg (VI .i64 (dg m)) := by rw [h14]; exact eval_put_eq _ _ _ (by rw [sz13]; decide)
  clear e13_214 e13_220 e13_223 e13_226 sz13
  refine takeH (v := .pointer (some ⟨g, 40 + c * 16, none⟩)) opB26_14 opB26_ns (by kernel_rfl) (by kernel_rfl) HPN (fun w hw o ho => run_indexN hc8.out ho e14_226 e14_214 w) hH ?_
  refine wpAnyH_as (l' := #[true, true, true, true, true, true, true, true, true, true, true, true, true, true, true, false]) (by kernel_rfl) ?_
  obtain ⟨a15, h15⟩ : ∃ a' : Act, a' = a14.put (some 227) (.pointer (some ⟨g, 40 + c * 16, none⟩)) := ⟨_, rfl⟩
  rw [← h15]
  have sz15 : a15.tmps.size = 341 := by rw [h15, size_put]; exact sz14
  have e15_224 : a15.eval (.tmp 224) = .agg (VI .i64 (dg m)) := by rw [h15, eval_put_ne _ _ _ _ (by decide)]; exact e14_224
  have e15_227 : a15.eval (.tmp 227) = .pointer (some ⟨g, 40 + c * 16, none⟩) := by rw [h15]; exact eval_put_eq _ _ _ (by rw [sz14]; decide)
  clear e14_214 e14_224 e14_226 sz14
  refine readyH opB26_15 (by kernel_rfl) (fun o ho hd => wp_store_mid _ _ _ ho g (40 + c * 16) (VI .i64 (dg m)) e15_227 e15_224 (by rw [VI_size, dg_len]; exact hV1.bn.thereN hc8.out) (by rw [VI_size, dg_len]; kernel_rfl) (VI_one _ _) ?_)
  have hE := hV1.setN hc8.out hm.out
  rw [hd]
  refine ⟨hE.row mx, ?_⟩
  refine wpAnyH_as (l' := #[true, true, true, true, true, true, true, true, true, true, true, true, true, true, true, true]) (by kernel_rfl) ?_
  refine wpAnyH_done (by kernel_rfl) ?_ _
  have hF : a15 = ⟨#[.pointer (some ⟨g, 0, none⟩), rv, c2, c3, c4, .pointer (some ⟨gx, 0, none⟩), .int .i64 (i : Int), .int .i64 (k : Int), .int .i64 (c : Int), c9, c10, c11, c12, c13, c14, c15, c16, c17, c18, c19, c20, c21, c22, c23, c24, c25, c26, c27, c28, c29, c30, c31, c32, c33, c34, c35, c36, c37, c38, c39, c40, c41, c42, c43, c44, c45, c46, c47, c48, c49, c50, c51, c52, c53, c54, c55, c56, c57, c58, c59, c60, c61, c62, c63, c64, c65, c66, c67, c68, c69, c70, c71, c72, c73, c74, c75, c76, c77, c78, c79, c80, c81, c82, c83, c84, c85, c86, c87, c88, c89, c90, c91, c92, c93, c94, c95, c96, c97, c98, c99, c100, c101, c102, c103, c104, c105, c106, c107, c108, c109, c110, c111, c112, c113, c114, c115, c116, c117, c118, c119, c120, c121, c122, c123, c124, c125, c126, c127, c128, c129, c130, c131, c132, c133, c134, c135, c136, c137, c138, c139, c140, c141, c142, c143, c144, c145, c146, c147, c148, c149, c150, c151, c152, c153, c154, c155, c156, c157, c158, c159, c160, c161, c162, c163, c164, c165, c166, c167, c168, c169, c170, c171, c172, c173, c174, c175, c176, c177, c178, c179, c180, c181, c182, c183, c184, c185, c186, c187, c188, c189, c190, c191, c192, c193, c194, c195, c196, c197, c198, c199, c200, c201, c202, c203, c204, c205, c206, c207, c208, c209, c210, c211, c212, .pointer (some ⟨g, 0, none⟩), .int .i64 (c : Int), .pointer (some ⟨g, 0, none⟩), .int .i64 (i : Int), .pointer (some ⟨g, 0, none⟩), .pointer (some ⟨g, 40, none⟩), .pointer (some ⟨g, 40 + i * 16, none⟩), .agg (VI .i64 (dg (ns i))), .pointer (some ⟨gx, 36, none⟩), .int .u32 N, .int .i64 N, .agg (VI .i64 (dg m)), .pointer (some ⟨g, 0, none⟩), .pointer (some ⟨g, 40, none⟩), .pointer (some ⟨g, 40 + c * 16, none⟩), c228, c229, c230, c231, c232, c233, c234, c235, c236, c237, c238, c239, c240, c241, c242, c243, c244, c245, c246, c247, c248, c249, c250, c251, c252, c253, c254, c255, c256, c257, c258, c259, c260, c261, c262, c263, c264, c265, c266, c267, c268, c269, c270, c271, c272, c273, c274, c275, c276, c277, c278, c279, c280, c281, c282, c283, c284, c285, c286, c287, c288, c289, c290, c291, c292, c293, c294, c295, c296, c297, c298, c299, c300, c301, c302, c303, c304, c305, c306, c307, c308, c309, c310, c311, c312, c313, c314, c315, c316, c317, c318, c319, c320, c321, c322, c323, c324, c325, c326, c327, c328, c329, c330, c331, c332, c333, c334, c335, c336, c337, c338, c339, c340], []⟩ := by rw [h15, h14, h13, h12, h11, h10, h9, h8, h7, h6, h5, h4, h3, h2, h1, ha]; kernel_rfl
  show Q .normal (a15.put none undef) _
  rw [show a15.put none undef = a15 from rfl, hF]
  exact H _ hE
end Go.Proofs.Ytacofgmnmofkpaa
