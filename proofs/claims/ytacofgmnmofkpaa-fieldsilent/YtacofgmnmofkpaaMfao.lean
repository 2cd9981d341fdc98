import Derived.Test.YtacofgmnmofkpaaMfal
import Derived.Test.YtacofgmnmofkpaaMfam
namespace Go.Proofs.Ytacofgmnmofkpaa
set_option linter.unusedSimpArgs false
set_option linter.unusedVariables false
open Go.ChangeShapes Go.WideShapes Go.ChangeAt Go.RowKit Go.Pin Go.Fld
noncomputable def rgB13 : Code := ((Try.f17.body.bind (findReg 13)).getD .skip)
noncomputable def opB13 : Array Oper := opsOf rgB13
theorem rgB13_is : rgB13 = .region 13 opB13 true := by kernel_rfl
theorem opB13_ns : Region.noSelect opB13 = true := by kernel_rfl
theorem opB13_0 : opIs opB13 0 (.move (.tmp 0)) (some 81) := by unfold opIs; kernel_rfl
theorem opB13_1 : opIs opB13 1 (.move (.tmp 8)) (some 82) := by unfold opIs; kernel_rfl
theorem opB13_2 : opIs opB13 2 (.move (.tmp 1)) (some 83) := by unfold opIs; kernel_rfl
theorem opB13_3 : opIs opB13 3 (.move (.tmp 0)) (some 84) := by unfold opIs; kernel_rfl
theorem opB13_4 : opIs opB13 4 (.move (.tmp 6)) (some 85) := by unfold opIs; kernel_rfl
theorem opB13_5 : opIs opB13 5 (.nilCheck (.tmp 84)) (some 86) := by unfold opIs; kernel_rfl
theorem opB13_6 : opIs opB13 6 (.fieldAddr 53 (.tmp 86) 0) (some 87) := by unfold opIs; kernel_rfl
theorem opB13_7 : opIs opB13 7 (.indexAddr 48 (.tmp 87) (.tmp 85)) (some 88) := by unfold opIs; kernel_rfl
theorem opB13_8 : opIs opB13 8 (.load 47 (.tmp 88)) (some 89) := by unfold opIs; kernel_rfl
theorem opB13_9 : opIs opB13 9 (.move (.tmp 0)) (some 90) := by unfold opIs; kernel_rfl
theorem opB13_10 : opIs opB13 10 (.move (.tmp 7)) (some 91) := by unfold opIs; kernel_rfl
theorem opB13_11 : opIs opB13 11 (.nilCheck (.tmp 90)) (some 92) := by unfold opIs; kernel_rfl
theorem opB13_12 : opIs opB13 12 (.fieldAddr 53 (.tmp 92) 0) (some 93) := by unfold opIs; kernel_rfl
theorem opB13_13 : opIs opB13 13 (.indexAddr 48 (.tmp 93) (.tmp 91)) (some 94) := by unfold opIs; kernel_rfl
theorem opB13_14 : opIs opB13 14 (.load 47 (.tmp 94)) (some 95) := by unfold opIs; kernel_rfl
theorem opB13_15 : opIs opB13 15 (.call { callee := .value (.func 37), args := #[.tmp 83, .tmp 89, .tmp 95], argTypes := #[23, 47, 47] }) (some 96) := by unfold opIs; kernel_rfl
theorem opB13_16 : opIs opB13 16 (.nilCheck (.tmp 81)) (some 97) := by unfold opIs; kernel_rfl
theorem opB13_17 : opIs opB13 17 (.fieldAddr 53 (.tmp 97) 0) (some 98) := by unfold opIs; kernel_rfl
theorem opB13_18 : opIs opB13 18 (.indexAddr 48 (.tmp 98) (.tmp 82)) (some 99) := by unfold opIs; kernel_rfl
theorem opB13_19 : opIs opB13 19 (.store 47 (.tmp 99) (.tmp 96)) (none) := by unfold opIs; kernel_rfl
set_option maxRecDepth 100000 in
set_option maxHeartbeats 4000000 in
theorem bk_r13 {Q : Exit → Act → World → Prop} {B : Nat} {w W : World} {rv vs : Value} {lr ll : List (Int × Int)} {g gx : Nat} {es : Nat → List Int} {ns : Nat → Nat} {bx : List (Nat × Obj)} {i k c : Nat} {D : List Int} {K0 A0 B0 C0 N T : Int} {z : List Int} {c2 c3 c4 c9 c10 c11 c12 c13 c14 c15 c16 c17 c18 c19 c20 c21 c22 c23 c24 c25 c26 c27 c28 c29 c30 c31 c32 c33 c34 c35 c36 c37 c38 c39 c40 c41 c42 c43 c44 c45 c46 c47 c48 c49 c50 c51 c52 c53 c54 c55 c56 c57 c58 c59 c60 c61 c62 c63 c64 c65 c66 c67 c68 c69 c70 c71 c72 c73 c74 c75 c76 c77 c78 c79 c80 c81 c82 c83 c84 c85 c86 c87 c88 c89 c90 c91 c92 c93 c94 c95 c96 c97 c98 c99 c100 c101 c102 c103 c104 c105 c106 c107 c108 c109 c110 c111 c112 c113 c114 c115 c116 c117 c118 c119 c120 c121 c122 c123 c124 c125 c126 c127 c128 c129 c130 c131 c132 c133 c134 c135 c136 c137 c138 c139 c140 c141 c142 c143 c144 c145 c146 c147 c148 c149 c150 c151 c152 c153 c154 c155 c156 c157 c158 c159 c160 c161 c162 c163 c164 c165 c166 c167 c168 c169 c170 c171 c172 c173 c174 c175 c176 c177 c178 c179 c180 c181 c182 c183 c184 c185 c186 c187 c188 c189 c190 c191 c192 c193 c194 c195 c196 c197 c198 c199 c200 c201 c202 c203 c204 c205 c206 c207 c208 c209 c210 c211 c212 c213 c214 c215 c216 c217 c218 c219 c220 c221 c222 c223 c224 c225 c226 c227 c228 c229 c230 c231 c232 c233 c234 c235 c236 c237 c238 c239 c240 c241 c242 c243 c244 c245 c246 c247 c248 c249 c250 c251 c252 c253 c254 c255 c256 c257 c258 c259 c260 c261 c262 c263 c264 c265 c266 c267 c268 c269 c270 c271 c272 c273 c274 c275 c276 c277 c278 c279 c280 c281 c282 c283 c284 c285 c286 c287 c288 c289 c290 c291 c292 c293 c294 c295 c296 c297 c298 c299 c300 c301 c302 c303 c304 c305 c306 c307 c308 c309 c310 c311 c312 c313 c314 c315 c316 c317 c318 c319 c320 c321 c322 c323 c324 c325 c326 c327 c328 c329 c330 c331 c332 c333 c334 c335 c336 c337 c338 c339 c340 : Value}
    (hi8 : Hid (i < 8)) (hk8 : Hid (k < 8)) (hc8 : Hid (c < 8)) (LD : Hid (D.length = 32))
    (HC : Hid (∀ B w rv l bx wr, Ev B w rv l bx wr → l.length ≤ 1000000 → Calls Try.prog 37 #[rv, .agg (VI .u64 (es i)), .agg (VI .u64 (es k))] wr fun e w' => e = .returned (.agg (VI .u64 z)) ∧ Ev B w rv (l ++ [(3, 2)]) bx w')) (hl : Hid (lr.length ≤ 1000000)) (lz : Hid (Lim z))
    (mx : (gx, stO K0 A0 B0 C0 D N T) ∈ bx)
    (XX : SB B w rv lr g es ns vs ll bx W)
    (HPN : ∀ c (a : Act) d v w, Q (.panic c) (a.put d v) w → Q (.panic c) a w)
    (H : ∀ W', SB B w rv (lr ++ [(3, 2)]) g (upd es c z) ns vs ll bx W' → Q .normal ⟨#[.pointer (some ⟨g, 0, none⟩), rv, c2, c3, c4, .pointer (some ⟨gx, 0, none⟩), .int .i64 (i : Int), .int .i64 (k : Int), .int .i64 (c : Int), c9, c10, c11, c12, c13, c14, c15, c16, c17, c18, c19, c20, c21, c22, c23, c24, c25, c26, c27, c28, c29, c30, c31, c32, c33, c34, c35, c36, c37, c38, c39, c40, c41, c42, c43, c44, c45, c46, c47, c48, c49, c50, c51, c52, c53, c54, c55, c56, c57, c58, c59, c60, c61, c62, c63, c64, c65, c66, c67, c68, c69, c70, c71, c72, c73, c74, c75, c76, c77, c78, c79, c80, .pointer (some ⟨g, 0, none⟩), .int .i64 (c : Int), rv, .pointer (some ⟨g, 0, none⟩), .int .i64 (i : Int), .pointer (some ⟨g, 0, none⟩), .pointer (some ⟨g, 0, none⟩), .pointer (some ⟨g, i * 5, none⟩), .agg (VI .u64 (es i)), .pointer (some ⟨g, 0, none⟩), .int .i64 (k : Int), .pointer (some ⟨g, 0, none⟩), .pointer (some ⟨g, 0, none⟩), .pointer (some ⟨g, k * 5, none⟩), .agg (VI .u64 (es k)), .agg (VI .u64 z), .pointer (some ⟨g, 0, none⟩), .pointer (some ⟨g, 0, none⟩), .pointer (some ⟨g, c * 5, none⟩), c100, c101, c102, c103, c104, c105, c106, c107, c108, c109, c110, c111, c112, c113, c114, c115, c116, c117, c118, c119, c120, c121, c122, c123, c124, c125, c126, c127, c128, c129, c130, c131, c132, c133, c134, c135, c136, c137, c138, c139, c140, c141, c142, c143, c144, c145, c146, c147, c148, c149, c150, c151, c152, c153, c154, c155, c156, c157, c158, c159, c160, c161, c162, c163, c164, c165, c166, c167, c168, c169, c170, c171, c172, c173, c174, c175, c176, c177, c178, c179, c180, c181, c182, c183, c184, c185, c186, c187, c188, c189, c190, c191, c192, c193, c194, c195, c196, c197, c198, c199, c200, c201, c202, c203, c204, c205, c206, c207, c208, c209, c210, c211, c212, c213, c214, c215, c216, c217, c218, c219, c220, c221, c222, c223, c224, c225, c226, c227, c228, c229, c230, c231, c232, c233, c234, c235, c236, c237, c238, c239, c240, c241, c242, c243, c244, c245, c246, c247, c248, c249, c250, c251, c252, c253, c254, c255, c256, c257, c258, c259, c260, c261, c262, c263, c264, c265, c266, c267, c268, c269, c270, c271, c272, c273, c274, c275, c276, c277, c278, c279, c280, c281, c282, c283, c284, c285, c286, c287, c288, c289, c290, c291, c292, c293, c294, c295, c296, c297, c298, c299, c300, c301, c302, c303, c304, c305, c306, c307, c308, c309, c310, c311, c312, c313, c314, c315, c316, c317, c318, c319, c320, c321, c322, c323, c324, c325, c326, c327, c328, c329, c330, c331, c332, c333, c334, c335, c336, c337, c338, c339, c340], []⟩ W') :
    Code.wp Try.prog rgB13 Q ⟨#[.pointer (some ⟨g, 0, none⟩), rv, c2, c3, c4, .pointer (some ⟨gx, 0, none⟩), .int .i64 (i : Int), .int .i64 (k : Int), .int .i64 (c : Int), c9, c10, c11, c12, c13, c14, c15, c16, c17, c18, c19, c20, c21, c22, c23, c24, c25, c26, c27, c28, c29, c30, c31, c32, c33, c34, c35, c36, c37, c38, c39, c40, c41, c42, c43, c44, c45, c46, c47, c48, c49, c50, c51, c52, c53, c54, c55, c56, c57, c58, c59, c60, c61, c62, c63, c64, c65, c66, c67, c68, c69, c70, c71, c72, c73, c74, c75, c76, c77, c78, c79, c80, c81, c82, c83, c84, c85, c86, c87, c88, c89, c90, c91, c92, c93, c94, c95, c96, c97, c98, c99, c100, c101, c102, c103, c104, c105, c106, c107, c108, c109, c110, c111, c112, c113, c114, c115, c116, c117, c118, c119, c120, c121, c122, c123, c124, c125, c126, c127, c128, c129, c130, c131, c132, c133, c134, c135, c136, c137, c138, c139, c140, c141, c142, c143, c144, c145, c146, c147, c148, c149, c150, c151, c152, c153, c154, c155, c156, c157, c158, c159, c160, c161, c162, c163, c164, c165, c166, c167, c168, c169, c170, c171, c172, c173, c174, c175, c176, c177, c178, c179, c180, c181, c182, c183, c184, c185, c186, c187, c188, c189, c190, c191, c192, c193, c194, c195, c196, c197, c198, c199, c200, c201, c202, c203, c204, c205, c206, c207, c208, c209, c210, c211, c212, c213, c214, c215, c216, c217, c218, c219, c220, c221, c222, c223, c224, c225, c226, c227, c228, c229, c230, c231, c232, c233, c234, c235, c236, c237, c238, c239, c240, c241, c242, c243, c244, c245, c246, c247, c248, c249, c250, c251, c252, c253, c254, c255, c256, c257, c258, c259, c260, c261, c262, c263, c264, c265, c266, c267, c268, c269, c270, c271, c272, c273, c274, c275, c276, c277, c278, c279, c280, c281, c282, c283, c284, c285, c286, c287, c288, c289, c290, c291, c292, c293, c294, c295, c296, c297, c298, c299, c300, c301, c302, c303, c304, c305, c306, c307, c308, c309, c310, c311, c312, c313, c314, c315, c316, c317, c318, c319, c320, c321, c322, c323, c324, c325, c326, c327, c328, c329, c330, c331, c332, c333, c334, c335, c336, c337, c338, c339, c340], []⟩ W := by
  rw [rgB13_is]
  refine wp_region_held_drew (S := fun Y => Y.heap[gx]? = some (stO K0 A0 B0 C0 D N T)) (by kernel_rfl) (XX.drew.row mx) (fun hH => ?_)
  have hV := XX.drew
  clear XX
  obtain ⟨V0, hV0⟩ : ∃ V, W.drew = V := ⟨_, rfl⟩
  rw [hV0] at hH hV ⊢
  clear hV0
  obtain ⟨a0, ha⟩ : ∃ a : Act, a = ⟨#[.pointer (some ⟨g, 0, none⟩), rv, c2, c3, c4, .pointer (some ⟨gx, 0, none⟩), .int .i64 (i : Int), .int .i64 (k : Int), .int .i64 (c : Int), c9, c10, c11, c12, c13, c14, c15, c16, c17, c18, c19, c20, c21, c22, c23, c24, c25, c26, c27, c28, c29, c30, c31, c32, c33, c34, c35, c36, c37, c38, c39, c40, c41, c42, c43, c44, c45, c46, c47, c48, c49, c50, c51, c52, c53, c54, c55, c56, c57, c58, c59, c60, c61, c62, c63, c64, c65, c66, c67, c68, c69, c70, c71, c72, c73, c74, c75, c76, c77, c78, c79, c80, c81, c82, c83, c84, c85, c86, c87, c88, c89, c90, c91, c92, c93, c94, c95, c96, c97, c98, c99, c100, c101, c102, c103, c104, c105, c106, c107, c108, c109, c110, c111, c112, c113, c114, c115, c116, c117, c118, c119, c120, c121, c122, c123, c124, c125, c126, c127, c128, c129, c130, c131, c132, c133, c134, c135, c136, c137, c138, c139, c140, c141, c142, c143, c144, c145, c146, c147, c148, c149, c150, c151, c152, c153, c154, c155, c156, c157, c158, c159, c160, c161, c162, c163, c164, c165, c166, c167, c168, c169, c170, c171, c172, c173, c174, c175, c176, c177, c178, c179, c180, c181, c182, c183, c184, c185, c186, c187, c188, c189, c190, c191, c192, c193, c194, c195, c196, c197, c198, c199, c200, c201, c202, c203, c204, c205, c206, c207, c208, c209, c210, c211, c212, c213, c214, c215, c216, c217, c218, c219, c220, c221, c222, c223, c224, c225, c226, c227, c228, c229, c230, c231, c232, c233, c234, c235, c236, c237, c238, c239, c240, c241, c242, c243, c244, c245, c246, c247, c248, c249, c250, c251, c252, c253, c254, c255, c256, c257, c258, c259, c260, c261, c262, c263, c264, c265, c266, c267, c268, c269, c270, c271, c272, c273, c274, c275, c276, c277, c278, c279, c280, c281, c282, c283, c284, c285, c286, c287, c288, c289, c290, c291, c292, c293, c294, c295, c296, c297, c298, c299, c300, c301, c302, c303, c304, c305, c306, c307, c308, c309, c310, c311, c312, c313, c314, c315, c316, c317, c318, c319, c320, c321, c322, c323, c324, c325, c326, c327, c328, c329, c330, c331, c332, c333, c334, c335, c336, c337, c338, c339, c340], []⟩ := ⟨_, rfl⟩
  have sz0 : a0.tmps.size = 341 := by rw [ha]; kernel_rfl
  have e0_0 : a0.eval (.tmp 0) = .pointer (some ⟨g, 0, none⟩) := by rw [ha]; kernel_rfl
  have e0_1 : a0.eval (.tmp 1) = rv := by rw [ha]; kernel_rfl
  have e0_6 : a0.eval (.tmp 6) = .int .i64 (i : Int) := by rw [ha]; kernel_rfl
  have e0_7 : a0.eval (.tmp 7) = .int .i64 (k : Int) := by rw [ha]; kernel_rfl
  have e0_8 : a0.eval (.tmp 8) = .int .i64 (c : Int) := by rw [ha]; kernel_rfl
  rw [← ha]
  refine wpAnyH_as (l' := #[false, false, false, false, false, false, false, false, false, false, false, false, false, false, false, false, false, false, false, false]) (by kernel_rfl) ?_
  refine takeH (v := .pointer (some ⟨g, 0, none⟩)) opB13_0 opB13_ns (by kernel_rfl) (by kernel_rfl) HPN (fun w hw o ho => run_move ho e0_0 w) hH ?_
  refine wpAnyH_as (l' := #[true, false, false, false, false, false, false, false, false, false, false, false, false, false, false, false, false, false, false, false]) (by kernel_rfl) ?_
  obtain ⟨a1, h1⟩ : ∃ a' : Act, a' = a0.put (some 81) (.pointer (some ⟨g, 0, none⟩)) := ⟨_, rfl⟩
  rw [← h1]
  have sz1 : a1.tmps.size = 341 := by rw [h1, size_put]; exact sz0
  have e1_0 : a1.eval (.tmp 0) = .pointer (some ⟨g, 0, none⟩) := by rw [h1, eval_put_ne _ _ _ _ (by decide)]; exact e0_0
  have e1_1 : a1.eval (.tmp 1) = rv := by rw [h1, eval_put_ne _ _ _ _ (by decide)]; exact e0_1
  have e1_6 : a1.eval (.tmp 6) = .int .i64 (i : Int) := by rw [h1, eval_put_ne _ _ _ _ (by decide)]; exact e0_6
  have e1_7 : a1.eval (.tmp 7) = .int .i64 (k : Int) := by rw [h1, eval_put_ne _ _ _ _ (by decide)]; exact e0_7
  have e1_8 : a1.eval (.tmp 8) = .int .i64 (c : Int) := by rw [h1, eval_put_ne _ _ _ _ (by decide)]; exact e0_8
  have e1_81 : a1.eval (.tmp 81) = .pointer (some ⟨g, 0, none⟩) := by rw [h1]; exact eval_put_eq _ _ _ (by rw [sz0]; decide)
  clear e0_0 e0_1 e0_6 e0_7 e0_8 sz0
  refine takeH (v := .int .i64 (c : Int)) opB13_1 opB13_ns (by kernel_rfl) (by kernel_rfl) HPN (fun w hw o ho => run_move ho e1_8 w) hH ?_
  refine wpAnyH_as (l' := #[true, true, false, false, false, false, false, false, false, false, false, false, false, false, false, false, false, false, false, false]) (by kernel_rfl) ?_
  obtain ⟨a2, h2⟩ : ∃ a' : Act, a' = a1.put (some 82) (.int .i64 (c : Int)) := ⟨_, rfl⟩
  rw [← h2]
  have sz2 : a2.tmps.size = 341 := by rw [h2, size_put]; exact sz1
  have e2_0 : a2.eval (.tmp 0) = .pointer (some ⟨g, 0, none⟩) := by rw [h2, eval_put_ne _ _ _ _ (by decide)]; exact e1_0
  have e2_1 : a2.eval (.tmp 1) = rv := by rw [h2, eval_put_ne _ _ _ _ (by decide)]; exact e1_1
  have e2_6 : a2.eval (.tmp 6) = .int .i64 (i : Int) := by rw [h2, eval_put_ne _ _ _ _ (by decide)]; exact e1_6
  have e2_7 : a2.eval (.tmp 7) = .int .i64 (k : Int) := by rw [h2, eval_put_ne _ _ _ _ (by decide)]; exact e1_7
  have e2_81 : a2.eval (.tmp 81) = .pointer (some ⟨g, 0, none⟩) := by rw [h2, eval_put_ne _ _ _ _ (by decide)]; exact e1_81
  have e2_82 : a2.eval (.tmp 82) = .int .i64 (c : Int) := by rw [h2]; exact eval_put_eq _ _ _ (by rw [sz1]; decide)
  clear e1_0 e1_1 e1_6 e1_7 e1_8 e1_81 sz1
  refine takeH (v := rv) opB13_2 opB13_ns (by kernel_rfl) (by kernel_rfl) HPN (fun w hw o ho => run_move ho e2_1 w) hH ?_
  refine wpAnyH_as (l' := #[true, true, true, false, false, false, false, false, false, false, false, false, false, false, false, false, false, false, false, false]) (by kernel_rfl) ?_
  obtain ⟨a3, h3⟩ : ∃ a' : Act, a' = a2.put (some 83) (rv) := ⟨_, rfl⟩
  rw [← h3]
  have sz3 : a3.tmps.size = 341 := by rw [h3, size_put]; exact sz2
  have e3_0 : a3.eval (.tmp 0) = .pointer (some ⟨g, 0, none⟩) := by rw [h3, eval_put_ne _ _ _ _ (by decide)]; exact e2_0
  have e3_6 : a3.eval (.tmp 6) = .int .i64 (i : Int) := by rw [h3, eval_put_ne _ _ _ _ (by decide)]; exact e2_6
  have e3_7 : a3.eval (.tmp 7) = .int .i64 (k : Int) := by rw [h3, eval_put_ne _ _ _ _ (by decide)]; exact e2_7
  have e3_81 : a3.eval (.tmp 81) = .pointer (some ⟨g, 0, none⟩) := by rw [h3, eval_put_ne _ _ _ _ (by decide)]; exact e2_81
  have e3_82 : a3.eval (.tmp 82) = .int .i64 (c : Int) := by rw [h3, eval_put_ne _ _ _ _ (by decide)]; exact e2_82
  have e3_83 : a3.eval (.tmp 83) = rv := by rw [h3]; exact eval_put_eq _ _ _ (by rw [sz2]; decide)
  clear e2_0 e2_1 e2_6 e2_7 e2_81 e2_82 sz2
  refine takeH (v := .pointer (some ⟨g, 0, none⟩)) opB13_3 opB13_ns (by kernel_rfl) (by kernel_rfl) HPN (fun w hw o ho => run_move ho e3_0 w) hH ?_
  refine wpAnyH_as (l' := #[true, true, true, true, false, false, false, false, false, false, false, false, false, false, false, false, false, false, false, false]) (by kernel_rfl) ?_
  obtain ⟨a4, h4⟩ : ∃ a' : Act, a' = a3.put (some 84) (.pointer (some ⟨g, 0, none⟩)) := ⟨_, rfl⟩
  rw [← h4]
  have sz4 : a4.tmps.size = 341 := by rw [h4, size_put]; exact sz3
  have e4_0 : a4.eval (.tmp 0) = .pointer (some ⟨g, 0, none⟩) := by rw [h4, eval_put_ne _ _ _ _ (by decide)]; exact e3_0
  have e4_6 : a4.eval (.tmp 6) = .int .i64 (i : Int) := by rw [h4, eval_put_ne _ _ _ _ (by decide)]; exact e3_6
  have e4_7 : a4.eval (.tmp 7) = .int .i64 (k : Int) := by rw [h4, eval_put_ne _ _ _ _ (by decide)]; exact e3_7
  have e4_81 : a4.eval (.tmp 81) = .pointer (some ⟨g, 0, none⟩) := by rw [h4, eval_put_ne _ _ _ _ (by decide)]; exact e3_81
  have e4_82 : a4.eval (.tmp 82) = .int .i64 (c : Int) := by rw [h4, eval_put_ne _ _ _ _ (by decide)]; exact e3_82
  have e4_83 : a4.eval (.tmp 83) = rv := by rw [h4, eval_put_ne _ _ _ _ (by decide)]; exact e3_83
  have e4_84 : a4.eval (.tmp 84) = .pointer (some ⟨g, 0, none⟩) := by rw [h4]; exact eval_put_eq _ _ _ (by rw [sz3]; decide)
  clear e3_0 e3_6 e3_7 e3_81 e3_82 e3_83 sz3
  refine takeH (v := .int .i64 (i : Int)) opB13_4 opB13_ns (by kernel_rfl) (by kernel_rfl) HPN (fun w hw o ho => run_move ho e4_6 w) hH ?_
  refine wpAnyH_as (l' := #[true, true, true, true, true, false, false, false, false, false, false, false, false, false, false, false, false, false, false, false]) (by kernel_rfl) ?_
  obtain ⟨a5, h5⟩ : ∃ a' : Act, a' = a4.put (some 85) (.int .i64 (i : Int)) := ⟨_, rfl⟩
  rw [← h5]
  have sz5 : a5.tmps.size = 341 := by rw [h5, size_put]; exact sz4
  have e5_0 : a5.eval (.tmp 0) = .pointer (some ⟨g, 0, none⟩) := by rw [h5, eval_put_ne _ _ _ _ (by decide)]; exact e4_0
  have e5_7 : a5.eval (.tmp 7) = .int .i64 (k : Int) := by rw [h5, eval_put_ne _ _ _ _ (by decide)]; exact e4_7
  have e5_81 : a5.eval (.tmp 81) = .pointer (some ⟨g, 0, none⟩) := by rw [h5, eval_put_ne _ _ _ _ (by decide)]; exact e4_81
  have e5_82 : a5.eval (.tmp 82) = .int .i64 (c : Int) := by rw [h5, eval_put_ne _ _ _ _ (by decide)]; exact e4_82
  have e5_83 : a5.eval (.tmp 83) = rv := by rw [h5, eval_put_ne _ _ _ _ (by decide)]; exact e4_83
  have e5_84 : a5.eval (.tmp 84) = .pointer (some ⟨g, 0, none⟩) := by rw [h5, eval_put_ne _ _ _ _ (by decide)]; exact e4_84
  have e5_85 : a5.eval (.tmp 85) = .int .i64 (i : Int) := by rw [h5]; exact eval_put_eq _ _ _ (by rw [sz4]; decide)
  clear e4_0 e4_6 e4_7 e4_81 e4_82 e4_83 e4_84 sz4
  refine takeH (v := .pointer (some ⟨g, 0, none⟩)) opB13_5 opB13_ns (by kernel_rfl) (by kernel_rfl) HPN (fun w hw o ho => run_nilCheck ho e5_84 w) hH ?_
  refine wpAnyH_as (l' := #[true, true, true, true, true, true, false, false, false, false, false, false, false, false, false, false, false, false, false, false]) (by kernel_rfl) ?_
  obtain ⟨a6, h6⟩ : ∃ a' : Act, a' = a5.put (some 86) (.pointer (some ⟨g, 0, none⟩)) := ⟨_, rfl⟩
  rw [← h6]
  have sz6 : a6.tmps.size = 341 := by rw [h6, size_put]; exact sz5
  have e6_0 : a6.eval (.tmp 0) = .pointer (some ⟨g, 0, none⟩) := by rw [h6, eval_put_ne _ _ _ _ (by decide)]; exact e5_0
  have e6_7 : a6.eval (.tmp 7) = .int .i64 (k : Int) := by rw [h6, eval_put_ne _ _ _ _ (by decide)]; exact e5_7
  have e6_81 : a6.eval (.tmp 81) = .pointer (some ⟨g, 0, none⟩) := by rw [h6, eval_put_ne _ _ _ _ (by decide)]; exact e5_81
  have e6_82 : a6.eval (.tmp 82) = .int .i64 (c : Int) := by rw [h6, eval_put_ne _ _ _ _ (by decide)]; exact e5_82
  have e6_83 : a6.eval (.tmp 83) = rv := by rw [h6, eval_put_ne _ _ _ _ (by decide)]; exact e5_83
  have e6_85 : a6.eval (.tmp 85) = .int .i64 (i : Int) := by rw [h6, eval_put_ne _ _ _ _ (by decide)]; exact e5_85
  have e6_86 : a6.eval (.tmp 86) = .pointer (some ⟨g, 0, none⟩) := by rw [h6]; exact eval_put_eq _ _ _ (by rw [sz5]; decide)
  clear e5_0 e5_7 e5_81 e5_82 e5_83 e5_84 e5_85 sz5
  refine takeH (v := .pointer (some ⟨g, 0, none⟩)) opB13_6 opB13_ns (by kernel_rfl) (by kernel_rfl) HPN (fun w hw o ho => run_fieldE ho e6_86 w) hH ?_
  refine wpAnyH_as (l' := #[true, true, true, true, true, true, true, false, false, false, false, false, false, false, false, false, false, false, false, false]) (by kernel_rfl) ?_
  obtain ⟨a7, h7⟩ : ∃ a' : Act, a' = a6.put (some 87) (.pointer (some ⟨g, 0, none⟩)) := ⟨_, rfl⟩
  rw [← h7]
  have sz7 : a7.tmps.size = 341 := by rw [h7, size_put]; exact sz6
  have e7_0 : a7.eval (.tmp 0) = .pointer (some ⟨g, 0, none⟩) := by rw [h7, eval_put_ne _ _ _ _ (by decide)]; exact e6_0
  have e7_7 : a7.eval (.tmp 7) = .int .i64 (k : Int) := by rw [h7, eval_put_ne _ _ _ _ (by decide)]; exact e6_7
  have e7_81 : a7.eval (.tmp 81) = .pointer (some ⟨g, 0, none⟩) := by rw [h7, eval_put_ne _ _ _ _ (by decide)]; exact e6_81
  have e7_82 : a7.eval (.tmp 82) = .int .i64 (c : Int) := by rw [h7, eval_put_ne _ _ _ _ (by decide)]; exact e6_82
  have e7_83 : a7.eval (.tmp 83) = rv := by rw [h7, eval_put_ne _ _ _ _ (by decide)]; exact e6_83
  have e7_85 : a7.eval (.tmp 85) = .int .i64 (i : Int) := by rw [h7, eval_put_ne _ _ _ _ (by decide)]; exact e6_85
  have e7_87 : a7.eval (.tmp 87) = .pointer (some ⟨g, 0, none⟩) := by rw [h7]; exact eval_put_eq _ _ _ (by rw [sz6]; decide)
  clear e6_0 e6_7 e6_81 e6_82 e6_83 e6_85 e6_86 sz6
  refine takeH (v := .pointer (some ⟨g, i * 5, none⟩)) opB13_7 opB13_ns (by kernel_rfl) (by kernel_rfl) HPN (fun w hw o ho => run_indexE hi8.out ho e7_87 e7_85 w) hH ?_
  refine wpAnyH_as (l' := #[true, true, true, true, true, true, true, true, false, false, false, false, false, false, false, false, false, false, false, false]) (by kernel_rfl) ?_
  obtain ⟨a8, h8⟩ : ∃ a' : Act, a' = a7.put (some 88) (.pointer (some ⟨g, i * 5, none⟩)) := ⟨_, rfl⟩
  rw [← h8]
  have sz8 : a8.tmps.size = 341 := by rw [h8, size_put]; exact sz7
  have e8_0 : a8.eval (.tmp 0) = .pointer (some ⟨g, 0, none⟩) := by rw [h8, eval_put_ne _ _ _ _ (by decide)]; exact e7_0
  have e8_7 : a8.eval (.tmp 7) = .int .i64 (k : Int) := by rw [h8, eval_put_ne _ _ _ _ (by decide)]; exact e7_7
  have e8_81 : a8.eval (.tmp 81) = .pointer (some ⟨g, 0, none⟩) := by rw [h8, eval_put_ne _ _ _ _ (by decide)]; exact e7_81
  have e8_82 : a8.eval (.tmp 82) = .int .i64 (c : Int) := by rw [h8, eval_put_ne _ _ _ _ (by decide)]; exact e7_82
  have e8_83 : a8.eval (.tmp 83) = rv := by rw [h8, eval_put_ne _ _ _ _ (by decide)]; exact e7_83
  have e8_88 : a8.eval (.tmp 88) = .pointer (some ⟨g, i * 5, none⟩) := by rw [h8]; exact eval_put_eq _ _ _ (by rw [sz7]; decide)
  clear e7_0 e7_7 e7_81 e7_82 e7_83 e7_85 e7_87 sz7
  refine takeH (v := .pointer (some ⟨g, 0, none⟩)) opB13_9 opB13_ns (by kernel_rfl) (by kernel_rfl) HPN (fun w hw o ho => run_move ho e8_0 w) hH ?_
  refine wpAnyH_as (l' := #[true, true, true, true, true, true, true, true, false, true, false, false, false, false, false, false, false, false, false, false]) (by kernel_rfl) ?_
  obtain ⟨a9, h9⟩ : ∃ a' : Act, a' = a8.put (some 90) (.pointer (some ⟨g, 0, none⟩)) := ⟨_, rfl⟩
  rw [← h9]
  have sz9 : a9.tmps.size = 341 := by rw [h9, size_put]; exact sz8
  have e9_7 : a9.eval (.tmp 7) = .int .i64 (k : Int) := by rw [h9, eval_put_ne _ _ _ _ (by decide)]; exact e8_7
  have e9_81 : a9.eval (.tmp 81) = .pointer (some ⟨g, 0, none⟩) := by rw [h9, eval_put_ne _ _ _ _ (by decide)]; exact e8_81
  have e9_82 : a9.eval (.tmp 82) = .int .i64 (c : Int) := by rw [h9, eval_put_ne _ _ _ _ (by decide)]; exact e8_82
  have e9_83 : a9.eval (.tmp 83) = rv := by rw [h9, eval_put_ne _ _ _ _ (by decide)]; exact e8_83
  have e9_88 : a9.eval (.tmp 88) = .pointer (some ⟨g, i * 5, none⟩) := by rw [h9, eval_put_ne _ _ _ _ (by decide)]; exact e8_88
  have e9_90 : a9.eval (.tmp 90) = .pointer (some ⟨g, 0, none⟩) := by rw [h9]; exact eval_put_eq _ _ _ (by rw [sz8]; decide)
  clear e8_0 e8_7 e8_81 e8_82 e8_83 e8_88 sz8
  refine takeH (v := .int .i64 (k : Int)) opB13_10 opB13_ns (by kernel_rfl) (by kernel_rfl) HPN (fun w hw o ho => run_move ho e9_7 w) hH ?_
  refine wpAnyH_as (l' := #[true, true, true, true, true, true, true, true, false, true, true, false, false, false, false, false, false, false, false, false]) (by kernel_rfl) ?_
  obtain ⟨a10, h10⟩ : ∃ a' : Act, a' = a9.put (some 91) (.int .i64 (k : Int)) := ⟨_, rfl⟩
  rw [← h10]
  have sz10 : a10.tmps.size = 341 := by rw [h10, size_put]; exact sz9
  have e10_81 : a10.eval (.tmp 81) = .pointer (some ⟨g, 0, none⟩) := by rw [h10, eval_put_ne _ _ _ _ (by decide)]; exact e9_81
  have e10_82 : a10.eval (.tmp 82) = .int .i64 (c : Int) := by rw [h10, eval_put_ne _ _ _ _ (by decide)]; exact e9_82
  have e10_83 : a10.eval (.tmp 83) = rv := by rw [h10, eval_put_ne _ _ _ _ (by decide)]; exact e9_83
  have e10_88 : a10.eval (.tmp 88) = .pointer (some ⟨g, i * 5, none⟩) := by rw [h10, eval_put_ne _ _ _ _ (by decide)]; exact e9_88
  have e10_90 : a10.eval (.tmp 90) = .pointer (some ⟨g, 0, none⟩) := by rw [h10, eval_put_ne _ _ _ _ (by decide)]; exact e9_90
  have e10_91 : a10.eval (.tmp 91) = .int .i64 (k : Int) := by rw [h10]; exact eval_put_eq _ _ _ (by rw [sz9]; decide)
  clear e9_7 e9_81 e9_82 e9_83 e9_88 e9_90 sz9
  refine takeH (v := .pointer (some ⟨g, 0, none⟩)) opB13_11 opB13_ns (by kernel_rfl) (by kernel_rfl) HPN (fun w hw o ho => run_nilCheck ho e10_90 w) hH ?_
  refine wpAnyH_as (l' := #[true, true, true, true, true, true, true, true, false, true, true, true, false, false, false, false, false, false, false, false]) (by kernel_rfl) ?_
  obtain ⟨a11, h11⟩ : ∃ a' : Act, a' = a10.put (some 92) (.pointer (some ⟨g, 0, none⟩)) := ⟨_, rfl⟩
  rw [← h11]
  have sz11 : a11.tmps.size = 341 := by rw [h11, size_put]; exact sz10
  have e11_81 : a11.eval (.tmp 81) = .pointer (some ⟨g, 0, none⟩) := by rw [h11, eval_put_ne _ _ _ _ (by decide)]; exact e10_81
  have e11_82 : a11.eval (.tmp 82) = .int .i64 (c : Int) := by rw [h11, eval_put_ne _ _ _ _ (by decide)]; exact e10_82
  have e11_83 : a11.eval (.tmp 83) = rv := by rw [h11, eval_put_ne _ _ _ _ (by decide)]; exact e10_83
  have e11_88 : a11.eval (.tmp 88) = .pointer (some ⟨g, i * 5, none⟩) := by rw [h11, eval_put_ne _ _ _ _ (by decide)]; exact e10_88
  have e11_91 : a11.eval (.tmp 91) = .int .i64 (k : Int) := by rw [h11, eval_put_ne _ _ _ _ (by decide)]; exact e10_91
  have e11_92 : a11.eval (.tmp 92) = .pointer (some ⟨g, 0, none⟩) := by rw [h11]; exact eval_put_eq _ _ _ (by rw [sz10]; decide)
  clear e10_81 e10_82 e10_83 e10_88 e10_90 e10_91 sz10
  refine takeH (v := .pointer (some ⟨g, 0, none⟩)) opB13_12 opB13_ns (by kernel_rfl) (by kernel_rfl) HPN (fun w hw o ho => run_fieldE ho e11_92 w) hH ?_
  refine wpAnyH_as (l' := #[true, true, true, true, true, true, true, true, false, true, true, true, true, false, false, false, false, false, false, false]) (by kernel_rfl) ?_
  obtain ⟨a12, h12⟩ : ∃ a' : Act, a' = a11.put (some 93) (.pointer (some ⟨g, 0, none⟩)) := ⟨_, rfl⟩
  rw [← h12]
  have sz12 : a12.tmps.size = 341 := by rw [h12, size_put]; exact sz11
  have e12_81 : a12.eval (.tmp 81) = .pointer (some ⟨g, 0, none⟩) := by rw [h12, eval_put_ne _ _ _ _ (by decide)]; exact e11_81
  have e12_82 : a12.eval (.tmp 82) = .int .i64 (c : Int) := by rw [h12, eval_put_ne _ _ _ _ (by decide)]; exact e11_82
  have e12_83 : a12.eval (.tmp 83) = rv := by rw [h12, eval_put_ne _ _ _ _ (by decide)]; exact e11_83
  have e12_88 : a12.eval (.tmp 88) = .pointer (some ⟨g, i * 5, none⟩) := by rw [h12, eval_put_ne _ _ _ _ (by decide)]; exact e11_88
  have e12_91 : a12.eval (.tmp 91) = .int .i64 (k : Int) := by rw [h12, eval_put_ne _ _ _ _ (by decide)]; exact e11_91
  have e12_93 : a12.eval (.tmp 93) = .pointer (some ⟨g, 0, none⟩) := by rw [h12]; exact eval_put_eq _ _ _ (by rw [sz11]; decide)
  clear e11_81 e11_82 e11_83 e11_88 e11_91 e11_92 sz11
  refine takeH (v := .pointer (some ⟨g, k * 5, none⟩)) opB13_13 opB13_ns (by kernel_rfl) (by kernel_rfl) HPN (fun w hw o ho => run_indexE hk8.out ho e12_93 e12_91 w) hH ?_
  refine wpAnyH_as (l' := #[true, true, true, true, true, true, true, true, false, true, true, true, true, true, false, false, false, false, false, false]) (by kernel_rfl) ?_
  obtain ⟨a13, h13⟩ : ∃ a' : Act, a' = a12.put (some 94) (.pointer (some ⟨g, k * 5, none⟩)) := ⟨_, rfl⟩
  rw [← h13]
  have sz13 : a13.tmps.size = 341 := by rw [h13, size_put]; exact sz12
  have e13_81 : a13.eval (.tmp 81) = .pointer (some ⟨g, 0, none⟩) := by rw [h13, eval_put_ne _ _ _ _ (by decide)]; exact e12_81
  have e13_82 : a13.eval (.tmp 82) = .int .i64 (c : Int) := by rw [h13, eval_put_ne _ _ _ _ (by decide)]; exact e12_82
  have e13_83 : a13.eval (.tmp 83) = rv := by rw [h13, eval_put_ne _ _ _ _ (by decide)]; exact e12_83
  have e13_88 : a13.eval (.tmp 88) = .pointer (some ⟨g, i * 5, none⟩) := by rw [h13, eval_put_ne _ _ _ _ (by decide)]; exact e12_88
  have e13_94 : a13.eval (.tmp 94) = .pointer (some ⟨g, k * 5, none⟩) := by rw [h13]; exact eval_put_eq _ _ _ (by rw [sz12]; decide)
  clear e12_81 e12_82 e12_83 e12_88 e12_91 e12_93 sz12
  refine takeH (v := .pointer (some ⟨g, 0, none⟩)) opB13_16 opB13_ns (by kernel_rfl) (by kernel_rfl) HPN (fun w hw o ho => run_nilCheck ho e13_81 w) hH ?_
  refine wpAnyH_as (l' := #[true, true, true, true, true, true, true, true, false, true, true, true, true, true, false, false, true, false, false, false]) (by kernel_rfl) ?_
  obtain ⟨a14, h14⟩ : ∃ a' : Act, a' = a13.put (some 97) (.pointer (some ⟨g, 0, none⟩)) := ⟨_, rfl⟩
  rw [← h14]
  have sz14 : a14.tmps.size = 341 := by rw [h14, size_put]; exact sz13
  have e14_82 : a14.eval (.tmp 82) = .int .i64 (c : Int) := by rw [h14, eval_put_ne _ _ _ _ (by decide)]; exact e13_82
  have e14_83 : a14.eval (.tmp 83) = rv := by rw [h14, eval_put_ne _ _ _ _ (by decide)]; exact e13_83
  have e14_88 : a14.eval (.tmp 88) = .pointer (some ⟨g, i * 5, none⟩) := by rw [h14, eval_put_ne _ _ _ _ (by decide)]; exact e13_88
  have e14_94 : a14.eval (.tmp 94) = .pointer (some ⟨g, k * 5, none⟩) := by rw [h14, eval_put_ne _ _ _ _ (by decide)]; exact e13_94
  have e14_97 : a14.eval (.tmp 97) = .pointer (some ⟨g, 0, none⟩) := by rw [h14]; exact eval_put_eq _ _ _ (by rw [sz13]; decide)
  clear e13_81 e13_82 e13_83 e13_88 e13_94 sz13
  refine takeH (v := .pointer (some ⟨g, 0, none⟩)) opB13_17 opB13_ns (by kernel_rfl) (by kernel_rfl) HPN (fun w hw o ho => run_fieldE ho e14_97 w) hH ?_
  refine wpAnyH_as (l' := #[true, true, true, true, true, true, true, true, false, true, true, true, true, true, false, false, true, true, false, false]) (by kernel_rfl) ?_
  obtain ⟨a15, h15⟩ : ∃ a' : Act, a' = a14.put (some 98) (.pointer (some ⟨g, 0, none⟩)) := ⟨_, rfl⟩
  rw [← h15]
  have sz15 : a15.tmps.size = 341 := by rw [h15, size_put]; exact sz14
  have e15_82 : a15.eval (.tmp 82) = .int .i64 (c : Int) := by rw [h15, eval_put_ne _ _ _ _ (by decide)]; exact e14_82
  have e15_83 : a15.eval (.tmp 83) = rv := by rw [h15, eval_put_ne _ _ _ _ (by decide)]; exact e14_83
  have e15_88 : a15.eval (.tmp 88) = .pointer (some ⟨g, i * 5, none⟩) := by rw [h15, eval_put_ne _ _ _ _ (by decide)]; exact e14_88
  have e15_94 : a15.eval (.tmp 94) = .pointer (some ⟨g, k * 5, none⟩) := by rw [h15, eval_put_ne _ _ _ _ (by decide)]; exact e14_94
  have e15_98 : a15.eval (.tmp 98) = .pointer (some ⟨g, 0, none⟩) := by rw [h15]; exact eval_put_eq _ _ _ (by rw [sz14]; decide)
  clear e14_82 e14_83 e14_88 e14_94 e14_97 sz14
  refine readyLd2 (v := .agg (VI .u64 (es i))) (u := .agg (VI .u64 (es k))) opB13_8 opB13_14 (by decide) (by decide) (by kernel_rfl) (by kernel_rfl) (by kernel_rfl) hH (fun o ho => run_loadE (hV.bn.lim i hi8.out).len ho e15_88 _ (hV.bn.rangeE hi8.out)) (fun o ho => run_loadE (hV.bn.lim k hk8.out).len ho e15_94 _ (hV.bn.rangeE hk8.out)) (fun o ho => run_loadE (hV.bn.lim i hi8.out).len ho ((eval_put_ne _ _ _ _ (by decide)).trans e15_88) _ (hV.bn.rangeE hi8.out)) (fun o ho => run_loadE (hV.bn.lim k hk8.out).len ho ((eval_put_ne _ _ _ _ (by decide)).trans e15_94) _ (hV.bn.rangeE hk8.out)) ?_
  refine wpAnyH_as (l' := #[true, true, true, true, true, true, true, true, true, true, true, true, true, true, true, false, true, true, false, false]) (by kernel_rfl) ?_
  obtain ⟨a16, h16⟩ : ∃ a' : Act, a' = a15.put (some 89) (.agg (VI .u64 (es i))) := ⟨_, rfl⟩
  rw [← h16]
  have sz16 : a16.tmps.size = 341 := by rw [h16, size_put]; exact sz15
  have e16_82 : a16.eval (.tmp 82) = .int .i64 (c : Int) := by rw [h16, eval_put_ne _ _ _ _ (by decide)]; exact e15_82
  have e16_83 : a16.eval (.tmp 83) = rv := by rw [h16, eval_put_ne _ _ _ _ (by decide)]; exact e15_83
  have e16_98 : a16.eval (.tmp 98) = .pointer (some ⟨g, 0, none⟩) := by rw [h16, eval_put_ne _ _ _ _ (by decide)]; exact e15_98
  have e16_89 : a16.eval (.tmp 89) = .agg (VI .u64 (es i)) := by rw [h16]; exact eval_put_eq _ _ _ (by rw [sz15]; decide)
  clear e15_82 e15_83 e15_88 e15_94 e15_98 sz15
  obtain ⟨a17, h17⟩ : ∃ a' : Act, a' = a16.put (some 95) (.agg (VI .u64 (es k))) := ⟨_, rfl⟩
  rw [← h17]
  have sz17 : a17.tmps.size = 341 := by rw [h17, size_put]; exact sz16
  have e17_82 : a17.eval (.tmp 82) = .int .i64 (c : Int) := by rw [h17, eval_put_ne _ _ _ _ (by decide)]; exact e16_82
  have e17_83 : a17.eval (.tmp 83) = rv := by rw [h17, eval_put_ne _ _ _ _ (by decide)]; exact e16_83
  have e17_98 : a17.eval (.tmp 98) = .pointer (some ⟨g, 0, none⟩) := by rw [h17, eval_put_ne _ _ _ _ (by decide)]; exact e16_98
  have e17_89 : a17.eval (.tmp 89) = .agg (VI .u64 (es i)) := by rw [h17, eval_put_ne _ _ _ _ (by decide)]; exact e16_89
  have e17_95 : a17.eval (.tmp 95) = .agg (VI .u64 (es k)) := by rw [h17]; exact eval_put_eq _ _ _ (by rw [sz16]; decide)
  clear e16_82 e16_83 e16_89 e16_98 sz16
  refine readyH opB13_15 (by kernel_rfl) (fun o ho hd => wpCall (v := .agg (VI .u64 z)) ho hd (args := #[rv, .agg (VI .u64 (es i)), .agg (VI .u64 (es k))]) (by simp only [List.map_toArray, List.map_cons, List.map_nil, e17_83, e17_89, e17_95] <;> rfl) (fun _ => rfl) (hV.calls (fun b he => HC.out _ _ _ _ _ _ he hl.out)) (fun w1 hw1 => ?_))
  have hV1 := hw1
  refine ⟨hV1.row mx, ?_⟩
  have hH := hV1.row mx
  refine wpAnyH_as (l' := #[true, true, true, true, true, true, true, true, true, true, true, true, true, true, true, true, true, true, false, false]) (by kernel_rfl) ?_
  obtain ⟨a18, h18⟩ : ∃ a' : Act, a' = a17.put (some 96) (.agg (VI .u64 z)) := ⟨_, rfl⟩
  rw [← h18]
  have sz18 : a18.tmps.size = 341 := by rw [h18, size_put]; exact sz17
  have e18_82 : a18.eval (.tmp 82) = .int .i64 (c : Int) := by rw [h18, eval_put_ne _ _ _ _ (by decide)]; exact e17_82
  have e18_98 : a18.eval (.tmp 98) = .pointer (some ⟨g, 0, none⟩) := by rw [h18, eval_put_ne _ _ _ _ (by decide)]; exact e17_98
  have e18_96 : a18.eval (.tmp 96) = .agg (VI .u64 z) := by rw [h18]; exact eval_put_eq _ _ _ (by rw [sz17]; decide)
  clear e17_82 e17_83 e17_89 e17_95 e17_98 sz17
  refine takeH (v := .pointer (some ⟨g, c * 5, none⟩)) opB13_18 opB13_ns (by kernel_rfl) (by kernel_rfl) HPN (fun w hw o ho => run_indexE hc8.out ho e18_98 e18_82 w) hH ?_
  refine wpAnyH_as (l' := #[true, true, true, true, true, true, true, true, true, true, true, true, true, true, true, true, true, true, true, false]) (by kernel_rfl) ?_
  obtain ⟨a19, h19⟩ : ∃ a' : Act, a' = a18.put (some 99) (.pointer (some ⟨g, c * 5, none⟩)) := ⟨_, rfl⟩
  rw [← h19]
  have sz19 : a19.tmps.size = 341 := by rw [h19, size_put]; exact sz18
  have e19_96 : a19.eval (.tmp 96) = .agg (VI .u64 z) := by rw [h19, eval_put_ne _ _ _ _ (by decide)]; exact e18_96
  have e19_99 : a19.eval (.tmp 99) = .pointer (some ⟨g, c * 5, none⟩) := by rw [h19]; exact eval_put_eq _ _ _ (by rw [sz18]; decide)
  clear e18_82 e18_96 e18_98 sz18
  refine readyH opB13_19 (by kernel_rfl) (fun o ho hd => wp_store_mid _ _ _ ho g (c * 5) (VI .u64 z) e19_99 e19_96 (by rw [VI_size, lz.out.len]; exact hV1.bn.thereE hc8.out) (by rw [VI_size, lz.out.len]; kernel_rfl) (VI_one _ _) ?_)
  have hE := hV1.setE hc8.out lz.out
  rw [hd]
  refine ⟨hE.row mx, ?_⟩
  refine wpAnyH_as (l' := #[true, true, true, true, true, true, true, true, true, true, true, true, true, true, true, true, true, true, true, true]) (by kernel_rfl) ?_
  refine wpAnyH_done (by kernel_rfl) ?_ _
  have hF : a19 = ⟨#[.pointer (some ⟨g, 0, none⟩), rv, c2, c3, c4, .pointer (some ⟨gx, 0, none⟩), .int .i64 (i : Int), .int .i64 (k : Int), .int .i64 (c : Int), c9, c10, c11, c12, c13, c14, c15, c16, c17, c18, c19, c20, c21, c22, c23, c24, c25, c26, c27, c28, c29, c30, c31, c32, c33, c34, c35, c36, c37, c38, c39, c40, c41, c42, c43, c44, c45, c46, c47, c48, c49, c50, c51, c52, c53, c54, c55, c56, c57, c58, c59, c60, c61, c62, c63, c64, c65, c66, c67, c68, c69, c70, c71, c72, c73, c74, c75, c76, c77, c78, c79, c80, .pointer (some ⟨g, 0, none⟩), .int .i64 (c : Int), rv, .pointer (some ⟨g, 0, none⟩), .int .i64 (i : Int), .pointer (some ⟨g, 0, none⟩), .pointer (some ⟨g, 0, none⟩), .pointer (some ⟨g, i * 5, none⟩), .agg (VI .u64 (es i)), .pointer (some ⟨g, 0, none⟩), .int .i64 (k : Int), .pointer (some ⟨g, 0, none⟩), .pointer (some ⟨g, 0, none⟩), .pointer (some ⟨g, k * 5, none⟩), .agg (VI .u64 (es k)), .agg (VI .u64 z), .pointer (some ⟨g, 0, none⟩), .pointer (some ⟨g, 0, none⟩), .pointer (some ⟨g, c * 5, none⟩), c100, c101, c102, c103, c104, c105, c106, c107, c108, c109, c110, c111, c112, c113, c114, c115, c116, c117, c118, c119, c120, c121, c122, c123, c124, c125, c126, c127, c128, c129, c130, c131, c132, c133, c134, c135, c136, c137, c138, c139, c140, c141, c142, c143, c144, c145, c146, c147, c148, c149, c150, c151, c152, c153, c154, c155, c156, c157, c158, c159, c160, c161, c162, c163, c164, c165, c166, c167, c168, c169, c170, c171, c172, c173, c174, c175, c176, c177, c178, c179, c180, c181, c182, c183, c184, c185, c186, c187, c188, c189, c190, c191, c192, c193, c194, c195, c196, c197, c198, c199, c200, c201, c202, c203, c204, c205, c206, c207, c208, c209, c210, c211, c212, c213, c214, c215, c216, c217, c218, c219, c220, c221, c222, c223, c224, c225, c226, c227, c228, c229, c230, c231, c232, c233, c234, c235, c236, c237, c238, c239, c240, c241, c242, c243, c244, c245, c246, c247, c248, c249, c250, c251, c252, c253, c254, c255, c256, c257, c258, c259, c260, c261, c262, c263, c264, c265, c266, c267, c268, c269, c270, c271, c272, c273, c274, c275, c276, c277, c278, c279, c280, c281, c282, c283, c284, c285, c286, c287, c288, c289, c290, c291, c292, c293, c294, c295, c296, c297, c298, c299, c300, c301, c302, c303, c304, c305, c306, c307, c308, c309, c310, c311, c312, c313, c314, c315, c316, c317, c318, c319, c320, c321, c322, c323, c324, c325, c326, c327, c328, c329, c330, c331, c332, c333, c334, c335, c336, c337, c338, c339, c340], []⟩ := by rw [h19, h18, h17, h16, h15, h14, h13, h12, h11, h10, h9, h8, h7, h6, h5, h4, h3, h2, h1, ha]; kernel_rfl
  show Q .normal (a19.put none undef) _
  rw [show a19.put none undef = a19 from rfl, hF]
  exact H _ hE
noncomputable def rgB14 : Code := ((Try.f17.body.bind (findReg 14)).getD .skip)
noncomputable def opB14 : Array Oper := opsOf rgB14
theorem rgB14_is : rgB14 = .region 14 opB14 true := by kernel_rfl
theorem opB14_ns : Region.noSelect opB14 = true := by kernel_rfl
theorem opB14_0 : opIs opB14 0 (.move (.tmp 0)) (some 100) := by unfold opIs; kernel_rfl
theorem opB14_1 : opIs opB14 1 (.move (.tmp 8)) (some 101) := by unfold opIs; kernel_rfl
theorem opB14_2 : opIs opB14 2 (.move (.tmp 0)) (some 102) := by unfold opIs; kernel_rfl
theorem opB14_3 : opIs opB14 3 (.move (.tmp 6)) (some 103) := by unfold opIs; kernel_rfl
theorem opB14_4 : opIs opB14 4 (.nilCheck (.tmp 102)) (some 104) := by unfold opIs; kernel_rfl
theorem opB14_5 : opIs opB14 5 (.fieldAddr 53 (.tmp 104) 1) (some 105) := by unfold opIs; kernel_rfl
theorem opB14_6 : opIs opB14 6 (.indexAddr 51 (.tmp 105) (.tmp 103)) (some 106) := by unfold opIs; kernel_rfl
theorem opB14_7 : opIs opB14 7 (.load 50 (.tmp 106)) (some 107) := by unfold opIs; kernel_rfl
theorem opB14_8 : opIs opB14 8 (.move (.tmp 0)) (some 108) := by unfold opIs; kernel_rfl
theorem opB14_9 : opIs opB14 9 (.move (.tmp 7)) (some 109) := by unfold opIs; kernel_rfl
theorem opB14_10 : opIs opB14 10 (.nilCheck (.tmp 108)) (some 110) := by unfold opIs; kernel_rfl
theorem opB14_11 : opIs opB14 11 (.fieldAddr 53 (.tmp 110) 1) (some 111) := by unfold opIs; kernel_rfl
theorem opB14_12 : opIs opB14 12 (.indexAddr 51 (.tmp 111) (.tmp 109)) (some 112) := by unfold opIs; kernel_rfl
theorem opB14_13 : opIs opB14 13 (.load 50 (.tmp 112)) (some 113) := by unfold opIs; kernel_rfl
theorem opB14_14 : opIs opB14 14 (.call { callee := .value (.func 38), args := #[.tmp 107, .tmp 113], argTypes := #[50, 50] }) (some 114) := by unfold opIs; kernel_rfl
theorem opB14_15 : opIs opB14 15 (.nilCheck (.tmp 100)) (some 115) := by unfold opIs; kernel_rfl
theorem opB14_16 : opIs opB14 16 (.fieldAddr 53 (.tmp 115) 1) (some 116) := by unfold opIs; kernel_rfl
theorem opB14_17 : opIs opB14 17 (.indexAddr 51 (.tmp 116) (.tmp 101)) (some 117) := by unfold opIs; kernel_rfl
theorem opB14_18 : opIs opB14 18 (.store 50 (.tmp 117) (.tmp 114)) (none) := by unfold opIs; kernel_rfl
set_option maxRecDepth 100000 in
set_option maxHeartbeats 4000000 in
theorem bk_r14 {Q : Exit → Act → World → Prop} {B : Nat} {w W : World} {rv vs : Value} {lr ll : List (Int × Int)} {g gx : Nat} {es : Nat → List Int} {ns : Nat → Nat} {bx : List (Nat × Obj)} {i k c : Nat} {D : List Int} {K0 A0 B0 C0 N T : Int} {m : Nat} {c2 c3 c4 c9 c10 c11 c12 c13 c14 c15 c16 c17 c18 c19 c20 c21 c22 c23 c24 c25 c26 c27 c28 c29 c30 c31 c32 c33 c34 c35 c36 c37 c38 c39 c40 c41 c42 c43 c44 c45 c46 c47 c48 c49 c50 c51 c52 c53 c54 c55 c56 c57 c58 c59 c60 c61 c62 c63 c64 c65 c66 c67 c68 c69 c70 c71 c72 c73 c74 c75 c76 c77 c78 c79 c80 c81 c82 c83 c84 c85 c86 c87 c88 c89 c90 c91 c92 c93 c94 c95 c96 c97 c98 c99 c100 c101 c102 c103 c104 c105 c106 c107 c108 c109 c110 c111 c112 c113 c114 c115 c116 c117 c118 c119 c120 c121 c122 c123 c124 c125 c126 c127 c128 c129 c130 c131 c132 c133 c134 c135 c136 c137 c138 c139 c140 c141 c142 c143 c144 c145 c146 c147 c148 c149 c150 c151 c152 c153 c154 c155 c156 c157 c158 c159 c160 c161 c162 c163 c164 c165 c166 c167 c168 c169 c170 c171 c172 c173 c174 c175 c176 c177 c178 c179 c180 c181 c182 c183 c184 c185 c186 c187 c188 c189 c190 c191 c192 c193 c194 c195 c196 c197 c198 c199 c200 c201 c202 c203 c204 c205 c206 c207 c208 c209 c210 c211 c212 c213 c214 c215 c216 c217 c218 c219 c220 c221 c222 c223 c224 c225 c226 c227 c228 c229 c230 c231 c232 c233 c234 c235 c236 c237 c238 c239 c240 c241 c242 c243 c244 c245 c246 c247 c248 c249 c250 c251 c252 c253 c254 c255 c256 c257 c258 c259 c260 c261 c262 c263 c264 c265 c266 c267 c268 c269 c270 c271 c272 c273 c274 c275 c276 c277 c278 c279 c280 c281 c282 c283 c284 c285 c286 c287 c288 c289 c290 c291 c292 c293 c294 c295 c296 c297 c298 c299 c300 c301 c302 c303 c304 c305 c306 c307 c308 c309 c310 c311 c312 c313 c314 c315 c316 c317 c318 c319 c320 c321 c322 c323 c324 c325 c326 c327 c328 c329 c330 c331 c332 c333 c334 c335 c336 c337 c338 c339 c340 : Value}
    (hi8 : Hid (i < 8)) (hk8 : Hid (k < 8)) (hc8 : Hid (c < 8)) (LD : Hid (D.length = 32))
    (HC : Hid (∀ w, Calls Try.prog 38 #[.agg (VI .i64 (dg (ns i))), .agg (VI .i64 (dg (ns k)))] w fun e w' => e = .returned (.agg (VI .i64 (dg m))) ∧ Below w.heap.size w w')) (hm : Hid (m < P)) 
    (mx : (gx, stO K0 A0 B0 C0 D N T) ∈ bx)
    (XX : SB B w rv lr g es ns vs ll bx W)
    (HPN : ∀ c (a : Act) d v w, Q (.panic c) (a.put d v) w → Q (.panic c) a w)
    (H : ∀ W', SB B w rv lr g es (upd ns c m) vs ll bx W' → Q .normal ⟨#[.pointer (some ⟨g, 0, none⟩), rv, c2, c3, c4, .pointer (some ⟨gx, 0, none⟩), .int .i64 (i : Int), .int .i64 (k : Int), .int .i64 (c : Int), c9, c10, c11, c12, c13, c14, c15, c16, c17, c18, c19, c20, c21, c22, c23, c24, c25, c26, c27, c28, c29, c30, c31, c32, c33, c34, c35, c36, c37, c38, c39, c40, c41, c42, c43, c44, c45, c46, c47, c48, c49, c50, c51, c52, c53, c54, c55, c56, c57, c58, c59, c60, c61, c62, c63, c64, c65, c66, c67, c68, c69, c70, c71, c72, c73, c74, c75, c76, c77, c78, c79, c80, c81, c82, c83, c84, c85, c86, c87, c88, c89, c90, c91, c92, c93, c94, c95, c96, c97, c98, c99, .pointer (some ⟨g, 0, none⟩), .int .i64 (c : Int), .pointer (some ⟨g, 0, none⟩), .int .i64 (i : Int), .pointer (some ⟨g, 0, none⟩), .pointer (some ⟨g, 40, none⟩), .pointer (some ⟨g, 40 + i * 16, none⟩), .agg (VI .i64 (dg (ns i))), .pointer (some ⟨g, 0, none⟩), .int .i64 (k : Int), .pointer (some ⟨g, 0, none⟩), .pointer (some ⟨g, 40, none⟩), .pointer (some ⟨g, 40 + k * 16, none⟩), .agg (VI .i64 (dg (ns k))), .agg (VI .i64 (dg m)), .pointer (some ⟨g, 0, none⟩), .pointer (some ⟨g, 40, none⟩), .pointer (some ⟨g, 40 + c * 16, none⟩), c118, c119, c120, c121, c122, c123, c124, c125, c126, c127, c128, c129, c130, c131, c132, c133, c134, c135, c136, c137, c138, c139, c140, c141, c142, c143, c144, c145, c146, c147, c148, c149, c150, c151, c152, c153, c154, c155, c156, c157, c158, c159, c160, c161, c162, c163, c164, c165, c166, c167, c168, c169, c170, c171, c172, c173, c174, c175, c176, c177, c178, c179, c180, c181, c182, c183, c184, c185, c186, c187, c188, c189, c190, c191, c192, c193, c194, c195, c196, c197, c198, c199, c200, c201, c202, c203, c204, c205, c206, c207, c208, c209, c210, c211, c212, c213, c214, c215, c216, c217, c218, c219, c220, c221, c222, c223, c224, c225, c226, c227, c228, c229, c230, c231, c232, c233, c234, c235, c236, c237, c238, c239, c240, c241, c242, c243, c244, c245, c246, c247, c248, c249, c250, c251, c252, c253, c254, c255, c256, c257, c258, c259, c260, c261, c262, c263, c264, c265, c266, c267, c268, c269, c270, c271, c272, c273, c274, c275, c276, c277, c278, c279, c280, c281, c282, c283, c284, c285, c286, c287, c288, c289, c290, c291, c292, c293, c294, c295, c296, c297, c298, c299, c300, c301, c302, c303, c304, c305, c306, c307, c308, c309, c310, c311, c312, c313, c314, c315, c316, c317, c318, c319, c320, c321, c322, c323, c324, c325, c326, c327, c328, c329, c330, c331, c332, c333, c334, c335, c336, c337, c338, c339, c340], []⟩ W') :
    Code.wp Try.prog rgB14 Q ⟨#[.pointer (some ⟨g, 0, none⟩), rv, c2, c3, c4, .pointer (some ⟨gx, 0, none⟩), .int .i64 (i : Int), .int .i64 (k : Int), .int .i64 (c : Int), c9, c10, c11, c12, c13, c14, c15, c16, c17, c18, c19, c20, c21, c22, c23, c24, c25, c26, c27, c28, c29, c30, c31, c32, c33, c34, c35, c36, c37, c38, c39, c40, c41, c42, c43, c44, c45, c46, c47, c48, c49, c50, c51, c52, c53, c54, c55, c56, c57, c58, c59, c60, c61, c62, c63, c64, c65, c66, c67, c68, c69, c70, c71, c72, c73, c74, c75, c76, c77, c78, c79, c80, c81, c82, c83, c84, c85, c86, c87, c88, c89, c90, c91, c92, c93, c94, c95, c96, c97, c98, c99, c100, c101, c102, c103, c104, c105, c106, c107, c108, c109, c110, c111, c112, c113, c114, c115, c116, c117, c118, c119, c120, c121, c122, c123, c124, c125, c126, c127, c128, c129, c130, c131, c132, c133, c134, c135, c136, c137, c138, c139, c140, c141, c142, c143, c144, c145, c146, c147, c148, c149, c150, c151, c152, c153, c154, c155, c156, c157, c158, c159, c160, c161, c162, c163, c164, c165, c166, c167, c168, c169, c170, c171, c172, c173, c174, c175, c176, c177, c178, c179, c180, c181, c182, c183, c184, c185, c186, c187, c188, c189, c190, c191, c192, c193, c194, c195, c196, c197, c198, c199, c200, c201, c202, c203, c204, c205, c206, c207, c208, c209, c210, c211, c212, c213, c214, c215, c216, c217, c218, c219, c220, c221, c222, c223, c224, c225, c226, c227, c228, c229, c230, c231, c232, c233, c234, c235, c236, c237, c238, c239, c240, c241, c242, c243, c244, c245, c246, c247, c248, c249, c250, c251, c252, c253, c254, c255, c256, c257, c258, c259, c260, c261, c262, c263, c264, c265, c266, c267, c268, c269, c270, c271, c272, c273, c274, c275, c276, c277, c278, c279, c280, c281, c282, c283, c284, c285, c286, c287, c288, c289, c290, c291, c292, c293, c294, c295, c296, c297, c298, c299, c300, c301, c302, c303, c304, c305, c306, c307, c308, c309, c310, c311, c312, c313, c314, c315, c316, c317, c318, c319, c320, c321, c322, c323, c324, c325, c326, c327, c328, c329, c330, c331, c332, c333, c334, c335, c336, c337, c338, c339, c340], []⟩ W := by
  rw [rgB14_is]
  refine wp_region_held_drew (S := fun Y => Y.heap[gx]? = some (stO K0 A0 B0 C0 D N T)) (by kernel_rfl) (XX.drew.row mx) (fun hH => ?_)
  have hV := XX.drew
  clear XX
  obtain ⟨V0, hV0⟩ : ∃ V, W.drew = V := ⟨_, rfl⟩
  rw [hV0] at hH hV ⊢
  clear hV0
  obtain ⟨a0, ha⟩ : ∃ a : Act, a = ⟨#[.pointer (some ⟨g, 0, none⟩), rv, c2, c3, c4, .pointer (some ⟨gx, 0, none⟩), .int .i64 (i : Int), .int .i64 (k : Int), .int .i64 (c : Int), c9, c10, c11, c12, c13, c14, c15, c16, c17, c18, c19, c20, c21, c22, c23, c24, c25, c26, c27, c28, c29, c30, c31, c32, c33, c34, c35, c36, c37, c38, c39, c40, c41, c42, c43, c44, c45, c46, c47, c48, c49, c50, c51, c52, c53, c54, c55, c56, c57, c58, c59, c60, c61, c62, c63, c64, c65, c66, c67, c68, c69, c70, c71, c72, c73, c74, c75, c76, c77, c78, c79, c80, c81, c82, c83, c84, c85, c86, c87, c88, c89, c90, c91, c92, c93, c94, c95, c96, c97, c98, c99, c100, c101, c102, c103, c104, c105, c106, c107, c108, c109, c110, c111, c112, c113, c114, c115, c116, c117, c118, c119, c120, c121, c122, c123, c124, c125, c126, c127, c128, c129, c130, c131, c132, c133, c134, c135, c136, c137, c138, c139, c140, c141, c142, c143, c144, c145, c146, c147, c148, c149, c150, c151, c152, c153, c154, c155, c156, c157, c158, c159, c160, c161, c162, c163, c164, c165, c166, c167, c168, c169, c170, c171, c172, c173, c174, c175, c176, c177, c178, c179, c180, c181, c182, c183, c184, c185, c186, c187, c188, c189, c190, c191, c192, c193, c194, c195, c196, c197, c198, c199, c200, c201, c202, c203, c204, c205, c206, c207, c208, c209, c210, c211, c212, c213, c214, c215, c216, c217, c218, c219, c220, c221, c222, c223, c224, c225, c226, c227, c228, c229, c230, c231, c232, c233, c234, c235, c236, c237, c238, c239, c240, c241, c242, c243, c244, c245, c246, c247, c248, c249, c250, c251, c252, c253, c254, c255, c256, c257, c258, c259, c260, c261, c262, c263, c264, c265, c266, c267, c268, c269, c270, c271, c272, c273, c274, c275, c276, c277, c278, c279, c280, c281, c282, c283, c284, c285, c286, c287, c288, c289, c290, c291, c292, c293, c294, c295, c296, c297, c298, c299, c300, c301, c302, c303, c304, c305, c306, c307, c308, c309, c310, c311, c312, c313, c314, c315, c316, c317, c318, c319, c320, c321, c322, c323, c324, c325, c326, c327, c328, c329, c330, c331, c332, c333, c334, c335, c336, c337, c338, c339, c340], []⟩ := ⟨_, rfl⟩
  have sz0 : a0.tmps.size = 341 := by rw [ha]; kernel_rfl
  have e0_0 : a0.eval (.tmp 0) = .pointer (some ⟨g, 0, none⟩) := by rw [ha]; kernel_rfl
  have e0_6 : a0.eval (.tmp 6) = .int .i64 (i : Int) := by rw [ha]; kernel_rfl
  have e0_7 : a0.eval (.tmp 7) = .int .i64 (k : Int) := by rw [ha]; kernel_rfl
  have e0_8 : a0.eval (.tmp 8) = .int .i64 (c : Int) := by rw [ha]; kernel_rfl
  rw [← ha]
  refine wpAnyH_as (l' := #[false, false, false, false, false, false, false, false, false, false, false, false, false, false, false, false, false, false, false]) (by kernel_rfl) ?_
  refine takeH (v := .pointer (some ⟨g, 0, none⟩)) opB14_0 opB14_ns (by kernel_rfl) (by kernel_rfl) HPN (fun w hw o ho => run_move ho e0_0 w) hH ?_
  refine wpAnyH_as (l' := #[true, false, false, false, false, false, false, false, false, false, false, false, false, false, false, false, false, false, false]) (by kernel_rfl) ?_
  obtain ⟨a1, h1⟩ : ∃ a' : Act, a' = a0.put (some 100) (.pointer (some ⟨g, 0, none⟩)) := ⟨_, rfl⟩
  rw [← h1]
  have sz1 : a1.tmps.size = 341 := by rw [h1, size_put]; exact sz0
  have e1_0 : a1.eval (.tmp 0) = .pointer (some ⟨g, 0, none⟩) := by rw [h1, eval_put_ne _ _ _ _ (by decide)]; exact e0_0
  have e1_6 : a1.eval (.tmp 6) = .int .i64 (i : Int) := by rw [h1, eval_put_ne _ _ _ _ (by decide)]; exact e0_6
  have e1_7 : a1.eval (.tmp 7) = .int .i64 (k : Int) := by rw [h1, eval_put_ne _ _ _ _ (by decide)]; exact e0_7
  have e1_8 : a1.eval (.tmp 8) = .int .i64 (c : Int) := by rw [h1, eval_put_ne _ _ _ _ (by decide)]; exact e0_8
  have e1_100 : a1.eval (.tmp 100) = .pointer (some ⟨g, 0, none⟩) := by rw [h1]; exact eval_put_eq _ _ _ (by rw [sz0]; decide)
  clear e0_0 e0_6 e0_7 e0_8 sz0
  refine takeH (v := .int .i64 (c : Int)) opB14_1 opB14_ns (by kernel_rfl) (by kernel_rfl) HPN (fun w hw o ho => run_move ho e1_8 w) hH ?_
  refine wpAnyH_as (l' := #[true, true, false, false, false, false, false, false, false, false, false, false, false, false, false, false, false, false, false]) (by kernel_rfl) ?_
  obtain ⟨a2, h2⟩ : ∃ a' : Act, a' = a1.put (some 101) (.int .i64 (c : Int)) := ⟨_, rfl⟩
  rw [← h2]
  have sz2 : a2.tmps.size = 341 := by rw [h2, size_put]; exact sz1
  have e2_0 : a2.eval (.tmp 0) = .pointer (some ⟨g, 0, none⟩) := by rw [h2, eval_put_ne _ _ _ _ (by decide)]; exact e1_0
  have e2_6 : a2.eval (.tmp 6) = .int .i64 (i : Int) := by rw [h2, eval_put_ne _ _ _ _ (by decide)]; exact e1_6
  have e2_7 : a2.eval (.tmp 7) = .int .i64 (k : Int) := by rw [h2, eval_put_ne _ _ _ _ (by decide)]; exact e1_7
  have e2_100 : a2.eval (.tmp 100) = .pointer (some ⟨g, 0, none⟩) := by rw [h2, eval_put_ne _ _ _ _ (by decide)]; exact e1_100
  have e2_101 : a2.eval (.tmp 101) = .int .i64 (c : Int) := by rw [h2]; exact eval_put_eq _ _ _ (by rw [sz1]; decide)
  clear e1_0 e1_100 e1_6 e1_7 e1_8 sz1
  refine takeH (v := .pointer (some ⟨g, 0, none⟩)) opB14_2 opB14_ns (by kernel_rfl) (by kernel_rfl) HPN (fun w hw o ho => run_move ho e2_0 w) hH ?_
  refine wpAnyH_as (l' := #[true, true, true, false, false, false, false, false, false, false, false, false, false, false, false, false, false, false, false]) (by kernel_rfl) ?_
  obtain ⟨a3, h3⟩ : ∃ a' : Act, a' = a2.put (some 102) (.pointer (some ⟨g, 0, none⟩)) := ⟨_, rfl⟩
  rw [← h3]
  have sz3 : a3.tmps.size = 341 := by rw [h3, size_put]; exact sz2
  have e3_0 : a3.eval (.tmp 0) = .pointer (some ⟨g, 0, none⟩) := by rw [h3, eval_put_ne _ _ _ _ (by decide)]; exact e2_0
  have e3_6 : a3.eval (.tmp 6) = .int .i64 (i : Int) := by rw [h3, eval_put_ne _ _ _ _ (by decide)]; exact e2_6
  have e3_7 : a3.eval (.tmp 7) = .int .i64 (k : Int) := by rw [h3, eval_put_ne _ _ _ _ (by decide)]; exact e2_7
  have e3_100 : a3.eval (.tmp 100) = .pointer (some ⟨g, 0, none⟩) := by rw [h3, eval_put_ne _ _ _ _ (by decide)]; exact e2_100
  have e3_101 : a3.eval (.tmp 101) = .int .i64 (c : Int) := by rw [h3, eval_put_ne _ _ _ _ (by decide)]; exact e2_101
  have e3_102 : a3.eval (.tmp 102) = .pointer (some ⟨g, 0, none⟩) := by rw [h3]; exact eval_put_eq _ _ _ (by rw [sz2]; decide)
  clear e2_0 e2_100 e2_101 e2_6 e2_7 sz2
  refine takeH (v := .int .i64 (i : Int)) opB14_3 opB14_ns (by kernel_rfl) (by kernel_rfl) HPN (fun w hw o ho => run_move ho e3_6 w) hH ?_
  refine wpAnyH_as (l' := #[true, true, true, true, false, false, false, false, false, false, false, false, false, false, false, false, false, false, false]) (by kernel_rfl) ?_
  obtain ⟨a4, h4⟩ : ∃ a' : Act, a' = a3.put (some 103) (.int .i64 (i : Int)) := ⟨_, rfl⟩
  rw [← h4]
  have sz4 : a4.tmps.size = 341 := by rw [h4, size_put]; exact sz3
  have e4_0 : a4.eval (.tmp 0) = .pointer (some ⟨g, 0, none⟩) := by rw [h4, eval_put_ne _ _ _ _ (by decide)]; exact e3_0
  have e4_7 : a4.eval (.tmp 7) = .int .i64 (k : Int) := by rw [h4, eval_put_ne _ _ _ _ (by decide)]; exact e3_7
  have e4_100 : a4.eval (.tmp 100) = .pointer (some ⟨g, 0, none⟩) := by rw [h4, eval_put_ne _ _ _ _ (by decide)]; exact e3_100
  have e4_101 : a4.eval (.tmp 101) = .int .i64 (c : Int) := by rw [h4, eval_put_ne _ _ _ _ (by decide)]; exact e3_101
  have e4_102 : a4.eval (.tmp 102) = .pointer (some ⟨g, 0, none⟩) := by rw [h4, eval_put_ne _ _ _ _ (by decide)]; exact e3_102
  have e4_103 : a4.eval (.tmp 103) = .int .i64 (i : Int) := by rw [h4]; exact eval_put_eq _ _ _ (by rw [sz3]; decide)
  clear e3_0 e3_100 e3_101 e3_102 e3_6 e3_7 sz3
  refine takeH (v := .pointer (some ⟨g, 0, none⟩)) opB14_4 opB14_ns (by kernel_rfl) (by kernel_rfl) HPN (fun w hw o ho => run_nilCheck ho e4_102 w) hH ?_
  refine wpAnyH_as (l' := #[true, true, true, true, true, false, false, false, false, false, false, false, false, false, false, false, false, false, false]) (by kernel_rfl) ?_
  obtain ⟨a5, h5⟩ : ∃ a' : Act, a' = a4.put (some 104) (.pointer (some ⟨g, 0, none⟩)) := ⟨_, rfl⟩
  rw [← h5]
  have sz5 : a5.tmps.size = 341 := by rw [h5, size_put]; exact sz4
  have e5_0 : a5.eval (.tmp 0) = .pointer (some ⟨g, 0, none⟩) := by rw [h5, eval_put_ne _ _ _ _ (by decide)]; exact e4_0
  have e5_7 : a5.eval (.tmp 7) = .int .i64 (k : Int) := by rw [h5, eval_put_ne _ _ _ _ (by decide)]; exact e4_7
  have e5_100 : a5.eval (.tmp 100) = .pointer (some ⟨g, 0, none⟩) := by rw [h5, eval_put_ne _ _ _ _ (by decide)]; exact e4_100
  have e5_101 : a5.eval (.tmp 101) = .int .i64 (c : Int) := by rw [h5, eval_put_ne _ _ _ _ (by decide)]; exact e4_101
  have e5_103 : a5.eval (.tmp 103) = .int .i64 (i : Int) := by rw [h5, eval_put_ne _ _ _ _ (by decide)]; exact e4_103
  have e5_104 : a5.eval (.tmp 104) = .pointer (some ⟨g, 0, none⟩) := by rw [h5]; exact eval_put_eq _ _ _ (by rw [sz4]; decide)
  clear e4_0 e4_100 e4_101 e4_102 e4_103 e4_7 sz4
  refine takeH (v := .pointer (some ⟨g, 40, none⟩)) opB14_5 opB14_ns (by kernel_rfl) (by kernel_rfl) HPN (fun w hw o ho => run_fieldN ho e5_104 w) hH ?_
  refine wpAnyH_as (l' := #[true, true, true, true, true, true, false, false, false, false, false, false, false, false, false, false, false, false, false]) (by kernel_rfl) ?_
  obtain ⟨a6, h6⟩ : ∃ a' : Act, a' = a5.put (some 105) (.pointer (some ⟨g, 40, none⟩)) := ⟨_, rfl⟩
  rw [← h6]
  have sz6 : a6.tmps.size = 341 := by rw [h6, size_put]; exact sz5
  have e6_0 : a6.eval (.tmp 0) = .pointer (some ⟨g, 0, none⟩) := by rw [h6, eval_put_ne _ _ _ _ (by decide)]; exact e5_0
  have e6_7 : a6.eval (.tmp 7) = .int .i64 (k : Int) := by rw [h6, eval_put_ne _ _ _ _ (by decide)]; exact e5_7
  have e6_100 : a6.eval (.tmp 100) = .pointer (some ⟨g, 0, none⟩) := by rw [h6, eval_put_ne _ _ _ _ (by decide)]; exact e5_100
  have e6_101 : a6.eval (.tmp 101) = .int .i64 (c : Int) := by rw [h6, eval_put_ne _ _ _ _ (by decide)]; exact e5_101
  have e6_103 : a6.eval (.tmp 103) = .int .i64 (i : Int) := by rw [h6, eval_put_ne _ _ _ _ (by decide)]; exact e5_103
  have e6_105 : a6.eval (.tmp 105) = .pointer (some ⟨g, 40, none⟩) := by rw [h6]; exact eval_put_eq _ _ _ (by rw [sz5]; decide)
  clear e5_0 e5_100 e5_101 e5_103 e5_104 e5_7 sz5
  refine takeH (v := .pointer (some ⟨g, 40 + i * 16, none⟩)) opB14_6 opB14_ns (by kernel_rfl) (by kernel_rfl) HPN (fun w hw o ho => run_indexN hi8.out ho e6_105 e6_103 w) hH ?_
  refine wpAnyH_as (l' := #[true, true, true, true, true, true, true, false, false, false, false, false, false, false, false, false, false, false, false]) (by kernel_rfl) ?_
  obtain ⟨a7, h7⟩ : ∃ a' : Act, a' = a6.put (some 106) (.pointer (some ⟨g, 40 + i * 16, none⟩)) := ⟨_, rfl⟩
  rw [← h7]
  have sz7 : a7.tmps.size = 341 := by rw [h7, size_put]; exact sz6
  have e7_0 : a7.eval (.tmp 0) = .pointer (some ⟨g, 0, none⟩) := by rw [h7, eval_put_ne _ _ _ _ (by decide)]; exact e6_0
  have e7_7 : a7.eval (.tmp 7) = .int .i64 (k : Int) := by rw [h7, eval_put_ne _ _ _ _ (by decide)]; exact e6_7
  have e7_100 : a7.eval (.tmp 100) = .pointer (some ⟨g, 0, none⟩) := by rw [h7, eval_put_ne _ _ _ _ (by decide)]; exact e6_100
  have e7_101 : a7.eval (.tmp 101) = .int .i64 (c : Int) := by rw [h7, eval_put_ne _ _ _ _ (by decide)]; exact e6_101
  have e7_106 : a7.eval (.tmp 106) = .pointer (some ⟨g, 40 + i * 16, none⟩) := by rw [h7]; exact eval_put_eq _ _ _ (by rw [sz6]; decide)
  clear e6_0 e6_100 e6_101 e6_103 e6_105 e6_7 sz6
  refine takeH (v := .pointer (some ⟨g, 0, none⟩)) opB14_8 opB14_ns (by kernel_rfl) (by kernel_rfl) HPN (fun w hw o ho => run_move ho e7_0 w) hH ?_
  refine wpAnyH_as (l' := #[true, true, true, true, true, true, true, false, true, false, false, false, false, false, false, false, false, false, false]) (by kernel_rfl) ?_
  obtain ⟨a8, h8⟩ : ∃ a' : Act, a' = a7.put (some 108) (.pointer (some ⟨g, 0, none⟩)) := ⟨_, rfl⟩
  rw [← h8]
  have sz8 : a8.tmps.size = 341 := by rw [h8, size_put]; exact sz7
  have e8_7 : a8.eval (.tmp 7) = .int .i64 (k : Int) := by rw [h8, eval_put_ne _ _ _ _ (by decide)]; exact e7_7
  have e8_100 : a8.eval (.tmp 100) = .pointer (some ⟨g, 0, none⟩) := by rw [h8, eval_put_ne _ _ _ _ (by decide)]; exact e7_100
  have e8_101 : a8.eval (.tmp 101) = .int .i64 (c : Int) := by rw [h8, eval_put_ne _ _ _ _ (by decide)]; exact e7_101
  have e8_106 : a8.eval (.tmp 106) = .pointer (some ⟨g, 40 + i * 16, none⟩) := by rw [h8, eval_put_ne _ _ _ _ (by decide)]; exact e7_106
  have e8_108 : a8.eval (.tmp 108) = .pointer (some ⟨g, 0, none⟩) := by rw [h8]; exact eval_put_eq _ _ _ (by rw [sz7]; decide)
  clear e7_0 e7_100 e7_101 e7_106 e7_7 sz7
  refine takeH (v := .int .i64 (k : Int)) opB14_9 opB14_ns (by kernel_rfl) (by kernel_rfl) HPN (fun w hw o ho => run_move ho e8_7 w) hH ?_
  refine wpAnyH_as (l' := #[true, true, true, true, true, true, true, false, true, true, false, false, false, false, false, false, false, false, false]) (by kernel_rfl) ?_
  obtain ⟨a9, h9⟩ : ∃ a' : Act, a' = a8.put (some 109) (.int .i64 (k : Int)) := ⟨_, rfl⟩
  rw [← h9]
  have sz9 : a9.tmps.size = 341 := by rw [h9, size_put]; exact sz8
  have e9_100 : a9.eval (.tmp 100) = .pointer (some ⟨g, 0, none⟩) := by rw [h9, eval_put_ne _ _ _ _ (by decide)]; exact e8_100
  have e9_101 : a9.eval (.tmp 101) = .int .i64 (c : Int) := by rw [h9, eval_put_ne _ _ _ _ (by decide)]; exact e8_101
  have e9_106 : a9.eval (.tmp 106) = .pointer (some ⟨g, 40 + i * 16, none⟩) := by rw [h9, eval_put_ne _ _ _ _ (by decide)]; exact e8_106
  have e9_108 : a9.eval (.tmp 108) = .pointer (some ⟨g, 0, none⟩) := by rw [h9, eval_put_ne _ _ _ _ (by decide)]; exact e8_108
  have e9_109 : a9.eval (.tmp 109) = .int .i64 (k : Int) := by rw [h9]; exact eval_put_eq _ _ _ (by rw [sz8]; decide)
  clear e8_100 e8_101 e8_106 e8_108 e8_7 sz8
  refine takeH (v := .pointer (some ⟨g, 0, none⟩)) opB14_10 opB14_ns (by kernel_rfl) (by kernel_rfl) HPN (fun w hw o ho => run_nilCheck ho e9_108 w) hH ?_
  refine wpAnyH_as (l' := #[true, true, true, true, true, true, true, false, true, true, true, false, false, false, false, false, false, false, false]) (by kernel_rfl) ?_
  obtain ⟨a10, h10⟩ : ∃ a' : Act, a' = a9.put (some 110) (.pointer (some ⟨g, 0, none⟩)) := ⟨_, rfl⟩
  rw [← h10]
  have sz10 : a10.tmps.size = 341 := by rw [h10, size_put]; exact sz9
  have e10_100 : a10.eval (.tmp 100) = .pointer (some ⟨g, 0, none⟩) := by rw [h10, eval_put_ne _ _ _ _ (by decide)]; exact e9_100
  have e10_101 : a10.eval (.tmp 101) = .int .i64 (c : Int) := by rw [h10, eval_put_ne _ _ _ _ (by decide)]; exact e9_101
  have e10_106 : a10.eval (.tmp 106) = .pointer (some ⟨g, 40 + i * 16, none⟩) := by rw [h10, eval_put_ne _ _ _ _ (by decide)]; exact e9_106
  have e10_109 : a10.eval (.tmp 109) = .int .i64 (k : Int) := by rw [h10, eval_put_ne _ _ _ _ (by decide)]; exact e9_109
  have e10_110 : a10.eval (.tmp 110) = .pointer (some ⟨g, 0, none⟩) := by rw [h10]; exact eval_put_eq _ _ _ (by rw [sz9]; decide)
  clear e9_100 e9_101 e9_106 e9_108 e9_109 sz9
  refine takeH (v := .pointer (some ⟨g, 40, none⟩)) opB14_11 opB14_ns (by kernel_rfl) (by kernel_rfl) HPN (fun w hw o ho => run_fieldN ho e10_110 w) hH ?_
  refine wpAnyH_as (l' := #[true, true, true, true, true, true, true, false, true, true, true, true, false, false, false, false, false, false, false]) (by kernel_rfl) ?_
  obtain ⟨a11, h11⟩ : ∃ a' : Act, a' = a10.put (some 111) (.pointer (some ⟨g, 40, none⟩)) := ⟨_, rfl⟩
  rw [← h11]
  have sz11 : a11.tmps.size = 341 := by rw [h11, size_put]; exact sz10
  have e11_100 : a11.eval (.tmp 100) = .pointer (some ⟨g, 0, none⟩) := by rw [h11, eval_put_ne _ _ _ _ (by decide)]; exact e10_100
  have e11_101 : a11.eval (.tmp 101) = .int .i64 (c : Int) := by rw [h11, eval_put_ne _ _ _ _ (by decide)]; exact e10_101
  have e11_106 : a11.eval (.tmp 106) = .pointer (some ⟨g, 40 + i * 16, none⟩) := by rw [h11, eval_put_ne _ _ _ _ (by decide)]; exact e10_106
  have e11_109 : a11.eval (.tmp 109) = .int .i64 (k : Int) := by rw [h11, eval_put_ne _ _ _ _ (by decide)]; exact e10_109
  have e11_111 : a11.eval (.tmp 111) = .pointer (some ⟨g, 40, none⟩) := by rw [h11]; exact eval_put_eq _ _ _ (by rw [sz10]; decide)
  clear e10_100 e10_101 e10_106 e10_109 e10_110 sz10
  refine takeH (v := .pointer (some ⟨g, 40 + k * 16, none⟩)) opB14_12 opB14_ns (by kernel_rfl) (by kernel_rfl) HPN (fun w hw o ho => run_indexN hk8.out ho e11_111 e11_109 w) hH ?_
  refine wpAnyH_as (l' := #[true, true, true, true, true, true, true, false, true, true, true, true, true, false, false, false, false, false, false]) (by kernel_rfl) ?_
  obtain ⟨a12, h12⟩ : ∃ a' : Act, a' = a11.put (some 112) (.pointer (some ⟨g, 40 + k * 16, none⟩)) := ⟨_, rfl⟩
  rw [← h12]
  have sz12 : a12.tmps.size = 341 := by rw [h12, size_put]; exact sz11
  have e12_100 : a12.eval (.tmp 100) = .pointer (some ⟨g, 0, none⟩) := by rw [h12, eval_put_ne _ _ _ _ (by decide)]; exact e11_100
  have e12_101 : a12.eval (.tmp 101) = .int .i64 (c : Int) := by rw [h12, eval_put_ne _ _ _ _ (by decide)]; exact e11_101
  have e12_106 : a12.eval (.tmp 106) = .pointer (some ⟨g, 40 + i * 16, none⟩) := by rw [h12, eval_put_ne _ _ _ _ (by decide)]; exact e11_106
  have e12_112 : a12.eval (.tmp 112) = .pointer (some ⟨g, 40 + k * 16, none⟩) := by rw [h12]; exact eval_put_eq _ _ _ (by rw [sz11]; decide)
  clear e11_100 e11_101 e11_106 e11_109 e11_111 sz11
  refine takeH (v := .pointer (some ⟨g, 0, none⟩)) opB14_15 opB14_ns (by kernel_rfl) (by kernel_rfl) HPN (fun w hw o ho => run_nilCheck ho e12_100 w) hH ?_
  refine wpAnyH_as (l' := #[true, true, true, true, true, true, true, false, true, true, true, true, true, false, false, true, false, false, false]) (by kernel_rfl) ?_
  obtain ⟨a13, h13⟩ : ∃ a' : Act, a' = a12.put (some 115) (.pointer (some ⟨g, 0, none⟩)) := ⟨_, rfl⟩
  rw [← h13]
  have sz13 : a13.tmps.size = 341 := by rw [h13, size_put]; exact sz12
  have e13_101 : a13.eval (.tmp 101) = .int .i64 (c : Int) := by rw [h13, eval_put_ne _ _ _ _ (by decide)]; exact e12_101
  have e13_106 : a13.eval (.tmp 106) = .pointer (some ⟨g, 40 + i * 16, none⟩) := by rw [h13, eval_put_ne _ _ _ _ (by decide)]; exact e12_106
  have e13_112 : a13.eval (.tmp 112) = .pointer (some ⟨g, 40 + k * 16, none⟩) := by rw [h13, eval_put_ne _ _ _ _ (by decide)]; exact e12_112
  have e13_115 : a13.eval (.tmp 115) = .pointer (some ⟨g, 0, none⟩) := by rw [h13]; exact eval_put_eq _ _ _ (by rw [sz12]; decide)
  clear e12_100 e12_101 e12_106 e12_112 sz12
  refine takeH (v := .pointer (some ⟨g, 40, none⟩)) opB14_16 opB14_ns (by kernel_rfl) (by kernel_rfl) HPN (fun w hw o ho => run_fieldN ho e13_115 w) hH ?_
  refine wpAnyH_as (l' := #[true, true, true, true, true, true, true, false, true, true, true, true, true, false, false, true, true, false, false]) (by kernel_rfl) ?_
  obtain ⟨a14, h14⟩ : ∃ a' : Act, a' = a13.put (some 116) (.pointer (some ⟨g, 40, none⟩)) := ⟨_, rfl⟩
  rw [← h14]
  have sz14 : a14.tmps.size = 341 := by rw [h14, size_put]; exact sz13
  have e14_101 : a14.eval (.tmp 101) = .int .i64 (c : Int) := by rw [h14, eval_put_ne _ _ _ _ (by decide)]; exact e13_101
  have e14_106 : a14.eval (.tmp 106) = .pointer (some ⟨g, 40 + i * 16, none⟩) := by rw [h14, eval_put_ne _ _ _ _ (by decide)]; exact e13_106
  have e14_112 : a14.eval (.tmp 112) = .pointer (some ⟨g, 40 + k * 16, none⟩) := by rw [h14, eval_put_ne _ _ _ _ (by decide)]; exact e13_112
  have e14_116 : a14.eval (.tmp 116) = .pointer (some ⟨g, 40, none⟩) := by rw [h14]; exact eval_put_eq _ _ _ (by rw [sz13]; decide)
  clear e13_101 e13_106 e13_112 e13_115 sz13
  refine readyLd2 (v := .agg (VI .i64 (dg (ns i)))) (u := .agg (VI .i64 (dg (ns k)))) opB14_7 opB14_13 (by decide) (by decide) (by kernel_rfl) (by kernel_rfl) (by kernel_rfl) hH (fun o ho => run_loadN (dg_len _) ho e14_106 _ (hV.bn.rangeN hi8.out)) (fun o ho => run_loadN (dg_len _) ho e14_112 _ (hV.bn.rangeN hk8.out)) (fun o ho => run_loadN (dg_len _) ho ((eval_put_ne _ _ _ _ (by decide)).trans e14_106) _ (hV.bn.rangeN hi8.out)) (fun o ho => run_loadN (dg_len _) ho ((eval_put_ne _ _ _ _ (by decide)).trans e14_112) _ (hV.bn.rangeN hk8.out)) ?_
  refine wpAnyH_as (l' := #[true, true, true, true, true, true, true, true, true, true, true, true, true, true, false, true, true, false, false]) (by kernel_rfl) ?_
  obtain ⟨a15, h15⟩ : ∃ a' : Act, a' = a14.put (some 107) (.agg (VI .i64 (dg (ns i)))) := ⟨_, rfl⟩
  rw [← h15]
  have sz15 : a15.tmps.size = 341 := by rw [h15, size_put]; exact sz14
  have e15_101 : a15.eval (.tmp 101) = .int .i64 (c : Int) := by rw [h15, eval_put_ne _ _ _ _ (by decide)]; exact e14_101
  have e15_116 : a15.eval (.tmp 116) = .pointer (some ⟨g, 40, none⟩) := by rw [h15, eval_put_ne _ _ _ _ (by decide)]; exact e14_116
  have e15_107 : a15.eval (.tmp 107) = .agg (VI .i64 (dg (ns i))) := by rw [h15]; exact eval_put_eq _ _ _ (by rw [sz14]; decide)
  clear e14_101 e14_106 e14_112 e14_116 sz14
  obtain ⟨a16, h16⟩ : ∃ a' : Act, a' = a15.put (some 113) (.agg (VI .i64 (dg (ns k)))) := ⟨_, rfl⟩
  rw [← h16]
  have sz16 : a16.tmps.size = 341 := by rw [h16, size_put]; exact sz15
  have e16_101 : a16.eval (.tmp 101) = .int .i64 (c : Int) := by rw [h16, eval_put_ne _ _ _ _ (by decide)]; exact e15_101
  have e16_116 : a16.eval (.tmp 116) = .pointer (some ⟨g, 40, none⟩) := by rw [h16, eval_put_ne _ _ _ _ (by decide)]; exact e15_116
  have e16_107 : a16.eval (.tmp 107) = .agg (VI .i64 (dg (ns i))) := by rw [h16, eval_put_ne _ _ _ _ (by decide)]; exact e15_107
  have e16_113 : a16.eval (.tmp 113) = .agg (VI .i64 (dg (ns k))) := by rw [h16]; exact eval_put_eq _ _ _ (by rw [sz15]; decide)
  clear e15_101 e15_107 e15_116 sz15
  refine readyH opB14_14 (by kernel_rfl) (fun o ho hd => wpCall (v := .agg (VI .i64 (dg m))) ho hd (args := #[.agg (VI .i64 (dg (ns i))), .agg (VI .i64 (dg (ns k)))]) (by simp only [List.map_toArray, List.map_cons, List.map_nil, e16_107, e16_113] <;> rfl) (fun _ => rfl) (HC.out _) (fun w1 hw1 => ?_))
  have hV1 := hV.below hw1
  refine ⟨hV1.row mx, ?_⟩
  have hH := hV1.row mx
  refine wpAnyH_as (l' := #[true, true, true, true, true, true, true, true, true, true, true, true, true, true, true, true, true, false, false]) (by kernel_rfl) ?_
  obtain ⟨a17, h17⟩ : ∃ a' : Act, a' = a16.put (some 114) (.agg (VI .i64 (dg m))) := ⟨_, rfl⟩
  rw [← h17]
  have sz17 : a17.tmps.size = 341 := by rw [h17, size_put]; exact sz16
  have e17_101 : a17.eval (.tmp 101) = .int .i64 (c : Int) := by rw [h17, eval_put_ne _ _ _ _ (by decide)]; exact e16_101
  have e17_116 : a17.eval (.tmp 116) = .pointer (some ⟨g, 40, none⟩) := by rw [h17, eval_put_ne _ _ _ _ (by decide)]; exact e16_116
  have e17_114 : a17.eval (.tmp 114) = .agg (VI .i64 (dg m)) := by rw [h17]; exact eval_put_eq _ _ _ (by rw [sz16]; decide)
  clear e16_101 e16_107 e16_113 e16_116 sz16
  refine takeH (v := .pointer (some ⟨g, 40 + c * 16, none⟩)) opB14_17 opB14_ns (by kernel_rfl) (by kernel_rfl) HPN (fun w hw o ho => run_indexN hc8.out ho e17_116 e17_101 w) hH ?_
  refine wpAnyH_as (l' := #[true, true, true, true, true, true, true, true, true, true, true, true, true, true, true, true, true, true, false]) (by kernel_rfl) ?_
  obtain ⟨a18, h18⟩ : ∃ a' : Act, a' = a17.put (some 117) (.pointer (some ⟨g, 40 + c * 16, none⟩)) := ⟨_, rfl⟩
  rw [← h18]
  have sz18 : a18.tmps.size = 341 := by rw [h18, size_put]; exact sz17
  have e18_114 : a18.eval (.tmp 114) = .agg (VI .i64 (dg m)) := by rw [h18, eval_put_ne _ _ _ _ (by decide)]; exact e17_114
  have e18_117 : a18.eval (.tmp 117) = .pointer (some ⟨g, 40 + c * 16, none⟩) := by rw [h18]; exact eval_put_eq _ _ _ (by rw [sz17]; decide)
  clear e17_101 e17_114 e17_116 sz17
  refine readyH opB14_18 (by kernel_rfl) (fun o ho hd => wp_store_mid _ _ _ ho g (40 + c * 16) (VI .i64 (dg m)) e18_117 e18_114 (by rw [VI_size, dg_len]; exact hV1.bn.thereN hc8.out) (by rw [VI_size, dg_len]; kernel_rfl) (VI_one _ _) ?_)
  have hE := hV1.setN hc8.out hm.out
  rw [hd]
  refine ⟨hE.row mx, ?_⟩
  refine wpAnyH_as (l' := #[true, true, true, true, true, true, true, true, true, true, true, true, true, true, true, true, true, true, true]) (by kernel_rfl) ?_
  refine wpAnyH_done (by kernel_rfl) ?_ _
  have hF : a18 = ⟨#[.pointer (some ⟨g, 0, none⟩), rv, c2, c3, c4, .pointer (some ⟨gx, 0, none⟩), .int .i64 (i : Int), .int .i64 (k : Int), .int .i64 (c : Int), c9, c10, c11, c12, c13, c14, c15, c16, c17, c18, c19, c20, c21, c22, c23, c24, c25, c26, c27, c28, c29, c30, c31, c32, c33, c34, c35, c36, c37, c38, c39, c40, c41, c42, c43, c44, c45, c46, c47, c48, c49, c50, c51, c52, c53, c54, c55, c56, c57, c58, c59, c60, c61, c62, c63, c64, c65, c66, c67, c68, c69, c70, c71, c72, c73, c74, c75, c76, c77, c78, c79, c80, c81, c82, c83, c84, c85, c86, c87, c88, c89, c90, c91, c92, c93, c94, c95, c96, c97, c98, c99, .pointer (some ⟨g, 0, none⟩), .int .i64 (c : Int), .pointer (some ⟨g, 0, none⟩), .int .i64 (i : Int), .pointer (some ⟨g, 0, none⟩), .pointer (some ⟨g, 40, none⟩), .pointer (some ⟨g, 40 + i * 16, none⟩), .agg (VI .i64 (dg (ns i))), .pointer (some ⟨g, 0, none⟩), .int .i64 (k : Int), .pointer (some ⟨g, 0, none⟩), .pointer (some ⟨g, 40, none⟩), .pointer (some ⟨g, 40 + k * 16, none⟩), .agg (VI .i64 (dg (ns k))), .agg (VI .i64 (dg m)), .pointer (some ⟨g, 0, none⟩), .pointer (some ⟨g, 40, none⟩), .pointer (some ⟨g, 40 + c * 16, none⟩), c118, c119, c120, c121, c122, c123, c124, c125, c126, c127, c128, c129, c130, c131, c132, c133, c134, c135, c136, c137, c138, c139, c140, c141, c142, c143, c144, c145, c146, c147, c148, c149, c150, c151, c152, c153, c154, c155, c156, c157, c158, c159, c160, c161, c162, c163, c164, c165, c166, c167, c168, c169, c170, c171, c172, c173, c174, c175, c176, c177, c178, c179, c180, c181, c182, c183, c184, c185, c186, c187, c188, c189, c190, c191, c192, c193, c194, c195, c196, c197, c198, c199, c200, c201, c202, c203, c204, c205, c206, c207, c208, c209, c210, c211, c212, c213, c214, c215, c216, c217, c218, c219, c220, c221, c222, c223, c224, c225, c226, c227, c228, c229, c230, c231, c232, c233, c234, c235, c236, c237, c238, c239, c240, c241, c242, c243, c244, c245, c246, c247, c248, c249, c250, c251, c252, c253, c254, c255, c256, c257, c258, c259, c260, c261, c262, c263, c264, c265, c266, c267, c268, c269, c270, c271, c272, c273, c274, c275, c276, c277, c278, c279, c280, c281, c282, c283, c284, c285, c286, c287, c288, c289, c290, c291, c292, c293, c294, c295, c296, c297, c298, c299, c300, c301, c302, c303, c304, c305, c306, c307, c308, c309, c310, c311, c312, c313, c314, c315, c316, c317, c318, c319, c320, c321, c322, c323, c324, c325, c326, c327, c328, c329, c330, c331, c332, c333, c334, c335, c336, c337, c338, c339, c340], []⟩ := by rw [h18, h17, h16, h15, h14, h13, h12, h11, h10, h9, h8, h7, h6, h5, h4, h3, h2, h1, ha]; kernel_rfl
  show Q .normal (a18.put none undef) _
  rw [show a18.put none undef = a18 from rfl, hF]
  exact H _ hE
noncomputable def rgB17 : Code := ((Try.f17.body.bind (findReg 17)).getD .skip)
noncomputable def opB17 : Array Oper := opsOf rgB17
theorem rgB17_is : rgB17 = .region 17 opB17 true := by kernel_rfl
theorem opB17_ns : Region.noSelect opB17 = true := by kernel_rfl
theorem opB17_0 : opIs opB17 0 (.move (.tmp 0)) (some 122) := by unfold opIs; kernel_rfl
theorem opB17_1 : opIs opB17 1 (.move (.tmp 8)) (some 123) := by unfold opIs; kernel_rfl
theorem opB17_2 : opIs opB17 2 (.move (.tmp 1)) (some 124) := by unfold opIs; kernel_rfl
theorem opB17_3 : opIs opB17 3 (.move (.tmp 0)) (some 125) := by unfold opIs; kernel_rfl
theorem opB17_4 : opIs opB17 4 (.move (.tmp 6)) (some 126) := by unfold opIs; kernel_rfl
theorem opB17_5 : opIs opB17 5 (.nilCheck (.tmp 125)) (some 127) := by unfold opIs; kernel_rfl
theorem opB17_6 : opIs opB17 6 (.fieldAddr 53 (.tmp 127) 0) (some 128) := by unfold opIs; kernel_rfl
theorem opB17_7 : opIs opB17 7 (.indexAddr 48 (.tmp 128) (.tmp 126)) (some 129) := by unfold opIs; kernel_rfl
theorem opB17_8 : opIs opB17 8 (.load 47 (.tmp 129)) (some 130) := by unfold opIs; kernel_rfl
theorem opB17_9 : opIs opB17 9 (.move (.tmp 0)) (some 131) := by unfold opIs; kernel_rfl
theorem opB17_10 : opIs opB17 10 (.move (.tmp 7)) (some 132) := by unfold opIs; kernel_rfl
theorem opB17_11 : opIs opB17 11 (.nilCheck (.tmp 131)) (some 133) := by unfold opIs; kernel_rfl
theorem opB17_12 : opIs opB17 12 (.fieldAddr 53 (.tmp 133) 0) (some 134) := by unfold opIs; kernel_rfl
theorem opB17_13 : opIs opB17 13 (.indexAddr 48 (.tmp 134) (.tmp 132)) (some 135) := by unfold opIs; kernel_rfl
theorem opB17_14 : opIs opB17 14 (.load 47 (.tmp 135)) (some 136) := by unfold opIs; kernel_rfl
theorem opB17_15 : opIs opB17 15 (.call { callee := .value (.func 39), args := #[.tmp 124, .tmp 130, .tmp 136], argTypes := #[23, 47, 47] }) (some 137) := by unfold opIs; kernel_rfl
theorem opB17_16 : opIs opB17 16 (.nilCheck (.tmp 122)) (some 138) := by unfold opIs; kernel_rfl
theorem opB17_17 : opIs opB17 17 (.fieldAddr 53 (.tmp 138) 0) (some 139) := by unfold opIs; kernel_rfl
theorem opB17_18 : opIs opB17 18 (.indexAddr 48 (.tmp 139) (.tmp 123)) (some 140) := by unfold opIs; kernel_rfl
theorem opB17_19 : opIs opB17 19 (.store 47 (.tmp 140) (.tmp 137)) (none) := by unfold opIs; kernel_rfl
set_option maxRecDepth 100000 in
set_option maxHeartbeats 4000000 in
theorem bk_r17 {Q : Exit → Act → World → Prop} {B : Nat} {w W : World} {rv vs : Value} {lr ll : List (Int × Int)} {g gx : Nat} {es : Nat → List Int} {ns : Nat → Nat} {bx : List (Nat × Obj)} {i k c : Nat} {D : List Int} {K0 A0 B0 C0 N T : Int} {z : List Int} {c2 c3 c4 c9 c10 c11 c12 c13 c14 c15 c16 c17 c18 c19 c20 c21 c22 c23 c24 c25 c26 c27 c28 c29 c30 c31 c32 c33 c34 c35 c36 c37 c38 c39 c40 c41 c42 c43 c44 c45 c46 c47 c48 c49 c50 c51 c52 c53 c54 c55 c56 c57 c58 c59 c60 c61 c62 c63 c64 c65 c66 c67 c68 c69 c70 c71 c72 c73 c74 c75 c76 c77 c78 c79 c80 c81 c82 c83 c84 c85 c86 c87 c88 c89 c90 c91 c92 c93 c94 c95 c96 c97 c98 c99 c100 c101 c102 c103 c104 c105 c106 c107 c108 c109 c110 c111 c112 c113 c114 c115 c116 c117 c118 c119 c120 c121 c122 c123 c124 c125 c126 c127 c128 c129 c130 c131 c132 c133 c134 c135 c136 c137 c138 c139 c140 c141 c142 c143 c144 c145 c146 c147 c148 c149 c150 c151 c152 c153 c154 c155 c156 c157 c158 c159 c160 c161 c162 c163 c164 c165 c166 c167 c168 c169 c170 c171 c172 c173 c174 c175 c176 c177 c178 c179 c180 c181 c182 c183 c184 c185 c186 c187 c188 c189 c190 c191 c192 c193 c194 c195 c196 c197 c198 c199 c200 c201 c202 c203 c204 c205 c206 c207 c208 c209 c210 c211 c212 c213 c214 c215 c216 c217 c218 c219 c220 c221 c222 c223 c224 c225 c226 c227 c228 c229 c230 c231 c232 c233 c234 c235 c236 c237 c238 c239 c240 c241 c242 c243 c244 c245 c246 c247 c248 c249 c250 c251 c252 c253 c254 c255 c256 c257 c258 c259 c260 c261 c262 c263 c264 c265 c266 c267 c268 c269 c270 c271 c272 c273 c274 c275 c276 c277 c278 c279 c280 c281 c282 c283 c284 c285 c286 c287 c288 c289 c290 c291 c292 c293 c294 c295 c296 c297 c298 c299 c300 c301 c302 c303 c304 c305 c306 c307 c308 c309 c310 c311 c312 c313 c314 c315 c316 c317 c318 c319 c320 c321 c322 c323 c324 c325 c326 c327 c328 c329 c330 c331 c332 c333 c334 c335 c336 c337 c338 c339 c340 : Value}
    (hi8 : Hid (i < 8)) (hk8 : Hid (k < 8)) (hc8 : Hid (c < 8)) (LD : Hid (D.length = 32))
    (HC : Hid (∀ B w rv l bx wr, Ev B w rv l bx wr → l.length ≤ 1000000 → Calls Try.prog 39 #[rv, .agg (VI .u64 (es i)), .agg (VI .u64 (es k))] wr fun e w' => e = .returned (.agg (VI .u64 z)) ∧ Ev B w rv (l ++ [(3, 3)]) bx w')) (hl : Hid (lr.length ≤ 1000000)) (lz : Hid (Lim z))
    (mx : (gx, stO K0 A0 B0 C0 D N T) ∈ bx)
    (XX : SB B w rv lr g es ns vs ll bx W)
    (HPN : ∀ c (a : Act) d v w, Q (.panic c) (a.put d v) w → Q (.panic c) a w)
    (H : ∀ W', SB B w rv (lr ++ [(3, 3)]) g (upd es c z) ns vs ll bx W' → Q .normal ⟨#[.pointer (some ⟨g, 0, none⟩), rv, c2, c3, c4, .pointer (some ⟨gx, 0, none⟩), .int .i64 (i : Int), .int .i64 (k : Int), .int .i64 (c : Int), c9, c10, c11, c12, c13, c14, c15, c16, c17, c18, c19, c20, c21, c22, c23, c24, c25, c26, c27, c28, c29, c30, c31, c32, c33, c34, c35, c36, c37, c38, c39, c40, c41, c42, c43, c44, c45, c46, c47, c48, c49, c50, c51, c52, c53, c54, c55, c56, c57, c58, c59, c60, c61, c62, c63, c64, c65, c66, c67, c68, c69, c70, c71, c72, c73, c74, c75, c76, c77, c78, c79, c80, c81, c82, c83, c84, c85, c86, c87, c88, c89, c90, c91, c92, c93, c94, c95, c96, c97, c98, c99, c100, c101, c102, c103, c104, c105, c106, c107, c108, c109, c110, c111, c112, c113, c114, c115, c116, c117, c118, c119, c120, c121, .pointer (some ⟨g, 0, none⟩), .int .i64 (c : Int), rv, .pointer (some ⟨g, 0, none⟩), .int .i64 (i : Int), .pointer (some ⟨g, 0, none⟩), .pointer (some ⟨g, 0, none⟩), .pointer (some ⟨g, i * 5, none⟩), .agg (VI .u64 (es i)), .pointer (some ⟨g, 0, none⟩), .int .i64 (k : Int), .pointer (some ⟨g, 0, none⟩), .pointer (some ⟨g, 0, none⟩), .pointer (some ⟨g, k * 5, none⟩), .agg (VI .u64 (es k)), .agg (VI .u64 z), .pointer (some ⟨g, 0, none⟩), .pointer (some ⟨g, 0, none⟩), .pointer (some ⟨g, c * 5, none⟩), c141, c142, c143, c144, c145, c146, c147, c148, c149, c150, c151, c152, c153, c154, c155, c156, c157, c158, c159, c160, c161, c162, c163, c164, c165, c166, c167, c168, c169, c170, c171, c172, c173, c174, c175, c176, c177, c178, c179, c180, c181, c182, c183, c184, c185, c186, c187, c188, c189, c190, c191, c192, c193, c194, c195, c196, c197, c198, c199, c200, c201, c202, c203, c204, c205, c206, c207, c208, c209, c210, c211, c212, c213, c214, c215, c216, c217, c218, c219, c220, c221, c222, c223, c224, c225, c226, c227, c228, c229, c230, c231, c232, c233, c234, c235, c236, c237, c238, c239, c240, c241, c242, c243, c244, c245, c246, c247, c248, c249, c250, c251, c252, c253, c254, c255, c256, c257, c258, c259, c260, c261, c262, c263, c264, c265, c266, c267, c268, c269, c270, c271, c272, c273, c274, c275, c276, c277, c278, c279, c280, c281, c282, c283, c284, c285, c286, c287, c288, c289, c290, c291, c292, c293, c294, c295, c296, c297, c298, c299, c300, c301, c302, c303, c304, c305, c306, c307, c308, c309, c310, c311, c312, c313, c314, c315, c316, c317, c318, c319, c320, c321, c322, c323, c324, c325, c326, c327, c328, c329, c330, c331, c332, c333, c334, c335, c336, c337, c338, c339, c340], []⟩ W') :
    Code.wp Try.prog rgB17 Q ⟨#[.pointer (some ⟨g, 0, none⟩), rv, c2, c3, c4, .pointer (some ⟨gx, 0, none⟩), .int .i64 (i : Int), .int .i64 (k : Int), .int .i64 (c : Int), c9, c10, c11, c12, c13, c14, c15, c16, c17, c18, c19, c20, c21, c22, c23, c24, c25, c26, c27, c28, c29, c30, c31, c32, c33, c34, c35, c36, c37, c38, c39, c40, c41, c42, c43, c44, c45, c46, c47, c48, c49, c50, c51, c52, c53, c54, c55, c56, c57, c58, c59, c60, c61, c62, c63, c64, c65, c66, c67, c68, c69, c70, c71, c72, c73, c74, c75, c76, c77, c78, c79, c80, c81, c82, c83, c84, c85, c86, c87, c88, c89, c90, c91, c92, c93, c94, c95, c96, c97, c98, c99, c100, c101, c102, c103, c104, c105, c106, c107, c108, c109, c110, c111, c112, c113, c114, c115, c116, c117, c118, c119, c120, c121, c122, c123, c124, c125, c126, c127, c128, c129, c130, c131, c132, c133, c134, c135, c136, c137, c138, c139, c140, c141, c142, c143, c144, c145, c146, c147, c148, c149, c150, c151, c152, c153, c154, c155, c156, c157, c158, c159, c160, c161, c162, c163, c164, c165, c166, c167, c168, c169, c170, c171, c172, c173, c174, c175, c176, c177, c178, c179, c180, c181, c182, c183, c184, c185, c186, c187, c188, c189, c190, c191, c192, c193, c194, c195, c196, c197, c198, c199, c200, c201, c202, c203, c204, c205, c206, c207, c208, c209, c210, c211, c212, c213, c214, c215, c216, c217, c218, c219, c220, c221, c222, c223, c224, c225, c226, c227, c228, c229, c230, c231, c232, c233, c234, c235, c236, c237, c238, c239, c240, c241, c242, c243, c244, c245, c246, c247, c248, c249, c250, c251, c252, c253, c254, c255, c256, c257, c258, c259, c260, c261, c262, c263, c264, c265, c266, c267, c268, c269, c270, c271, c272, c273, c274, c275, c276, c277, c278, c279, c280, c281, c282, c283, c284, c285, c286, c287, c288, c289, c290, c291, c292, c293, c294, c295, c296, c297, c298, c299, c300, c301, c302, c303, c304, c305, c306, c307, c308, c309, c310, c311, c312, c313, c314, c315, c316, c317, c318, c319, c320, c321, c322, c323, c324, c325, c326, c327, c328, c329, c330, c331, c332, c333, c334, c335, c336, c337, c338, c339, c340], []⟩ W := by
  rw [rgB17_is]
  refine wp_region_held_drew (S := fun Y => Y.heap[gx]? = some (stO K0 A0 B0 C0 D N T)) (by kernel_rfl) (XX.drew.row mx) (fun hH => ?_)
  have hV := XX.drew
  clear XX
  obtain ⟨V0, hV0⟩ : ∃ V, W.drew = V := ⟨_, rfl⟩
  rw [hV0] at hH hV ⊢
  clear hV0
  obtain ⟨a0, ha⟩ : ∃ a : Act, a = ⟨#[.pointer (some ⟨g, 0, none⟩), rv, c2, c3, c4, .pointer (some ⟨gx, 0, none⟩), .int .i64 (i : Int), .int .i64 (k : Int), .int .i64 (c : Int), c9, c10, c11, c12, c13, c14, c15, c16, c17, c18, c19, c20, c21, c22, c23, c24, c25, c26, c27, c28, c29, c30, c31, c32, c33, c34, c35, c36, c37, c38, c39, c40, c41, c42, c43, c44, c45, c46, c47, c48, c49, c50, c51, c52, c53, c54, c55, c56, c57, c58, c59, c60, c61, c62, c63, c64, c65, c66, c67, c68, c69, c70, c71, c72, c73, c74, c75, c76, c77, c78, c79, c80, c81, c82, c83, c84, c85, c86, c87, c88, c89, c90, c91, c92, c93, c94, c95, c96, c97, c98, c99, c100, c101, c102, c103, c104, c105, c106, c107, c108, c109, c110, c111, c112, c113, c114, c115, c116, c117, c118, c119, c120, c121, c122, c123, c124, c125, c126, c127, c128, c129, c130, c131, c132, c133, c134, c135, c136, c137, c138, c139, c140, c141, c142, c143, c144, c145, c146, c147, c148, c149, c150, c151, c152, c153, c154, c155, c156, c157, c158, c159, c160, c161, c162, c163, c164, c165, c166, c167, c168, c169, c170, c171, c172, c173, c174, c175, c176, c177, c178, c179, c180, c181, c182, c183, c184, c185, c186, c187, c188, c189, c190, c191, c192, c193, c194, c195, c196, c197, c198, c199, c200, c201, c202, c203, c204, c205, c206, c207, c208, c209, c210, c211, c212, c213, c214, c215, c216, c217, c218, c219, c220, c221, c222, c223, c224, c225, c226, c227, c228, c229, c230, c231, c232, c233, c234, c235, c236, c237, c238, c239, c240, c241, c242, c243, c244, c245, c246, c247, c248, c249, c250, c251, c252, c253, c254, c255, c256, c257, c258, c259, c260, c261, c262, c263, c264, c265, c266, c267, c268, c269, c270, c271, c272, c273, c274, c275, c276, c277, c278, c279, c280, c281, c282, c283, c284, c285, c286, c287, c288, c289, c290, c291, c292, c293, c294, c295, c296, c297, c298, c299, c300, c301, c302, c303, c304, c305, c306, c307, c308, c309, c310, c311, c312, c313, c314, c315, c316, c317, c318, c319, c320, c321, c322, c323, c324, c325, c326, c327, c328, c329, c330, c331, c332, c333, c334, c335, c336, c337, c338, c339, c340], []⟩ := ⟨_, rfl⟩
  have sz0 : a0.tmps.size = 341 := by rw [ha]; kernel_rfl
  have e0_0 : a0.eval (.tmp 0) = .pointer (some ⟨g, 0, none⟩) := by rw [ha]; kernel_rfl
  have e0_1 : a0.eval (.tmp 1) = rv := by rw [ha]; kernel_rfl
  have e0_6 : a0.eval (.tmp 6) = .int .i64 (i : Int) := by rw [ha]; kernel_rfl
  have e0_7 : a0.eval (.tmp 7) = .int .i64 (k : Int) := by rw [ha]; kernel_rfl
  have e0_8 : a0.eval (.tmp 8) = .int .i64 (c : Int) := by rw [ha]; kernel_rfl
  rw [← ha]
  refine wpAnyH_as (l' := #[false, false, false, false, false, false, false, false, false, false, false, false, false, false, false, false, false, false, false, false]) (by kernel_rfl) ?_
  refine takeH (v := .pointer (some ⟨g, 0, none⟩)) opB17_0 opB17_ns (by kernel_rfl) (by kernel_rfl) HPN (fun w hw o ho => run_move ho e0_0 w) hH ?_
  refine wpAnyH_as (l' := #[true, false, false, false, false, false, false, false, false, false, false, false, false, false, false, false, false, false, false, false]) (by kernel_rfl) ?_
  obtain ⟨a1, h1⟩ : ∃ a' : Act, a' = a0.put (some 122) (.pointer (some ⟨g, 0, none⟩)) := ⟨_, rfl⟩
  rw [← h1]
  have sz1 : a1.tmps.size = 341 := by rw [h1, size_put]; exact sz0
  have e1_0 : a1.eval (.tmp 0) = .pointer (some ⟨g, 0, none⟩) := by rw [h1, eval_put_ne _ _ _ _ (by decide)]; exact e0_0
  have e1_1 : a1.eval (.tmp 1) = rv := by rw [h1, eval_put_ne _ _ _ _ (by decide)]; exact e0_1
  have e1_6 : a1.eval (.tmp 6) = .int .i64 (i : Int) := by rw [h1, eval_put_ne _ _ _ _ (by decide)]; exact e0_6
  have e1_7 : a1.eval (.tmp 7) = .int .i64 (k : Int) := by rw [h1, eval_put_ne _ _ _ _ (by decide)]; exact e0_7
  have e1_8 : a1.eval (.tmp 8) = .int .i64 (c : Int) := by rw [h1, eval_put_ne _ _ _ _ (by decide)]; exact e0_8
  have e1_122 : a1.eval (.tmp 122) = .pointer (some ⟨g, 0, none⟩) := by rw [h1]; exact eval_put_eq _ _ _ (by rw [sz0]; decide)
  clear e0_0 e0_1 e0_6 e0_7 e0_8 sz0
  refine takeH (v := .int .i64 (c : Int)) opB17_1 opB17_ns (by kernel_rfl) (by kernel_rfl) HPN (fun w hw o ho => run_move ho e1_8 w) hH ?_
  refine wpAnyH_as (l' := #[true, true, false, false, false, false, false, false, false, false, false, false, false, false, false, false, false, false, false, false]) (by kernel_rfl) ?_
  obtain ⟨a2, h2⟩ : ∃ a' : Act, a' = a1.put (some 123) (.int .i64 (c : Int)) := ⟨_, rfl⟩
  rw [← h2]
  have sz2 : a2.tmps.size = 341 := by rw [h2, size_put]; exact sz1
  have e2_0 : a2.eval (.tmp 0) = .pointer (some ⟨g, 0, none⟩) := by rw [h2, eval_put_ne _ _ _ _ (by decide)]; exact e1_0
  have e2_1 : a2.eval (.tmp 1) = rv := by rw [h2, eval_put_ne _ _ _ _ (by decide)]; exact e1_1
  have e2_6 : a2.eval (.tmp 6) = .int .i64 (i : Int) := by rw [h2, eval_put_ne _ _ _ _ (by decide)]; exact e1_6
  have e2_7 : a2.eval (.tmp 7) = .int .i64 (k : Int) := by rw [h2, eval_put_ne _ _ _ _ (by decide)]; exact e1_7
  have e2_122 : a2.eval (.tmp 122) = .pointer (some ⟨g, 0, none⟩) := by rw [h2, eval_put_ne _ _ _ _ (by decide)]; exact e1_122
  have e2_123 : a2.eval (.tmp 123) = .int .i64 (c : Int) := by rw [h2]; exact eval_put_eq _ _ _ (by rw [sz1]; decide)
  clear e1_0 e1_1 e1_122 e1_6 e1_7 e1_8 sz1
  refine takeH (v := rv) opB17_2 opB17_ns (by kernel_rfl) (by kernel_rfl) HPN (fun w hw o ho => run_move ho e2_1 w) hH ?_
  refine wpAnyH_as (l' := #[true, true, true, false, false, false, false, false, false, false, false, false, false, false, false, false, false, false, false, false]) (by kernel_rfl) ?_
  obtain ⟨a3, h3⟩ : ∃ a' : Act, a' = a2.put (some 124) (rv) := ⟨_, rfl⟩
  rw [← h3]
  have sz3 : a3.tmps.size = 341 := by rw [h3, size_put]; exact sz2
  have e3_0 : a3.eval (.tmp 0) = .pointer (some ⟨g, 0, none⟩) := by rw [h3, eval_put_ne _ _ _ _ (by decide)]; exact e2_0
  have e3_6 : a3.eval (.tmp 6) = .int .i64 (i : Int) := by rw [h3, eval_put_ne _ _ _ _ (by decide)]; exact e2_6
  have e3_7 : a3.eval (.tmp 7) = .int .i64 (k : Int) := by rw [h3, eval_put_ne _ _ _ _ (by decide)]; exact e2_7
  have e3_122 : a3.eval (.tmp 122) = .pointer (some ⟨g, 0, none⟩) := by rw [h3, eval_put_ne _ _ _ _ (by decide)]; exact e2_122
  have e3_123 : a3.eval (.tmp 123) = .int .i64 (c : Int) := by rw [h3, eval_put_ne _ _ _ _ (by decide)]; exact e2_123
  have e3_124 : a3.eval (.tmp 124) = rv := by rw [h3]; exact eval_put_eq _ _ _ (by rw [sz2]; decide)
  clear e2_0 e2_1 e2_122 e2_123 e2_6 e2_7 sz2
  refine takeH (v := .pointer (some ⟨g, 0, none⟩)) opB17_3 opB17_ns (by kernel_rfl) (by kernel_rfl) HPN (fun w hw o ho => run_move ho e3_0 w) hH ?_
  refine wpAnyH_as (l' := #[true, true, true, true, false, false, false, false, false, false, false, false, false, false, false, false, false, false, false, false]) (by kernel_rfl) ?_
  obtain ⟨a4, h4⟩ : ∃ a' : Act, a' = a3.put (some 125) (.pointer (some ⟨g, 0, none⟩)) := ⟨_, rfl⟩
  rw [← h4]
  have sz4 : a4.tmps.size = 341 := by rw [h4, size_put]; exact sz3
  have e4_0 : a4.eval (.tmp 0) = .pointer (some ⟨g, 0, none⟩) := by rw [h4, eval_put_ne _ _ _ _ (by decide)]; exact e3_0
  have e4_6 : a4.eval (.tmp 6) = .int .i64 (i : Int) := by rw [h4, eval_put_ne _ _ _ _ (by decide)]; exact e3_6
  have e4_7 : a4.eval (.tmp 7) = .int .i64 (k : Int) := by rw [h4, eval_put_ne _ _ _ _ (by decide)]; exact e3_7
  have e4_122 : a4.eval (.tmp 122) = .pointer (some ⟨g, 0, none⟩) := by rw [h4, eval_put_ne _ _ _ _ (by decide)]; exact e3_122
  have e4_123 : a4.eval (.tmp 123) = .int .i64 (c : Int) := by rw [h4, eval_put_ne _ _ _ _ (by decide)]; exact e3_123
  have e4_124 : a4.eval (.tmp 124) = rv := by rw [h4, eval_put_ne _ _ _ _ (by decide)]; exact e3_124
  have e4_125 : a4.eval (.tmp 125) = .pointer (some ⟨g, 0, none⟩) := by rw [h4]; exact eval_put_eq _ _ _ (by rw [sz3]; decide)
  clear e3_0 e3_122 e3_123 e3_124 e3_6 e3_7 sz3
  refine takeH (v := .int .i64 (i : Int)) opB17_4 opB17_ns (by kernel_rfl) (by kernel_rfl) HPN (fun w hw o ho => run_move ho e4_6 w) hH ?_
  refine wpAnyH_as (l' := #[true, true, true, true, true, false, false, false, false, false, false, false, false, false, false, false, false, false, false, false]) (by kernel_rfl) ?_
  obtain ⟨a5, h5⟩ : ∃ a' : Act, a' = a4.put (some 126) (.int .i64 (i : Int)) := ⟨_, rfl⟩
  rw [← h5]
  have sz5 : a5.tmps.size = 341 := by rw [h5, size_put]; exact sz4
  have e5_0 : a5.eval (.tmp 0) = .pointer (some ⟨g, 0, none⟩) := by rw [h5, eval_put_ne _ _ _ _ (by decide)]; exact e4_0
  have e5_7 : a5.eval (.tmp 7) = .int .i64 (k : Int) := by rw [h5, eval_put_ne _ _ _ _ (by decide)]; exact e4_7
  have e5_122 : a5.eval (.tmp 122) = .pointer (some ⟨g, 0, none⟩) := by rw [h5, eval_put_ne _ _ _ _ (by decide)]; exact e4_122
  have e5_123 : a5.eval (.tmp 123) = .int .i64 (c : Int) := by rw [h5, eval_put_ne _ _ _ _ (by decide)]; exact e4_123
  have e5_124 : a5.eval (.tmp 124) = rv := by rw [h5, eval_put_ne _ _ _ _ (by decide)]; exact e4_124
  have e5_125 : a5.eval (.tmp 125) = .pointer (some ⟨g, 0, none⟩) := by rw [h5, eval_put_ne _ _ _ _ (by decide)]; exact e4_125
  have e5_126 : a5.eval (.tmp 126) = .int .i64 (i : Int) := by rw [h5]; exact eval_put_eq _ _ _ (by rw [sz4]; decide)
  clear e4_0 e4_122 e4_123 e4_124 e4_125 e4_6 e4_7 sz4
  refine takeH (v := .pointer (some ⟨g, 0, none⟩)) opB17_5 opB17_ns (by kernel_rfl) (by kernel_rfl) HPN (fun w hw o ho => run_nilCheck ho e5_125 w) hH ?_
  refine wpAnyH_as (l' := #[true, true, true, true, true, true, false, false, false, false, false, false, false, false, false, false, false, false, false, false]) (by kernel_rfl) ?_
  obtain ⟨a6, h6⟩ : ∃ a' : Act, a' = a5.put (some 127) (.pointer (some ⟨g, 0, none⟩)) := ⟨_, rfl⟩
  rw [← h6]
  have sz6 : a6.tmps.size = 341 := by rw [h6, size_put]; exact sz5
  have e6_0 : a6.eval (.tmp 0) = .pointer (some ⟨g, 0, none⟩) := by rw [h6, eval_put_ne _ _ _ _ (by decide)]; exact e5_0
  have e6_7 : a6.eval (.tmp 7) = .int .i64 (k : Int) := by rw [h6, eval_put_ne _ _ _ _ (by decide)]; exact e5_7
  have e6_122 : a6.eval (.tmp 122) = .pointer (some ⟨g, 0, none⟩) := by rw [h6, eval_put_ne _ _ _ _ (by decide)]; exact e5_122
  have e6_123 : a6.eval (.tmp 123) = .int .i64 (c : Int) := by rw [h6, eval_put_ne _ _ _ _ (by decide)]; exact e5_123
  have e6_124 : a6.eval (.tmp 124) = rv := by rw [h6, eval_put_ne _ _ _ _ (by decide)]; exact e5_124
  have e6_126 : a6.eval (.tmp 126) = .int .i64 (i : Int) := by rw [h6, eval_put_ne _ _ _ _ (by decide)]; exact e5_126
  have e6_127 : a6.eval (.tmp 127) = .pointer (some ⟨g, 0, none⟩) := by rw [h6]; exact eval_put_eq _ _ _ (by rw [sz5]; decide)
  clear e5_0 e5_122 e5_123 e5_124 e5_125 e5_126 e5_7 sz5
  refine takeH (v := .pointer (some ⟨g, 0, none⟩)) opB17_6 opB17_ns (by kernel_rfl) (by kernel_rfl) HPN (fun w hw o ho => run_fieldE ho e6_127 w) hH ?_
  refine wpAnyH_as (l' := #[true, true, true, true, true, true, true, false, false, false, false, false, false, false, false, false, false, false, false, false]) (by kernel_rfl) ?_
  obtain ⟨a7, h7⟩ : ∃ a' : Act, a' = a6.put (some 128) (.pointer (some ⟨g, 0, none⟩)) := ⟨_, rfl⟩
  rw [← h7]
  have sz7 : a7.tmps.size = 341 := by rw [h7, size_put]; exact sz6
  have e7_0 : a7.eval (.tmp 0) = .pointer (some ⟨g, 0, none⟩) := by rw [h7, eval_put_ne _ _ _ _ (by decide)]; exact e6_0
  have e7_7 : a7.eval (.tmp 7) = .int .i64 (k : Int) := by rw [h7, eval_put_ne _ _ _ _ (by decide)]; exact e6_7
  have e7_122 : a7.eval (.tmp 122) = .pointer (some ⟨g, 0, none⟩) := by rw [h7, eval_put_ne _ _ _ _ (by decide)]; exact e6_122
  have e7_123 : a7.eval (.tmp 123) = .int .i64 (c : Int) := by rw [h7, eval_put_ne _ _ _ _ (by decide)]; exact e6_123
  have e7_124 : a7.eval (.tmp 124) = rv := by rw [h7, eval_put_ne _ _ _ _ (by decide)]; exact e6_124
  have e7_126 : a7.eval (.tmp 126) = .int .i64 (i : Int) := by rw [h7, eval_put_ne _ _ _ _ (by decide)]; exact e6_126
  have e7_128 : a7.eval (.tmp 128) = .pointer (some ⟨g, 0, none⟩) := by rw [h7]; exact eval_put_eq _ _ _ (by rw [sz6]; decide)
  clear e6_0 e6_122 e6_123 e6_124 e6_126 e6_127 e6_7 sz6
  refine takeH (v := .pointer (some ⟨g, i * 5, none⟩)) opB17_7 opB17_ns (by kernel_rfl) (by kernel_rfl) HPN (fun w hw o ho => run_indexE hi8.out ho e7_128 e7_126 w) hH ?_
  refine wpAnyH_as (l' := #[true, true, true, true, true, true, true, true, false, false, false, false, false, false, false, false, false, false, false, false]) (by kernel_rfl) ?_
  obtain ⟨a8, h8⟩ : ∃ a' : Act, a' = a7.put (some 129) (.pointer (some ⟨g, i * 5, none⟩)) := ⟨_, rfl⟩
  rw [← h8]
  have sz8 : a8.tmps.size = 341 := by rw [h8, size_put]; exact sz7
  have e8_0 : a8.eval (.tmp 0) = .pointer (some ⟨g, 0, none⟩) := by rw [h8, eval_put_ne _ _ _ _ (by decide)]; exact e7_0
  have e8_7 : a8.eval (.tmp 7) = .int .i64 (k : Int) := by rw [h8, eval_put_ne _ _ _ _ (by decide)]; exact e7_7
  have e8_122 : a8.eval (.tmp 122) = .pointer (some ⟨g, 0, none⟩) := by rw [h8, eval_put_ne _ _ _ _ (by decide)]; exact e7_122
  have e8_123 : a8.eval (.tmp 123) = .int .i64 (c : Int) := by rw [h8, eval_put_ne _ _ _ _ (by decide)]; exact e7_123
  have e8_124 : a8.eval (.tmp 124) = rv := by rw [h8, eval_put_ne _ _ _ _ (by decide)]; exact e7_124
  have e8_129 : a8.eval (.tmp 129) = .pointer (some ⟨g, i * 5, none⟩) := by rw [h8]; exact eval_put_eq _ _ _ (by rw [sz7]; decide)
  clear e7_0 e7_122 e7_123 e7_124 e7_126 e7_128 e7_7 sz7
  refine takeH (v := .pointer (some ⟨g, 0, none⟩)) opB17_9 opB17_ns (by kernel_rfl) (by kernel_rfl) HPN (fun w hw o ho => run_move ho e8_0 w) hH ?_
  refine wpAnyH_as (l' := #[true, true, true, true, true, true, true, true, false, true, false, false, false, false, false, false, false, false, false, false]) (by kernel_rfl) ?_
  obtain ⟨a9, h9⟩ : ∃ a' : Act, a' = a8.put (some 131) (.pointer (some ⟨g, 0, none⟩)) := ⟨_, rfl⟩
  rw [← h9]
  have sz9 : a9.tmps.size = 341 := by rw [h9, size_put]; exact sz8
  have e9_7 : a9.eval (.tmp 7) = .int .i64 (k : Int) := by rw [h9, eval_put_ne _ _ _ _ (by decide)]; exact e8_7
  have e9_122 : a9.eval (.tmp 122) = .pointer (some ⟨g, 0, none⟩) := by rw [h9, eval_put_ne _ _ _ _ (by decide)]; exact e8_122
  have e9_123 : a9.eval (.tmp 123) = .int .i64 (c : Int) := by rw [h9, eval_put_ne _ _ _ _ (by decide)]; exact e8_123
  have e9_124 : a9.eval (.tmp 124) = rv := by rw [h9, eval_put_ne _ _ _ _ (by decide)]; exact e8_124
  have e9_129 : a9.eval (.tmp 129) = .pointer (some ⟨g, i * 5, none⟩) := by rw [h9, eval_put_ne _ _ _ _ (by decide)]; exact e8_129
  have e9_131 : a9.eval (.tmp 131) = .pointer (some ⟨g, 0, none⟩) := by rw [h9]; exact eval_put_eq _ _ _ (by rw [sz8]; decide)
  clear e8_0 e8_122 e8_123 e8_124 e8_129 e8_7 sz8
  refine takeH (v := .int .i64 (k : Int)) opB17_10 opB17_ns (by kernel_rfl) (by kernel_rfl) HPN (fun w hw o ho => run_move ho e9_7 w) hH ?_
  refine wpAnyH_as (l' := #[true, true, true, true, true, true, true, true, false, true, true, false, false, false, false, false, false, false, false, false]) (by kernel_rfl) ?_
  obtain ⟨a10, h10⟩ : ∃ a' : Act, a' = a9.put (some 132) (.int .i64 (k : Int)) := ⟨_, rfl⟩
  rw [← h10]
  have sz10 : a10.tmps.size = 341 := by rw [h10, size_put]; exact sz9
  have e10_122 : a10.eval (.tmp 122) = .pointer (some ⟨g, 0, none⟩) := by rw [h10, eval_put_ne _ _ _ _ (by decide)]; exact e9_122
  have e10_123 : a10.eval (.tmp 123) = .int .i64 (c : Int) := by rw [h10, eval_put_ne _ _ _ _ (by decide)]; exact e9_123
  have e10_124 : a10.eval (.tmp 124) = rv := by rw [h10, eval_put_ne _ _ _ _ (by decide)]; exact e9_124
  have e10_129 : a10.eval (.tmp 129) = .pointer (some ⟨g, i * 5, none⟩) := by rw [h10, eval_put_ne _ _ _ _ (by decide)]; exact e9_129
  have e10_131 : a10.eval (.tmp 131) = .pointer (some ⟨g, 0, none⟩) := by rw [h10, eval_put_ne _ _ _ _ (by decide)]; exact e9_131
  have e10_132 : a10.eval (.tmp 132) = .int .i64 (k : Int) := by rw [h10]; exact eval_put_eq _ _ _ (by rw [sz9]; decide)
  clear e9_122 e9_123 e9_124 e9_129 e9_131 e9_7 sz9
  refine takeH (v := .pointer (some ⟨g, 0, none⟩)) opB17_11 opB17_ns (by kernel_rfl) (by kernel_rfl) HPN (fun w hw o ho => run_nilCheck ho e10_131 w) hH ?_
  refine wpAnyH_as (l' := #[true, true, true, true, true, true, true, true, false, true, true, true, false, false, false, false, false, false, false, false]) (by kernel_rfl) ?_
  obtain ⟨a11, h11⟩ : ∃ a' : Act, a' = a10.put (some 133) (.pointer (some ⟨g, 0, none⟩)) := ⟨_, rfl⟩
  rw [← h11]
  have sz11 : a11.tmps.size = 341 := by rw [h11, size_put]; exact sz10
  have e11_122 : a11.eval (.tmp 122) = .pointer (some ⟨g, 0, none⟩) := by rw [h11, eval_put_ne _ _ _ _ (by decide)]; exact e10_122
  have e11_123 : a11.eval (.tmp 123) = .int .i64 (c : Int) := by rw [h11, eval_put_ne _ _ _ _ (by decide)]; exact e10_123
  have e11_124 : a11.eval (.tmp 124) = rv := by rw [h11, eval_put_ne _ _ _ _ (by decide)]; exact e10_124
  have e11_129 : a11.eval (.tmp 129) = .pointer (some ⟨g, i * 5, none⟩) := by rw [h11, eval_put_ne _ _ _ _ (by decide)]; exact e10_129
  have e11_132 : a11.eval (.tmp 132) = .int .i64 (k : Int) := by rw [h11, eval_put_ne _ _ _ _ (by decide)]; exact e10_132
  have e11_133 : a11.eval (.tmp 133) = .pointer (some ⟨g, 0, none⟩) := by rw [h11]; exact eval_put_eq _ _ _ (by rw [sz10]; decide)
  clear e10_122 e10_123 e10_124 e10_129 e10_131 e10_132 sz10
  refine takeH (v := .pointer (some ⟨g, 0, none⟩)) opB17_12 opB17_ns (by kernel_rfl) (by kernel_rfl) HPN (fun w hw o ho => run_fieldE ho e11_133 w) hH ?_
  refine wpAnyH_as (l' := #[true, true, true, true, true, true, true, true, false, true, true, true, true, false, false, false, false, false, false, false]) (by kernel_rfl) ?_
  obtain ⟨a12, h12⟩ : ∃ a' : Act, a' = a11.put (some 134) (.pointer (some ⟨g, 0, none⟩)) := ⟨_, rfl⟩
  rw [← h12]
  have sz12 : a12.tmps.size = 341 := by rw [h12, size_put]; exact sz11
  have e12_122 : a12.eval (.tmp 122) = .pointer (some ⟨g, 0, none⟩) := by rw [h12, eval_put_ne _ _ _ _ (by decide)]; exact e11_122
  have e12_123 : a12.eval (.tmp 123) = .int .i64 (c : Int) := by rw [h12, eval_put_ne _ _ _ _ (by decide)]; exact e11_123
  have e12_124 : a12.eval (.tmp 124) = rv := by rw [h12, eval_put_ne _ _ _ _ (by decide)]; exact e11_124
  have e12_129 : a12.eval (.tmp 129) = .pointer (some ⟨g, i * 5, none⟩) := by rw [h12, eval_put_ne _ _ _ _ (by decide)]; exact e11_129
  have e12_132 : a12.eval (.tmp 132) = .int .i64 (k : Int) := by rw [h12, eval_put_ne _ _ _ _ (by decide)]; exact e11_132
  have e12_134 : a12.eval (.tmp 134) = .pointer (some ⟨g, 0, none⟩) := by rw [h12]; exact eval_put_eq _ _ _ (by rw [sz11]; decide)
  clear e11_122 e11_123 e11_124 e11_129 e11_132 e11_133 sz11
  refine takeH (v := .pointer (some ⟨g, k * 5, none⟩)) opB17_13 opB17_ns (by kernel_rfl) (by kernel_rfl) HPN (fun w hw o ho => run_indexE hk8.out ho e12_134 e12_132 w) hH ?_
  refine wpAnyH_as (l' := #[true, true, true, true, true, true, true, true, false, true, true, true, true, true, false, false, false, false, false, false]) (by kernel_rfl) ?_
  obtain ⟨a13, h13⟩ : ∃ a' : Act, a' = a12.put (some 135) (.pointer (some ⟨g, k * 5, none⟩)) := ⟨_, rfl⟩
  rw [← h13]
  have sz13 : a13.tmps.size = 341 := by rw [h13, size_put]; exact sz12
  have e13_122 : a13.eval (.tmp 122) = .pointer (some ⟨g, 0, none⟩) := by rw [h13, eval_put_ne _ _ _ _ (by decide)]; exact e12_122
  have e13_123 : a13.eval (.tmp 123) = .int .i64 (c : Int) := by rw [h13, eval_put_ne _ _ _ _ (by decide)]; exact e12_123
  have e13_124 : a13.eval (.tmp 124) = rv := by rw [h13, eval_put_ne _ _ _ _ (by decide)]; exact e12_124
  have e13_129 : a13.eval (.tmp 129) = .pointer (some ⟨g, i * 5, none⟩) := by rw [h13, eval_put_ne _ _ _ _ (by decide)]; exact e12_129
  have e13_135 : a13.eval (.tmp 135) = .pointer (some ⟨g, k * 5, none⟩) := by rw [h13]; exact eval_put_eq _ _ _ (by rw [sz12]; decide)
  clear e12_122 e12_123 e12_124 e12_129 e12_132 e12_134 sz12
  refine takeH (v := .pointer (some ⟨g, 0, none⟩)) opB17_16 opB17_ns (by kernel_rfl) (by kernel_rfl) HPN (fun w hw o ho => run_nilCheck ho e13_122 w) hH ?_
  refine wpAnyH_as (l' := #[true, true, true, true, true, true, true, true, false, true, true, true, true, true, false, false, true, false, false, false]) (by kernel_rfl) ?_
  obtain ⟨a14, h14⟩ : ∃ a' : Act, a' = a13.put (some 138) (.pointer (some ⟨g, 0, none⟩)) := ⟨_, rfl⟩
  rw [← h14]
  have sz14 : a14.tmps.size = 341 := by rw [h14, size_put]; exact sz13
  have e14_123 : a14.eval (.tmp 123) = .int .i64 (c : Int) := by rw [h14, eval_put_ne _ _ _ _ (by decide)]; exact e13_123
  have e14_124 : a14.eval (.tmp 124) = rv := by rw [h14, eval_put_ne _ _ _ _ (by decide)]; exact e13_124
  have e14_129 : a14.eval (.tmp 129) = .pointer (some ⟨g, i * 5, none⟩) := by rw [h14, eval_put_ne _ _ _ _ (by decide)]; exact e13_129
  have e14_135 : a14.eval (.tmp 135) = .pointer (some ⟨g, k * 5, none⟩) := by rw [h14, eval_put_ne _ _ _ _ (by decide)]; exact e13_135
  have e14_138 : a14.eval (.tmp 138) = .pointer (some ⟨g, 0, none⟩) := by rw [h14]; exact eval_put_eq _ _ _ (by rw [sz13]; decide)
  clear e13_122 e13_123 e13_124 e13_129 e13_135 sz13
  refine takeH (v := .pointer (some ⟨g, 0, none⟩)) opB17_17 opB17_ns (by kernel_rfl) (by kernel_rfl) HPN (fun w hw o ho => run_fieldE ho e14_138 w) hH ?_
  refine wpAnyH_as (l' := #[true, true, true, true, true, true, true, true, false, true, true, true, true, true, false, false, true, true, false, false]) (by kernel_rfl) ?_
  obtain ⟨a15, h15⟩ : ∃ a' : Act, a' = a14.put (some 139) (.pointer (some ⟨g, 0, none⟩)) := ⟨_, rfl⟩
  rw [← h15]
  have sz15 : a15.tmps.size = 341 := by rw [h15, size_put]; exact sz14
  have e15_123 : a15.eval (.tmp 123) = .int .i64 (c : Int) := by rw [h15, eval_put_ne _ _ _ _ (by decide)]; exact e14_123
  have e15_124 : a15.eval (.tmp 124) = rv := by rw [h15, eval_put_ne _ _ _ _ (by decide)]; exact e14_124
  have e15_129 : a15.eval (.tmp 129) = .pointer (some ⟨g, i * 5, none⟩) := by rw [h15, eval_put_ne _ _ _ _ (by decide)]; exact e14_129
  have e15_135 : a15.eval (.tmp 135) = .pointer (some ⟨g, k * 5, none⟩) := by rw [h15, eval_put_ne _ _ _ _ (by decide)]; exact e14_135
  have e15_139 : a15.eval (.tmp 139) = .pointer (some ⟨g, 0, none⟩) := by rw [h15]; exact eval_put_eq _ _ _ (by rw [sz14]; decide)
  clear e14_123 e14_124 e14_129 e14_135 e14_138 sz14
  refine readyLd2 (v := .agg (VI .u64 (es i))) (u := .agg (VI .u64 (es k))) opB17_8 opB17_14 (by decide) (by decide) (by kernel_rfl) (by kernel_rfl) (by kernel_rfl) hH (fun o ho => run_loadE (hV.bn.lim i hi8.out).len ho e15_129 _ (hV.bn.rangeE hi8.out)) (fun o ho => run_loadE (hV.bn.lim k hk8.out).len ho e15_135 _ (hV.bn.rangeE hk8.out)) (fun o ho => run_loadE (hV.bn.lim i hi8.out).len ho ((eval_put_ne _ _ _ _ (by decide)).trans e15_129) _ (hV.bn.rangeE hi8.out)) (fun o ho => run_loadE (hV.bn.lim k hk8.out).len ho ((eval_put_ne _ _ _ _ (by decide)).trans e15_135) _ (hV.bn.rangeE hk8.out)) ?_
  refine wpAnyH_as (l' := #[true, true, true, true, true, true, true, true, true, true, true, true, true, true, true, false, true, true, false, false]) (by kernel_rfl) ?_
  obtain ⟨a16, h16⟩ : ∃ a' : Act, a' = a15.put (some 130) (.agg (VI .u64 (es i))) := ⟨_, rfl⟩
  rw [← h16]
  have sz16 : a16.tmps.size = 341 := by rw [h16, size_put]; exact sz15
  have e16_123 : a16.eval (.tmp 123) = .int .i64 (c : Int) := by rw [h16, eval_put_ne _ _ _ _ (by decide)]; exact e15_123
  have e16_124 : a16.eval (.tmp 124) = rv := by rw [h16, eval_put_ne _ _ _ _ (by decide)]; exact e15_124
  have e16_139 : a16.eval (.tmp 139) = .pointer (some ⟨g, 0, none⟩) := by rw [h16, eval_put_ne _ _ _ _ (by decide)]; exact e15_139
  have e16_130 : a16.eval (.tmp 130) = .agg (VI .u64 (es i)) := by rw [h16]; exact eval_put_eq _ _ _ (by rw [sz15]; decide)
  clear e15_123 e15_124 e15_129 e15_135 e15_139 sz15
  obtain ⟨a17, h17⟩ : ∃ a' : Act, a' = a16.put (some 136) (.agg (VI .u64 (es k))) := ⟨_, rfl⟩
  rw [← h17]
  have sz17 : a17.tmps.size = 341 := by rw [h17, size_put]; exact sz16
  have e17_123 : a17.eval (.tmp 123) = .int .i64 (c : Int) := by rw [h17, eval_put_ne _ _ _ _ (by decide)]; exact e16_123
  have e17_124 : a17.eval (.tmp 124) = rv := by rw [h17, eval_put_ne _ _ _ _ (by decide)]; exact e16_124
  have e17_139 : a17.eval (.tmp 139) = .pointer (some ⟨g, 0, none⟩) := by rw [h17, eval_put_ne _ _ _ _ (by decide)]; exact e16_139
  have e17_130 : a17.eval (.tmp 130) = .agg (VI .u64 (es i)) := by rw [h17, eval_put_ne _ _ _ _ (by decide)]; exact e16_130
  have e17_136 : a17.eval (.tmp 136) = .agg (VI .u64 (es k)) := by rw [h17]; exact eval_put_eq _ _ _ (by rw [sz16]; decide)
  clear e16_123 e16_124 e16_130 e16_139 sz16
  refine readyH opB17_15 (by kernel_rfl) (fun o ho hd => wpCall (v := .agg (VI .u64 z)) ho hd (args := #[rv, .agg (VI .u64 (es i)), .agg (VI .u64 (es k))]) (by simp only [List.map_toArray, List.map_cons, List.map_nil, e17_124, e17_130, e17_136] <;> rfl) (fun _ => rfl) (hV.calls (fun b he => HC.out _ _ _ _ _ _ he hl.out)) (fun w1 hw1 => ?_))
  have hV1 := hw1
  refine ⟨hV1.row mx, ?_⟩
  have hH := hV1.row mx
  refine wpAnyH_as (l' := #[true, true, true, true, true, true, true, true, true, true, true, true, true, true, true, true, true, true, false, false]) (by kernel_rfl) ?_
  obtain ⟨a18, h18⟩ : ∃ a' : Act, a' = a17.put (some 137) (.agg (VI .u64 z)) := ⟨_, rfl⟩
  rw [← h18]
  have sz18 : a18.tmps.size = 341 := by rw [h18, size_put]; exact sz17
  have e18_123 : a18.eval (.tmp 123) = .int .i64 (c : Int) := by rw [h18, eval_put_ne _ _ _ _ (by decide)]; exact e17_123
  have e18_139 : a18.eval (.tmp 139) = .pointer (some ⟨g, 0, none⟩) := by rw [h18, eval_put_ne _ _ _ _ (by decide)]; exact e17_139
  have e18_137 : a18.eval (.tmp 137) = .agg (VI .u64 z) := by rw [h18]; exact eval_put_eq _ _ _ (by rw [sz17]; decide)
  clear e17_123 e17_124 e17_130 e17_136 e17_139 sz17
  refine takeH (v := .pointer (some ⟨g, c * 5, none⟩)) opB17_18 opB17_ns (by kernel_rfl) (by kernel_rfl) HPN (fun w hw o ho => run_indexE hc8.out ho e18_139 e18_123 w) hH ?_
  refine wpAnyH_as (l' := #[true, true, true, true, true, true, true, true, true, true, true, true, true, true, true, true, true, true, true, false]) (by kernel_rfl) ?_
  obtain ⟨a19, h19⟩ : ∃ a' : Act, a' = a18.put (some 140) (.pointer (some ⟨g, c * 5, none⟩)) := ⟨_, rfl⟩
  rw [← h19]
  have sz19 : a19.tmps.size = 341 := by rw [h19, size_put]; exact sz18
  have e19_137 : a19.eval (.tmp 137) = .agg (VI .u64 z) := by rw [h19, eval_put_ne _ _ _ _ (by decide)]; exact e18_137
  have e19_140 : a19.eval (.tmp 140) = .pointer (some ⟨g, c * 5, none⟩) := by rw [h19]; exact eval_put_eq _ _ _ (by rw [sz18]; decide)
  clear e18_123 e18_137 e18_139 sz18
  refine readyH opB17_19 (by kernel_rfl) (fun o ho hd => wp_store_mid _ _ _ ho g (c * 5) (VI .u64 z) e19_140 e19_137 (by rw [VI_size, lz.out.len]; exact hV1.bn.thereE hc8.out) (by rw [VI_size, lz.out.len]; kernel_rfl) (VI_one _ _) ?_)
  have hE := hV1.setE hc8.out lz.out
  rw [hd]
  refine ⟨hE.row mx, ?_⟩
  refine wpAnyH_as (l' := #[true, true, true, true, true, true, true, true, true, true, true, true, true, true, true, true, true, true, true, true]) (by kernel_rfl) ?_
  refine wpAnyH_done (by kernel_rfl) ?_ _
  have hF : a19 = ⟨#[.pointer (some ⟨g, 0, none⟩), rv, c2, c3, c4, .pointer (some ⟨gx, 0, none⟩), .int .i64 (i : Int), .int .i64 (k : Int), .int .i64 (c : Int), c9, c10, c11, c12, c13, c14, c15, c16, c17, c18, c19, c20, c21, c22, c23, c24, c25, c26, c27, c28, c29, c30, c31, c32, c33, c34, c35, c36, c37, c38, c39, c40, c41, c42, c43, c44, c45, c46, c47, c48, c49, c50, c51, c52, c53, c54, c55, c56, c57, c58, c59, c60, c61, c62, c63, c64, c65, c66, c67, c68, c69, c70, c71, c72, c73, c74, c75, c76, c77, c78, c79, c80, c81, c82, c83, c84, c85, c86, c87, c88, c89, c90, c91, c92, c93, c94, c95, c96, c97, c98, c99, c100, c101, c102, c103, c104, c105, c106, c107, c108, c109, c110, c111, c112, c113, c114, c115, c116, c117, c118, c119, c120, c121, .pointer (some ⟨g, 0, none⟩), .int .i64 (c : Int), rv, .pointer (some ⟨g, 0, none⟩), .int .i64 (i : Int), .pointer (some ⟨g, 0, none⟩), .pointer (some ⟨g, 0, none⟩), .pointer (some ⟨g, i * 5, none⟩), .agg (VI .u64 (es i)), .pointer (some ⟨g, 0, none⟩), .int .i64 (k : Int), .pointer (some ⟨g, 0, none⟩), .pointer (some ⟨g, 0, none⟩), .pointer (some ⟨g, k * 5, none⟩), .agg (VI .u64 (es k)), .agg (VI .u64 z), .pointer (some ⟨g, 0, none⟩), .pointer (some ⟨g, 0, none⟩), .pointer (some ⟨g, c * 5, none⟩), c141, c142, c143, c144, c145, c146, c147, c148, c149, c150, c151, c152, c153, c154, c155, c156, c157, c158, c159, c160, c161, c162, c163, c164, c165, c166, c167, c168, c169, c170, c171, c172, c173, c174, c175, c176, c177, c178, c179, c180, c181, c182, c183, c184, c185, c186, c187, c188, c189, c190, c191, c192, c193, c194, c195, c196, c197, c198, c199, c200, c201, c202, c203, c204, c205, c206, c207, c208, c209, c210, c211, c212, c213, c214, c215, c216, c217, c218, c219, c220, c221, c222, c223, c224, c225, c226, c227, c228, c229, c230, c231, c232, c233, c234, c235, c236, c237, c238, c239, c240, c241, c242, c243, c244, c245, c246, c247, c248, c249, c250, c251, c252, c253, c254, c255, c256, c257, c258, c259, c260, c261, c262, c263, c264, c265, c266, c267, c268, c269, c270, c271, c272, c273, c274, c275, c276, c277, c278, c279, c280, c281, c282, c283, c284, c285, c286, c287, c288, c289, c290, c291, c292, c293, c294, c295, c296, c297, c298, c299, c300, c301, c302, c303, c304, c305, c306, c307, c308, c309, c310, c311, c312, c313, c314, c315, c316, c317, c318, c319, c320, c321, c322, c323, c324, c325, c326, c327, c328, c329, c330, c331, c332, c333, c334, c335, c336, c337, c338, c339, c340], []⟩ := by rw [h19, h18, h17, h16, h15, h14, h13, h12, h11, h10, h9, h8, h7, h6, h5, h4, h3, h2, h1, ha]; kernel_rfl
  show Q .normal (a19.put none undef) _
  rw [show a19.put none undef = a19 from rfl, hF]
  exact H _ hE
noncomputable def rgB18 : Code := ((Try.f17.body.bind (findReg 18)).getD .skip)
noncomputable def opB18 : Array Oper := opsOf rgB18
theorem rgB18_is : rgB18 = .region 18 opB18 true := by kernel_rfl
theorem opB18_ns : Region.noSelect opB18 = true := by kernel_rfl
theorem opB18_0 : opIs opB18 0 (.move (.tmp 0)) (some 141) := by unfold opIs; kernel_rfl
theorem opB18_1 : opIs opB18 1 (.move (.tmp 8)) (some 142) := by unfold opIs; kernel_rfl
theorem opB18_2 : opIs opB18 2 (.move (.tmp 0)) (some 143) := by unfold opIs; kernel_rfl
theorem opB18_3 : opIs opB18 3 (.move (.tmp 6)) (some 144) := by unfold opIs; kernel_rfl
theorem opB18_4 : opIs opB18 4 (.nilCheck (.tmp 143)) (some 145) := by unfold opIs; kernel_rfl
theorem opB18_5 : opIs opB18 5 (.fieldAddr 53 (.tmp 145) 1) (some 146) := by unfold opIs; kernel_rfl
theorem opB18_6 : opIs opB18 6 (.indexAddr 51 (.tmp 146) (.tmp 144)) (some 147) := by unfold opIs; kernel_rfl
theorem opB18_7 : opIs opB18 7 (.load 50 (.tmp 147)) (some 148) := by unfold opIs; kernel_rfl
theorem opB18_8 : opIs opB18 8 (.move (.tmp 0)) (some 149) := by unfold opIs; kernel_rfl
theorem opB18_9 : opIs opB18 9 (.move (.tmp 7)) (some 150) := by unfold opIs; kernel_rfl
theorem opB18_10 : opIs opB18 10 (.nilCheck (.tmp 149)) (some 151) := by unfold opIs; kernel_rfl
theorem opB18_11 : opIs opB18 11 (.fieldAddr 53 (.tmp 151) 1) (some 152) := by unfold opIs; kernel_rfl
theorem opB18_12 : opIs opB18 12 (.indexAddr 51 (.tmp 152) (.tmp 150)) (some 153) := by unfold opIs; kernel_rfl
theorem opB18_13 : opIs opB18 13 (.load 50 (.tmp 153)) (some 154) := by unfold opIs; kernel_rfl
theorem opB18_14 : opIs opB18 14 (.call { callee := .value (.func 40), args := #[.tmp 148, .tmp 154], argTypes := #[50, 50] }) (some 155) := by unfold opIs; kernel_rfl
theorem opB18_15 : opIs opB18 15 (.nilCheck (.tmp 141)) (some 156) := by unfold opIs; kernel_rfl
theorem opB18_16 : opIs opB18 16 (.fieldAddr 53 (.tmp 156) 1) (some 157) := by unfold opIs; kernel_rfl
theorem opB18_17 : opIs opB18 17 (.indexAddr 51 (.tmp 157) (.tmp 142)) (some 158) := by unfold opIs; kernel_rfl
theorem opB18_18 : opIs opB18 18 (.store 50 (.tmp 158) (.tmp 155)) (none) := by unfold opIs; kernel_rfl
set_option maxRecDepth 100000 in
set_option maxHeartbeats 4000000 in
theorem bk_r18 {Q : Exit → Act → World → Prop} {B : Nat} {w W : World} {rv vs : Value} {lr ll : List (Int × Int)} {g gx : Nat} {es : Nat → List Int} {ns : Nat → Nat} {bx : List (Nat × Obj)} {i k c : Nat} {D : List Int} {K0 A0 B0 C0 N T : Int} {m : Nat} {c2 c3 c4 c9 c10 c11 c12 c13 c14 c15 c16 c17 c18 c19 c20 c21 c22 c23 c24 c25 c26 c27 c28 c29 c30 c31 c32 c33 c34 c35 c36 c37 c38 c39 c40 c41 c42 c43 c44 c45 c46 c47 c48 c49 c50 c51 c52 c53 c54 c55 c56 c57 c58 c59 c60 c61 c62 c63 c64 c65 c66 c67 c68 c69 c70 c71 c72 c73 c74 c75 c76 c77 c78 c79 c80 c81 c82 c83 c84 c85 c86 c87 c88 c89 c90 c91 c92 c93 c94 c95 c96 c97 c98 c99 c100 c101 c102 c103 c104 c105 c106 c107 c108 c109 c110 c111 c112 c113 c114 c115 c116 c117 c118 c119 c120 c121 c122 c123 c124 c125 c126 c127 c128 c129 c130 c131 c132 c133 c134 c135 c136 c137 c138 c139 c140 c141 c142 c143 c144 c145 c146 c147 c148 c149 c150 c151 c152 c153 c154 c155 c156 c157 c158 c159 c160 c161 c162 c163 c164 c165 c166 c167 c168 c169 c170 c171 c172 c173 c174 c175 c176 c177 c178 c179 c180 c181 c182 c183 c184 c185 c186 c187 c188 c189 c190 c191 c192 c193 c194 c195 c196 c197 c198 c199 c200 c201 c202 c203 c204 c205 c206 c207 c208 c209 c210 c211 c212 c213 c214 c215 c216 c217 c218 c219 c220 c221 c222 c223 c224 c225 c226 c227 c228 c229 c230 c231 c232 c233 c234 c235 c236 c237 c238 c239 c240 c241 c242 c243 c244 c245 c246 c247 c248 c249 c250 c251 c252 c253 c254 c255 c256 c257 c258 c259 c260 c261 c262 c263 c264 c265 c266 c267 c268 c269 c270 c271 c272 c273 c274 c275 c276 c277 c278 c279 c280 c281 c282 c283 c284 c285 c286 c287 c288 c289 c290 c291 c292 c293 c294 c295 c296 c297 c298 c299 c300 c301 c302 c303 c304 c305 c306 c307 c308 c309 c310 c311 c312 c313 c314 c315 c316 c317 c318 c319 c320 c321 c322 c323 c324 c325 c326 c327 c328 c329 c330 c331 c332 c333 c334 c335 c336 c337 c338 c339 c340 : Value}
    (hi8 : Hid (i < 8)) (hk8 : Hid (k < 8)) (hc8 : Hid (c < 8)) (LD : Hid (D.length = 32))
    (HC : Hid (∀ w, Calls Try.prog 40 #[.agg (VI .i64 (dg (ns i))), .agg (VI .i64 (dg (ns k)))] w fun e w' => e = .returned (.agg (VI .i64 (dg m))) ∧ Below w.heap.size w w')) (hm : Hid (m < P)) 
    (mx : (gx, stO K0 A0 B0 C0 D N T) ∈ bx)
    (XX : SB B w rv lr g es ns vs ll bx W)
    (HPN : ∀ c (a : Act) d v w, Q (.panic c) (a.put d v) w → Q (.panic c) a w)
    (H : ∀ W', SB B w rv lr g es (upd ns c m) vs ll bx W' → Q .normal ⟨#[.pointer (some ⟨g, 0, none⟩), rv, c2, c3, c4, .pointer (some ⟨gx, 0, none⟩), .int .i64 (i : Int), .int .i64 (k : Int), .int .i64 (c : Int), c9, c10, c11, c12, c13, c14, c15, c16, c17, c18, c19, c20, c21, c22, c23, c24, c25, c26, c27, c28, c29, c30, c31, c32, c33, c34, c35, c36, c37, c38, c39, c40, c41, c42, c43, c44, c45, c46, c47, c48, c49, c50, c51, c52, c53, c54, c55, c56, c57, c58, c59, c60, c61, c62, c63, c64, c65, c66, c67, c68, c69, c70, c71, c72, c73, c74, c75, c76, c77, c78, c79, c80, c81, c82, c83, c84, c85, c86, c87, c88, c89, c90, c91, c92, c93, c94, c95, c96, c97, c98, c99, c100, c101, c102, c103, c104, c105, c106, c107, c108, c109, c110, c111, c112, c113, c114, c115, c116, c117, c118, c119, c120, c121, c122, c123, c124, c125, c126, c127, c128, c129, c130, c131, c132, c133, c134, c135, c136, c137, c138, c139, c140, .pointer (some ⟨g, 0, none⟩), .int .i64 (c : Int), .pointer (some ⟨g, 0, none⟩), .int .i64 (i : Int), .pointer (some ⟨g, 0, none⟩), .pointer (some ⟨g, 40, none⟩), .pointer (some ⟨g, 40 + i * 16, none⟩), .agg (VI .i64 (dg (ns i))), .pointer (some ⟨g, 0, none⟩), .int .i64 (k : Int), .pointer (some ⟨g, 0, none⟩), .pointer (some ⟨g, 40, none⟩), .pointer (some ⟨g, 40 + k * 16, none⟩), .agg (VI .i64 (dg (ns k))), .agg (VI .i64 (dg m)), .pointer (some ⟨g, 0, none⟩), .pointer (some ⟨g, 40, none⟩), .pointer (some ⟨g, 40 + c * 16, none⟩), c159, c160, c161, c162, c163, c164, c165, c166, c167, c168, c169, c170, c171, c172, c173, c174, c175, c176, c177, c178, c179, c180, c181, c182, c183, c184, c185, c186, c187, c188, c189, c190, c191, c192, c193, c194, c195, c196, c197, c198, c199, c200, c201, c202, c203, c204, c205, c206, c207, c208, c209, c210, c211, c212, c213, c214, c215, c216, c217, c218, c219, c220, c221, c222, c223, c224, c225, c226, c227, c228, c229, c230, c231, c232, c233, c234, c235, c236, c237, c238, c239, c240, c241, c242, c243, c244, c245, c246, c247, c248, c249, c250, c251, c252, c253, c254, c255, c256, c257, c258, c259, c260, c261, c262, c263, c264, c265, c266, c267, c268, c269, c270, c271, c272, c273, c274, c275, c276, c277, c278, c279, c280, c281, c282, c283, c284, c285, c286, c287, c288, c289, c290, c291, c292, c293, c294, c295, c296, c297, c298, c299, c300, c301, c302, c303, c304, c305, c306, c307, c308, c309, c310, c311, c312, c313, c314, c315, c316, c317, c318, c319, c320, c321, c322, c323, c324, c325, c326, c327, c328, c329, c330, c331, c332, c333, c334, c335, c336, c337, c338, c339, c340], []⟩ W') :
    Code.wp Try.prog rgB18 Q ⟨#[.pointer (some ⟨g, 0, none⟩), rv, c2, c3, c4, .pointer (some ⟨gx, 0, none⟩), .int .i64 (i : Int), .int .i64 (k : Int), .int .i64 (c : Int), c9, c10, c11, c12, c13, c14, c15, c16, c17, c18, c19, c20, c21, c22, c23, c24, c25, c26, c27, c28, c29, c30, c31, c32, c33, c34, c35, c36, c37, c38, c39, c40, c41, c42, c43, c44, c45, c46, c47, c48, c49, c50, c51, c52, c53, c54, c55, c56, c57, c58, c59, c60, c61, c62, c63, c64, c65, c66, c67, c68, c69, c70, c71, c72, c73, c74, c75, c76, c77, c78, c79, c80, c81, c82, c83, c84, c85, c86, c87, c88, c89, c90, c91, c92, c93, c94, c95, c96, c97, c98, c99, c100, c101, c102, c103, c104, c105, c106, c107, c108, c109, c110, c111, c112, c113, c114, c115, c116, c117, c118, c119, c120, c121, c122, c123, c124, c125, c126, c127, c128, c129, c130, c131, c132, c133, c134, c135, c136, c137, c138, c139, c140, c141, c142, c143, c144, c145, c146, c147, c148, c149, c150, c151, c152, c153, c154, c155, c156, c157, c158, c159, c160, c161, c162, c163, c164, c165, c166, c167, c168, c169, c170, c171, c172, c173, c174, c175, c176, c177, c178, c179, c180, c181, c182, c183, c184, c185, c186, c187, c188, c189, c190, c191, c192, c193, c194, c195, c196, c197, c198, c199, c200, c201, c202, c203, c204, c205, c206, c207, c208, c209, c210, c211, c212, c213, c214, c215, c216, c217, c218, c219, c220, c221, c222, c223, c224, c225, c226, c227, c228, c229, c230, c231, c232, c233, c234, c235, c236, c237, c238, c239, c240, c241, c242, c243, c244, c245, c246, c247, c248, c249, c250, c251, c252, c253, c254, c255, c256, c257, c258, c259, c260, c261, c262, c263, c264, c265, c266, c267, c268, c269, c270, c271, c272, c273, c274, c275, c276, c277, c278, c279, c280, c281, c282, c283, c284, c285, c286, c287, c288, c289, c290, c291, c292, c293, c294, c295, c296, c297, c298, c299, c300, c301, c302, c303, c304, c305, c306, c307, c308, c309, c310, c311, c312, c313, c314, c315, c316, c317, c318, c319, c320, c321, c322, c323, c324, c325, c326, c327, c328, c329, c330, c331, c332, c333, c334, c335, c336, c337, c338, c339, c340], []⟩ W := by
  rw [rgB18_is]
  refine wp_region_held_drew (S := fun Y => Y.heap[gx]? = some (stO K0 A0 B0 C0 D N T)) (by kernel_rfl) (XX.drew.row mx) (fun hH => ?_)
  have hV := XX.drew
  clear XX
  obtain ⟨V0, hV0⟩ : ∃ V, W.drew = V := ⟨_, rfl⟩
  rw [hV0] at hH hV ⊢
  clear hV0
  obtain ⟨a0, ha⟩ : ∃ a : Act, a = ⟨#[.pointer (some ⟨g, 0, none⟩), rv, c2, c3, c4, .pointer (some ⟨gx, 0, none⟩), .int .i64 (i : Int), .int .i64 (k : Int), .int .i64 (c : Int), c9, c10, c11, c12, c13, c14, c15, c16, c17, c18, c19, c20, c21, c22, c23, c24, c25, c26, c27, c28, c29, c30, c31, c32, c33, c34, c35, c36, c37, c38, c39, c40, c41, c42, c43, c44, c45, c46, c47, c48, c49, c50, c51, c52, c53, c54, c55, c56, c57, c58, c59, c60, c61, c62, c63, c64, c65, c66, c67, c68, c69, c70, c71, c72, c73, c74, c75, c76, c77, c78, c79, c80, c81, c82, c83, c84, c85, c86, c87, c88, c89, c90, c91, c92, c93, c94, c95, c96, c97, c98, c99, c100, c101, c102, c103, c104, c105, c106, c107, c108, c109, c110, c111, c112, c113, c114, c115, c116, c117, c118, c119, c120, c121, c122, c123, c124, c125, c126, c127, c128, c129, c130, c131, c132, c133, c134, c135, c136, c137, c138, c139, c140, c141, c142, c143, c144, c145, c146, c147, c148, c149, c150, c151, c152, c153, c154, c155, c156, c157, c158, c159, c160, c161, c162, c163, c164, c165, c166, c167, c168, c169, c170, c171, c172, c173, c174, c175, c176, c177, c178, c179, c180, c181, c182, c183, c184, c185, c186, c187, c188, c189, c190, c191, c192, c193, c194, c195, c196, c197, c198, c199, c200, c201, c202, c203, c204, c205, c206, c207, c208, c209, c210, c211, c212, c213, c214, c215, c216, c217, c218, c219, c220, c221, c222, c223, c224, c225, c226, c227, c228, c229, c230, c231, c232, c233, c234, c235, c236, c237, c238, c239, c240, c241, c242, c243, c244, c245, c246, c247, c248, c249, c250, c251, c252, c253, c254, c255, c256, c257, c258, c259, c260, c261, c262, c263, c264, c265, c266, c267, c268, c269, c270, c271, c272, c273, c274, c275, c276, c277, c278, c279, c280, c281, c282, c283, c284, c285, c286, c287, c288, c289, c290, c291, c292, c293, c294, c295, c296, c297, c298, c299, c300, c301, c302, c303, c304, c305, c306, c307, c308, c309, c310, c311, c312, c313, c314, c315, c316, c317, c318, c319, c320, c321, c322, c323, c324, c325, c326, c327, c328, c329, c330, c331, c332, c333, c334, c335, c336, c337, c338, c339, c340], []⟩ := ⟨_, rfl⟩
  have sz0 : a0.tmps.size = 341 := by rw [ha]; kernel_rfl
  have e0_0 : a0.eval (.tmp 0) = .pointer (some ⟨g, 0, none⟩) := by rw [ha]; kernel_rfl
  have e0_6 : a0.eval (.tmp 6) = .int .i64 (i : Int) := by rw [ha]; kernel_rfl
  have e0_7 : a0.eval (.tmp 7) = .int .i64 (k : Int) := by rw [ha]; kernel_rfl
  have e0_8 : a0.eval (.tmp 8) = .int .i64 (c : Int) := by rw [ha]; kernel_rfl
  rw [← ha]
  refine wpAnyH_as (l' := #[false, false, false, false, false, false, false, false, false, false, false, false, false, false, false, false, false, false, false]) (by kernel_rfl) ?_
  refine takeH (v := .pointer (some ⟨g, 0, none⟩)) opB18_0 opB18_ns (by kernel_rfl) (by kernel_rfl) HPN (fun w hw o ho => run_move ho e0_0 w) hH ?_
  refine wpAnyH_as (l' := #[true, false, false, false, false, false, false, false, false, false, false, false, false, false, false, false, false, false, false]) (by kernel_rfl) ?_
  obtain ⟨a1, h1⟩ : ∃ a' : Act, a' = a0.put (some 141) (.pointer (some ⟨g, 0, none⟩)) := ⟨_, rfl⟩
  rw [← h1]
  have sz1 : a1.tmps.size = 341 := by rw [h1, size_put]; exact sz0
  have e1_0 : a1.eval (.tmp 0) = .pointer (some ⟨g, 0, none⟩) := by rw [h1, eval_put_ne _ _ _ _ (by decide)]; exact e0_0
  have e1_6 : a1.eval (.tmp 6) = .int .i64 (i : Int) := by rw [h1, eval_put_ne _ _ _ _ (by decide)]; exact e0_6
  have e1_7 : a1.eval (.tmp 7) = .int .i64 (k : Int) := by rw [h1, eval_put_ne _ _ _ _ (by decide)]; exact e0_7
  have e1_8 : a1.eval (.tmp 8) = .int .i64 (c : Int) := by rw [h1, eval_put_ne _ _ _ _ (by decide)]; exact e0_8
  have e1_141 : a1.eval (.tmp 141) = .pointer (some ⟨g, 0, none⟩) := by rw [h1]; exact eval_put_eq _ _ _ (by rw [sz0]; decide)
  clear e0_0 e0_6 e0_7 e0_8 sz0
  refine takeH (v := .int .i64 (c : Int)) opB18_1 opB18_ns (by kernel_rfl) (by kernel_rfl) HPN (fun w hw o ho => run_move ho e1_8 w) hH ?_
  refine wpAnyH_as (l' := #[true, true, false, false, false, false, false, false, false, false, false, false, false, false, false, false, false, false, false]) (by kernel_rfl) ?_
  obtain ⟨a2, h2⟩ : ∃ a' : Act, a' = a1.put (some 142) (.int .i64 (c : Int)) := ⟨_, rfl⟩
  rw [← h2]
  have sz2 : a2.tmps.size = 341 := by rw [h2, size_put]; exact sz1
  have e2_0 : a2.eval (.tmp 0) = .pointer (some ⟨g, 0, none⟩) := by rw [h2, eval_put_ne _ _ _ _ (by decide)]; exact e1_0
  have e2_6 : a2.eval (.tmp 6) = .int .i64 (i : Int) := by rw [h2, eval_put_ne _ _ _ _ (by decide)]; exact e1_6
  have e2_7 : a2.eval (.tmp 7) = .int .i64 (k : Int) := by rw [h2, eval_put_ne _ _ _ _ (by decide)]; exact e1_7
  have e2_141 : a2.eval (.tmp 141) = .pointer (some ⟨g, 0, none⟩) := by rw [h2, eval_put_ne _ _ _ _ (by decide)]; exact e1_141
  have e2_142 : a2.eval (.tmp 142) = .int .i64 (c : Int) := by rw [h2]; exact eval_put_eq _ _ _ (by rw [sz1]; decide)
  clear e1_0 e1_141 e1_6 e1_7 e1_8 sz1
  refine takeH (v := .pointer (some ⟨g, 0, none⟩)) opB18_2 opB18_ns (by kernel_rfl) (by kernel_rfl) HPN (fun w hw o ho => run_move ho e2_0 w) hH ?_
  refine wpAnyH_as (l' := #[true, true, true, false, false, false, false, false, false, false, false, false, false, false, false, false, false, false, false]) (by kernel_rfl) ?_
  obtain ⟨a3, h3⟩ : ∃ a' : Act, a' = a2.put (some 143) (.pointer (some ⟨g, 0, none⟩)) := ⟨_, rfl⟩
  rw [← h3]
  have sz3 : a3.tmps.size = 341 := by rw [h3, size_put]; exact sz2
  have e3_0 : a3.eval (.tmp 0) = .pointer (some ⟨g, 0, none⟩) := by rw [h3, eval_put_ne _ _ _ _ (by decide)]; exact e2_0
  have e3_6 : a3.eval (.tmp 6) = .int .i64 (i : Int) := by rw [h3, eval_put_ne _ _ _ _ (by decide)]; exact e2_6
  have e3_7 : a3.eval (.tmp 7) = .int .i64 (k : Int) := by rw [h3, eval_put_ne _ _ _ _ (by decide)]; exact e2_7
  have e3_141 : a3.eval (.tmp 141) = .pointer (some ⟨g, 0, none⟩) := by rw [h3, eval_put_ne _ _ _ _ (by decide)]; exact e2_141
  have e3_142 : a3.eval (.tmp 142) = .int .i64 (c : Int) := by rw [h3, eval_put_ne _ _ _ _ (by decide)]; exact e2_142
  have e3_143 : a3.eval (.tmp 143) = .pointer (some ⟨g, 0, none⟩) := by rw [h3]; exact eval_put_eq _ _ _ (by rw [sz2]; decide)
  clear e2_0 e2_141 e2_142 e2_6 e2_7 sz2
  refine takeH (v := .int .i64 (i : Int)) opB18_3 opB18_ns (by kernel_rfl) (by kernel_rfl) HPN (fun w hw o ho => run_move ho e3_6 w) hH ?_
  refine wpAnyH_as (l' := #[true, true, true, true, false, false, false, false, false, false, false, false, false, false, false, false, false, false, false]) (by kernel_rfl) ?_
  obtain ⟨a4, h4⟩ : ∃ a' : Act, a' = a3.put (some 144) (.int .i64 (i : Int)) := ⟨_, rfl⟩
  rw [← h4]
  have sz4 : a4.tmps.size = 341 := by rw [h4, size_put]; exact sz3
  have e4_0 : a4.eval (.tmp 0) = .pointer (some ⟨g, 0, none⟩) := by rw [h4, eval_put_ne _ _ _ _ (by decide)]; exact e3_0
  have e4_7 : a4.eval (.tmp 7) = .int .i64 (k : Int) := by rw [h4, eval_put_ne _ _ _ _ (by decide)]; exact e3_7
  have e4_141 : a4.eval (.tmp 141) = .pointer (some ⟨g, 0, none⟩) := by rw [h4, eval_put_ne _ _ _ _ (by decide)]; exact e3_141
  have e4_142 : a4.eval (.tmp 142) = .int .i64 (c : Int) := by rw [h4, eval_put_ne _ _ _ _ (by decide)]; exact e3_142
  have e4_143 : a4.eval (.tmp 143) = .pointer (some ⟨g, 0, none⟩) := by rw [h4, eval_put_ne _ _ _ _ (by decide)]; exact e3_143
  have e4_144 : a4.eval (.tmp 144) = .int .i64 (i : Int) := by rw [h4]; exact eval_put_eq _ _ _ (by rw [sz3]; decide)
  clear e3_0 e3_141 e3_142 e3_143 e3_6 e3_7 sz3
  refine takeH (v := .pointer (some ⟨g, 0, none⟩)) opB18_4 opB18_ns (by kernel_rfl) (by kernel_rfl) HPN (fun w hw o ho => run_nilCheck ho e4_143 w) hH ?_
  refine wpAnyH_as (l' := #[true, true, true, true, true, false, false, false, false, false, false, false, false, false, false, false, false, false, false]) (by kernel_rfl) ?_
  obtain ⟨a5, h5⟩ : ∃ a' : Act, a' = a4.put (some 145) (.pointer (some ⟨g, 0, none⟩)) := ⟨_, rfl⟩
  rw [← h5]
  have sz5 : a5.tmps.size = 341 := by rw [h5, size_put]; exact sz4
  have e5_0 : a5.eval (.tmp 0) = .pointer (some ⟨g, 0, none⟩) := by rw [h5, eval_put_ne _ _ _ _ (by decide)]; exact e4_0
  have e5_7 : a5.eval (.tmp 7) = .int .i64 (k : Int) := by rw [h5, eval_put_ne _ _ _ _ (by decide)]; exact e4_7
  have e5_141 : a5.eval (.tmp 141) = .pointer (some ⟨g, 0, none⟩) := by rw [h5, eval_put_ne _ _ _ _ (by decide)]; exact e4_141
  have e5_142 : a5.eval (.tmp 142) = .int .i64 (c : Int) := by rw [h5, eval_put_ne _ _ _ _ (by decide)]; exact e4_142
  have e5_144 : a5.eval (.tmp 144) = .int .i64 (i : Int) := by rw [h5, eval_put_ne _ _ _ _ (by decide)]; exact e4_144
  have e5_145 : a5.eval (.tmp 145) = .pointer (some ⟨g, 0, none⟩) := by rw [h5]; exact eval_put_eq _ _ _ (by rw [sz4]; decide)
  clear e4_0 e4_141 e4_142 e4_143 e4_144 e4_7 sz4
  refine takeH (v := .pointer (some ⟨g, 40, none⟩)) opB18_5 opB18_ns (by kernel_rfl) (by kernel_rfl) HPN (fun w hw o ho => run_fieldN ho e5_145 w) hH ?_
  refine wpAnyH_as (l' := #[true, true, true, true, true, true, false, false, false, false, false, false, false, false, false, false, false, false, false]) (by kernel_rfl) ?_
  obtain ⟨a6, h6⟩ : ∃ a' : Act, a' = a5.put (some 146) (.pointer (some ⟨g, 40, none⟩)) := ⟨_, rfl⟩
  rw [← h6]
  have sz6 : a6.tmps.size = 341 := by rw [h6, size_put]; exact sz5
  have e6_0 : a6.eval (.tmp 0) = .pointer (some ⟨g, 0, none⟩) := by rw [h6, eval_put_ne _ _ _ _ (by decide)]; exact e5_0
  have e6_7 : a6.eval (.tmp 7) = .int .i64 (k : Int) := by rw [h6, eval_put_ne _ _ _ _ (by decide)]; exact e5_7
  have e6_141 : a6.eval (.tmp 141) = .pointer (some ⟨g, 0, none⟩) := by rw [h6, eval_put_ne _ _ _ _ (by decide)]; exact e5_141
  have e6_142 : a6.eval (.tmp 142) = .int .i64 (c : Int) := by rw [h6, eval_put_ne _ _ _ _ (by decide)]; exact e5_142
  have e6_144 : a6.eval (.tmp 144) = .int .i64 (i : Int) := by rw [h6, eval_put_ne _ _ _ _ (by decide)]; exact e5_144
  have e6_146 : a6.eval (.tmp 146) = .pointer (some ⟨g, 40, none⟩) := by rw [h6]; exact eval_put_eq _ _ _ (by rw [sz5]; decide)
  clear e5_0 e5_141 e5_142 e5_144 e5_145 e5_7 sz5
  refine takeH (v := .pointer (some ⟨g, 40 + i * 16, none⟩)) opB18_6 opB18_ns (by kernel_rfl) (by kernel_rfl) HPN (fun w hw o ho => run_indexN hi8.out ho e6_146 e6_144 w) hH ?_
  refine wpAnyH_as (l' := #[true, true, true, true, true, true, true, false, false, false, false, false, false, false, false, false, false, false, false]) (by kernel_rfl) ?_
  obtain ⟨a7, h7⟩ : ∃ a' : Act, a' = a6.put (some 147) (.pointer (some ⟨g, 40 + i * 16, none⟩)) := ⟨_, rfl⟩
  rw [← h7]
  have sz7 : a7.tmps.size = 341 := by rw [h7, size_put]; exact sz6
  have e7_0 : a7.eval (.tmp 0) = .pointer (some ⟨g, 0, none⟩) := by rw [h7, eval_put_ne _ _ _ _ (by decide)]; exact e6_0
  have e7_7 : a7.eval (.tmp 7) = .int .i64 (k : Int) := by rw [h7, eval_put_ne _ _ _ _ (by decide)]; exact e6_7
  have e7_141 : a7.eval (.tmp 141) = .pointer (some ⟨g, 0, none⟩) := by rw [h7, eval_put_ne _ _ _ _ (by decide)]; exact e6_141
  have e7_142 : a7.eval (.tmp 142) = .int .i64 (c : Int) := by rw [h7, eval_put_ne _ _ _ _ (by decide)]; exact e6_142
  have e7_147 : a7.eval (.tmp 147) = .pointer (some ⟨g, 40 + i * 16, none⟩) := by rw [h7]; exact eval_put_eq _ _ _ (by rw [sz6]; decide)
  clear e6_0 e6_141 e6_142 e6_144 e6_146 e6_7 sz6
  refine takeH (v := .pointer (some ⟨g, 0, none⟩)) opB18_8 opB18_ns (by kernel_rfl) (by kernel_rfl) HPN (fun w hw o ho => run_move ho e7_0 w) hH ?_
  refine wpAnyH_as (l' := #[true, true, true, true, true, true, true, false, true, false, false, false, false, false, false, false, false, false, false]) (by kernel_rfl) ?_
  obtain ⟨a8, h8⟩ : ∃ a' : Act, a' = a7.put (some 149) (.pointer (some ⟨g, 0, none⟩)) := ⟨_, rfl⟩
  rw [← h8]
  have sz8 : a8.tmps.size = 341 := by rw [h8, size_put]; exact sz7
  have e8_7 : a8.eval (.tmp 7) = .int .i64 (k : Int) := by rw [h8, eval_put_ne _ _ _ _ (by decide)]; exact e7_7
  have e8_141 : a8.eval (.tmp 141) = .pointer (some ⟨g, 0, none⟩) := by rw [h8, eval_put_ne _ _ _ _ (by decide)]; exact e7_141
  have e8_142 : a8.eval (.tmp 142) = .int .i64 (c : Int) := by rw [h8, eval_put_ne _ _ _ _ (by decide)]; exact e7_142
  have e8_147 : a8.eval (.tmp 147) = .pointer (some ⟨g, 40 + i * 16, none⟩) := by rw [h8, eval_put_ne _ _ _ _ (by decide)]; exact e7_147
  have e8_149 : a8.eval (.tmp 149) = .pointer (some ⟨g, 0, none⟩) := by rw [h8]; exact eval_put_eq _ _ _ (by rw [sz7]; decide)
  clear e7_0 e7_141 e7_142 e7_147 e7_7 sz7
  refine takeH (v := .int .i64 (k : Int)) opB18_9 opB18_ns (by kernel_rfl) (by kernel_rfl) HPN (fun w hw o ho => run_move ho e8_7 w) hH ?_
  refine wpAnyH_as (l' := #[true, true, true, true, true, true, true, false, true, true, false, false, false, false, false, false, false, false, false]) (by kernel_rfl) ?_
  obtain ⟨a9, h9⟩ : ∃ a' : Act, a' = a8.put (some 150) (.int .i64 (k : Int)) := ⟨_, rfl⟩
  rw [← h9]
  have sz9 : a9.tmps.size = 341 := by rw [h9, size_put]; exact sz8
  have e9_141 : a9.eval (.tmp 141) = .pointer (some ⟨g, 0, none⟩) := by rw [h9, eval_put_ne _ _ _ _ (by decide)]; exact e8_141
  have e9_142 : a9.eval (.tmp 142) = .int .i64 (c : Int) := by rw [h9, eval_put_ne _ _ _ _ (by decide)]; exact e8_142
  have e9_147 : a9.eval (.tmp 147) = .pointer (some ⟨g, 40 + i * 16, none⟩) := by rw [h9, eval_put_ne _ _ _ _ (by decide)]; exact e8_147
  have e9_149 : a9.eval (.tmp 149) = .pointer (some ⟨g, 0, none⟩) := by rw [h9, eval_put_ne _ _ _ _ (by decide)]; exact e8_149
  have e9_150 : a9.eval (.tmp 150) = .int .i64 (k : Int) := by rw [h9]; exact eval_put_eq _ _ _ (by rw [sz8]; decide)
  clear e8_141 e8_142 e8_147 e8_149 e8_7 sz8
  refine takeH (v := .pointer (some ⟨g, 0, none⟩)) opB18_10 opB18_ns (by kernel_rfl) (by kernel_rfl) HPN (fun w hw o ho => run_nilCheck ho e9_149 w) hH ?_
  refine wpAnyH_as (l' := #[true, true, true, true, true, true, true, false, true, true, true, false, false, false, false, false, false, false, false]) (by kernel_rfl) ?_
  obtain ⟨a10, h10⟩ : ∃ a' : Act, a' = a9.put (some 151) (.pointer (some ⟨g, 0, none⟩)) := ⟨_, rfl⟩
  rw [← h10]
  have sz10 : a10.tmps.size = 341 := by rw [h10, size_put]; exact sz9
  have e10_141 : a10.eval (.tmp 141) = .pointer (some ⟨g, 0, none⟩) := by rw [h10, eval_put_ne _ _ _ _ (by decide)]; exact e9_141
  have e10_142 : a10.eval (.tmp 142) = .int .i64 (c : Int) := by rw [h10, eval_put_ne _ _ _ _ (by decide)]; exact e9_142
  have e10_147 : a10.eval (.tmp 147) = .pointer (some ⟨g, 40 + i * 16, none⟩) := by rw [h10, eval_put_ne _ _ _ _ (by decide)]; exact e9_147
  have e10_150 : a10.eval (.tmp 150) = .int .i64 (k : Int) := by rw [h10, eval_put_ne _ _ _ _ (by decide)]; exact e9_150
  have e10_151 : a10.eval (.tmp 151) = .pointer (some ⟨g, 0, none⟩) := by rw [h10]; exact eval_put_eq _ _ _ (by rw [sz9]; decide)
  clear e9_141 e9_142 e9_147 e9_149 e9_150 sz9
  refine takeH (v := .pointer (some ⟨g, 40, none⟩)) opB18_11 opB18_ns (by kernel_rfl) (by kernel_rfl) HPN (fun w hw o ho => run_fieldN ho e10_151 w) hH ?_
  refine wpAnyH_as (l' := #[true, true, true, true, true, true, true, false, true, true, true, true, false, false, false, false, false, false, false]) (by kernel_rfl) ?_
  obtain ⟨a11, h11⟩ : ∃ a' : Act, a' = a10.put (some 152) (.pointer (some ⟨g, 40, none⟩)) := ⟨_, rfl⟩
  rw [← h11]
  have sz11 : a11.tmps.size = 341 := by rw [h11, size_put]; exact sz10
  have e11_141 : a11.eval (.tmp 141) = .pointer (some ⟨g, 0, none⟩) := by rw [h11, eval_put_ne _ _ _ _ (by decide)]; exact e10_141
  have e11_142 : a11.eval (.tmp 142) = .int .i64 (c : Int) := by rw [h11, eval_put_ne _ _ _ _ (by decide)]; exact e10_142
  have e11_147 : a11.eval (.tmp 147) = .pointer (some ⟨g, 40 + i * 16, none⟩) := by rw [h11, eval_put_ne _ _ _ _ (by decide)]; exact e10_147
  have e11_150 : a11.eval (.tmp 150) = .int .i64 (k : Int) := by rw [h11, eval_put_ne _ _ _ _ (by decide)]; exact e10_150
  have e11_152 : a11.eval (.tmp 152) = .pointer (some ⟨g, 40, none⟩) := by rw [h11]; exact eval_put_eq _ _ _ (by rw [sz10]; decide)
  clear e10_141 e10_142 e10_147 e10_150 e10_151 sz10
  refine takeH (v := .pointer (some ⟨g, 40 + k * 16, none⟩)) opB18_12 opB18_ns (by kernel_rfl) (by kernel_rfl) HPN (fun w hw o ho => run_indexN hk8.out ho e11_152 e11_150 w) hH ?_
  refine wpAnyH_as (l' := #[true, true, true, true, true, true, true, false, true, true, true, true, true, false, false, false, false, false, false]) (by kernel_rfl) ?_
  obtain ⟨a12, h12⟩ : ∃ a' : Act, a' = a11.put (some 153) (.pointer (some ⟨g, 40 + k * 16, none⟩)) := ⟨_, rfl⟩
  rw [← h12]
  have sz12 : a12.tmps.size = 341 := by rw [h12, size_put]; exact sz11
  have e12_141 : a12.eval (.tmp 141) = .pointer (some ⟨g, 0, none⟩) := by rw [h12, eval_put_ne _ _ _ _ (by decide)]; exact e11_141
  have e12_142 : a12.eval (.tmp 142) = .int .i64 (c : Int) := by rw [h12, eval_put_ne _ _ _ _ (by decide)]; exact e11_142
  have e12_147 : a12.eval (.tmp 147) = .pointer (some ⟨g, 40 + i * 16, none⟩) := by rw [h12, eval_put_ne _ _ _ _ (by decide)]; exact e11_147
  have e12_153 : a12.eval (.tmp 153) = .pointer (some ⟨g, 40 + k * 16, none⟩) := by rw [h12]; exact eval_put_eq _ _ _ (by rw [sz11]; decide)
  clear e11_141 e11_142 e11_147 e11_150 e11_152 sz11
  refine takeH (v := .pointer (some ⟨g, 0, none⟩)) opB18_15 opB18_ns (by kernel_rfl) (by kernel_rfl) HPN (fun w hw o ho => run_nilCheck ho e12_141 w) hH ?_
  refine wpAnyH_as (l' := #[true, true, true, true, true, true, true, false, true, true, true, true, true, false, false, true, false, false, false]) (by kernel_rfl) ?_
  obtain ⟨a13, h13⟩ : ∃ a' : Act, a' = a12.put (some 156) (.pointer (some ⟨g, 0, none⟩)) := ⟨_, rfl⟩
  rw [← h13]
  have sz13 : a13.tmps.size = 341 := by rw [h13, size_put]; exact sz12
  have e13_142 : a13.eval (.tmp 142) = .int .i64 (c : Int) := by rw [h13, eval_put_ne _ _ _ _ (by decide)]; exact e12_142
  have e13_147 : a13.eval (.tmp 147) = .pointer (some ⟨g, 40 + i * 16, none⟩) := by rw [h13, eval_put_ne _ _ _ _ (by decide)]; exact e12_147
  have e13_153 : a13.eval (.tmp 153) = .pointer (some ⟨g, 40 + k * 16, none⟩) := by rw [h13, eval_put_ne _ _ _ _ (by decide)]; exact e12_153
  have e13_156 : a13.eval (.tmp 156) = .pointer (some ⟨g, 0, none⟩) := by rw [h13]; exact eval_put_eq _ _ _ (by rw [sz12]; decide)
  clear e12_141 e12_142 e12_147 e12_153 sz12
  refine takeH (v := .pointer (some ⟨g, 40, none⟩)) opB18_16 opB18_ns (by kernel_rfl) (by kernel_rfl) HPN (fun w hw o ho => run_fieldN ho e13_156 w) hH ?_
  refine wpAnyH_as (l' := #[true, true, true, true, true, true, true, false, true, true, true, true, true, false, false, true, true, false, false]) (by kernel_rfl) ?_
  obtain ⟨a14, h14⟩ : ∃ a' : Act, a' = a13.put (some 157) (.pointer (some ⟨g, 40, none⟩)) := ⟨_, rfl⟩
  rw [← h14]
  have sz14 : a14.tmps.size = 341 := by rw [h14, size_put]; exact sz13
  have e14_142 : a14.eval (.tmp 142) = .int .i64 (c : Int) := by rw [h14, eval_put_ne _ _ _ _ (by decide)]; exact e13_142
  have e14_147 : a14.eval (.tmp 147) = .pointer (some ⟨g, 40 + i * 16, none⟩) := by rw [h14, eval_put_ne _ _ _ _ (by decide)]; exact e13_147
  have e14_153 : a14.eval (.tmp 153) = .pointer (some ⟨g, 40 + k * 16, none⟩) := by rw [h14, eval_put_ne _ _ _ _ (by decide)]; exact e13_153
  have e14_157 : a14.eval (.tmp 157) = .pointer (some ⟨g, 40, none⟩) := by rw [h14]; exact eval_put_eq _ _ _ (by rw [sz13]; decide)
  clear e13_142 e13_147 e13_153 e13_156 sz13
  refine readyLd2 (v := .agg (VI .i64 (dg (ns i)))) (u := .agg (VI .i64 (dg (ns k)))) opB18_7 opB18_13 (by decide) (by decide) (by kernel_rfl) (by kernel_rfl) (by kernel_rfl) hH (fun o ho => run_loadN (dg_len _) ho e14_147 _ (hV.bn.rangeN hi8.out)) (fun o ho => run_loadN (dg_len _) ho e14_153 _ (hV.bn.rangeN hk8.out)) (fun o ho => run_loadN (dg_len _) ho ((eval_put_ne _ _ _ _ (by decide)).trans e14_147) _ (hV.bn.rangeN hi8.out)) (fun o ho => run_loadN (dg_len _) ho ((eval_put_ne _ _ _ _ (by decide)).trans e14_153) _ (hV.bn.rangeN hk8.out)) ?_
  refine wpAnyH_as (l' := #[true, true, true, true, true, true, true, true, true, true, true, true, true, true, false, true, true, false, false]) (by kernel_rfl) ?_
  obtain ⟨a15, h15⟩ : ∃ a' : Act, a' = a14.put (some 148) (.agg (VI .i64 (dg (ns i)))) := ⟨_, rfl⟩
  rw [← h15]
  have sz15 : a15.tmps.size = 341 := by rw [h15, size_put]; exact sz14
  have e15_142 : a15.eval (.tmp 142) = .int .i64 (c : Int) := by rw [h15, eval_put_ne _ _ _ _ (by decide)]; exact e14_142
  have e15_157 : a15.eval (.tmp 157) = .pointer (some ⟨g, 40, none⟩) := by rw [h15, eval_put_ne _ _ _ _ (by decide)]; exact e14_157
  have e15_148 : a15.eval (.tmp 148) = .agg (VI .i64 (dg (ns i))) := by rw [h15]; exact eval_put_eq _ _ _ (by rw [sz14]; decide)
  clear e14_142 e14_147 e14_153 e14_157 sz14
  obtain ⟨a16, h16⟩ : ∃ a' : Act, a' = a15.put (some 154) (.agg (VI .i64 (dg (ns k)))) := ⟨_, rfl⟩
  rw [← h16]
  have sz16 : a16.tmps.size = 341 := by rw [h16, size_put]; exact sz15
  have e16_142 : a16.eval (.tmp 142) = .int .i64 (c : Int) := by rw [h16, eval_put_ne _ _ _ _ (by decide)]; exact e15_142
  have e16_157 : a16.eval (.tmp 157) = .pointer (some ⟨g, 40, none⟩) := by rw [h16, eval_put_ne _ _ _ _ (by decide)]; exact e15_157
  have e16_148 : a16.eval (.tmp 148) = .agg (VI .i64 (dg (ns i))) := by rw [h16, eval_put_ne _ _ _ _ (by decide)]; exact e15_148
  have e16_154 : a16.eval (.tmp 154) = .agg (VI .i64 (dg (ns k))) := by rw [h16]; exact eval_put_eq _ _ _ (by rw [sz15]; decide)
  clear e15_142 e15_148 e15_157 sz15
  refine readyH opB18_14 (by kernel_rfl) (fun o ho hd => wpCall (v := .agg (VI .i64 (dg m))) ho hd (args := #[.agg (VI .i64 (dg (ns i))), .agg (VI .i64 (dg (ns k)))]) (by simp only [List.map_toArray, List.map_cons, List.map_nil, e16_148, e16_154] <;> rfl) (fun _ => rfl) (HC.out _) (fun w1 hw1 => ?_))
  have hV1 := hV.below hw1
  refine ⟨hV1.row mx, ?_⟩
  have hH := hV1.row mx
  refine wpAnyH_as (l' := #[true, true, true, true, true, true, true, true, true, true, true, true, true, true, true, true, true, false, false]) (by kernel_rfl) ?_
  obtain ⟨a17, h17⟩ : ∃ a' : Act, a' = a16.put (some 155) (.agg (VI .i64 (dg m))) := ⟨_, rfl⟩
  rw [← h17]
  have sz17 : a17.tmps.size = 341 := by rw [h17, size_put]; exact sz16
  have e17_142 : a17.eval (.tmp 142) = .int .i64 (c : Int) := by rw [h17, eval_put_ne _ _ _ _ (by decide)]; exact e16_142
  have e17_157 : a17.eval (.tmp 157) = .pointer (some ⟨g, 40, none⟩) := by rw [h17, eval_put_ne _ _ _ _ (by decide)]; exact e16_157
  have e17_155 : a17.eval (.tmp 155) = .agg (VI .i64 (dg m)) := by rw [h17]; exact eval_put_eq _ _ _ (by rw [sz16]; decide)
  clear e16_142 e16_148 e16_154 e16_157 sz16
  refine takeH (v := .pointer (some ⟨g, 40 + c * 16, none⟩)) opB18_17 opB18_ns (by kernel_rfl) (by kernel_rfl) HPN (fun w hw o ho => run_indexN hc8.out ho e17_157 e17_142 w) hH ?_
  refine wpAnyH_as (l' := #[true, true, true, true, true, true, true, true, true, true, true, true, true, true, true, true, true, true, false]) (by kernel_rfl) ?_
  obtain ⟨a18, h18⟩ : ∃ a' : Act, a' = a17.put (some 158) (.pointer (some ⟨g, 40 + c * 16, none⟩)) := ⟨_, rfl⟩
  rw [← h18]
  have sz18 : a18.tmps.size = 341 := by rw [h18, size_put]; exact sz17
  have e18_155 : a18.eval (.tmp 155) = .agg (VI .i64 (dg m)) := by rw [h18, eval_put_ne _ _ _ _ (by decide)]; exact e17_155
  have e18_158 : a18.eval (.tmp 158) = .pointer (some ⟨g, 40 + c * 16, none⟩) := by rw [h18]; exact eval_put_eq _ _ _ (by rw [sz17]; decide)
  clear e17_142 e17_155 e17_157 sz17
  refine readyH opB18_18 (by kernel_rfl) (fun o ho hd => wp_store_mid _ _ _ ho g (40 + c * 16) (VI .i64 (dg m)) e18_158 e18_155 (by rw [VI_size, dg_len]; exact hV1.bn.thereN hc8.out) (by rw [VI_size, dg_len]; kernel_rfl) (VI_one _ _) ?_)
  have hE := hV1.setN hc8.out hm.out
  rw [hd]
  refine ⟨hE.row mx, ?_⟩
  refine wpAnyH_as (l' := #[true, true, true, true, true, true, true, true, true, true, true, true, true, true, true, true, true, true, true]) (by kernel_rfl) ?_
  refine wpAnyH_done (by kernel_rfl) ?_ _
  have hF : a18 = ⟨#[.pointer (some ⟨g, 0, none⟩), rv, c2, c3, c4, .pointer (some ⟨gx, 0, none⟩), .int .i64 (i : Int), .int .i64 (k : Int), .int .i64 (c : Int), c9, c10, c11, c12, c13, c14, c15, c16, c17, c18, c19, c20, c21, c22, c23, c24, c25, c26, c27, c28, c29, c30, c31, c32, c33, c34, c35, c36, c37, c38, c39, c40, c41, c42, c43, c44, c45, c46, c47, c48, c49, c50, c51, c52, c53, c54, c55, c56, c57, c58, c59, c60, c61, c62, c63, c64, c65, c66, c67, c68, c69, c70, c71, c72, c73, c74, c75, c76, c77, c78, c79, c80, c81, c82, c83, c84, c85, c86, c87, c88, c89, c90, c91, c92, c93, c94, c95, c96, c97, c98, c99, c100, c101, c102, c103, c104, c105, c106, c107, c108, c109, c110, c111, c112, c113, c114, c115, c116, c117, c118, c119, c120, c121, c122, c123, c124, c125, c126, c127, c128, c129, c130, c131, c132, c133, c134, c135, c136, c137, c138, c139, c140, .pointer (some ⟨g, 0, none⟩), .int .i64 (c : Int), .pointer (some ⟨g, 0, none⟩), .int .i64 (i : Int), .pointer (some ⟨g, 0, none⟩), .pointer (some ⟨g, 40, none⟩), .pointer (some ⟨g, 40 + i * 16, none⟩), .agg (VI .i64 (dg (ns i))), .pointer (some ⟨g, 0, none⟩), .int .i64 (k : Int), .pointer (some ⟨g, 0, none⟩), .pointer (some ⟨g, 40, none⟩), .pointer (some ⟨g, 40 + k * 16, none⟩), .agg (VI .i64 (dg (ns k))), .agg (VI .i64 (dg m)), .pointer (some ⟨g, 0, none⟩), .pointer (some ⟨g, 40, none⟩), .pointer (some ⟨g, 40 + c * 16, none⟩), c159, c160, c161, c162, c163, c164, c165, c166, c167, c168, c169, c170, c171, c172, c173, c174, c175, c176, c177, c178, c179, c180, c181, c182, c183, c184, c185, c186, c187, c188, c189, c190, c191, c192, c193, c194, c195, c196, c197, c198, c199, c200, c201, c202, c203, c204, c205, c206, c207, c208, c209, c210, c211, c212, c213, c214, c215, c216, c217, c218, c219, c220, c221, c222, c223, c224, c225, c226, c227, c228, c229, c230, c231, c232, c233, c234, c235, c236, c237, c238, c239, c240, c241, c242, c243, c244, c245, c246, c247, c248, c249, c250, c251, c252, c253, c254, c255, c256, c257, c258, c259, c260, c261, c262, c263, c264, c265, c266, c267, c268, c269, c270, c271, c272, c273, c274, c275, c276, c277, c278, c279, c280, c281, c282, c283, c284, c285, c286, c287, c288, c289, c290, c291, c292, c293, c294, c295, c296, c297, c298, c299, c300, c301, c302, c303, c304, c305, c306, c307, c308, c309, c310, c311, c312, c313, c314, c315, c316, c317, c318, c319, c320, c321, c322, c323, c324, c325, c326, c327, c328, c329, c330, c331, c332, c333, c334, c335, c336, c337, c338, c339, c340], []⟩ := by rw [h18, h17, h16, h15, h14, h13, h12, h11, h10, h9, h8, h7, h6, h5, h4, h3, h2, h1, ha]; kernel_rfl
  show Q .normal (a18.put none undef) _
  rw [show a18.put none undef = a18 from rfl, hF]
  exact H _ hE
end Go.Proofs.Ytacofgmnmofkpaa
