import Derived.Test.YtacofgmnmofkpaaMfal
import Derived.Test.YtacofgmnmofkpaaMfam
namespace Go.Proofs.Ytacofgmnmofkpaa
set_option linter.unusedSimpArgs false
set_option linter.unusedVariables false
open Go.ChangeShapes Go.WideShapes Go.ChangeAt Go.RowKit Go.Pin Go.Fld
noncomputable def rgB6 : Code := ((Try.f17.body.bind (findReg 6)).getD .skip)
noncomputable def opB6 : Array Oper := opsOf rgB6
theorem rgB6_is : rgB6 = .region 6 opB6 true := by kernel_rfl
theorem opB6_ns : Region.noSelect opB6 = true := by kernel_rfl
theorem opB6_0 : opIs opB6 0 (.move (.tmp 0)) (some 22) := by unfold opIs; kernel_rfl
theorem opB6_1 : opIs opB6 1 (.move (.tmp 8)) (some 23) := by unfold opIs; kernel_rfl
theorem opB6_2 : opIs opB6 2 (.fieldAddr 60 (.tmp 5) 4) (some 24) := by unfold opIs; kernel_rfl
theorem opB6_3 : opIs opB6 3 (.load 57 (.tmp 24)) (some 25) := by unfold opIs; kernel_rfl
theorem opB6_4 : opIs opB6 4 (.call { callee := .value (.func 21), args := #[.tmp 25], argTypes := #[57] }) (some 26) := by unfold opIs; kernel_rfl
theorem opB6_5 : opIs opB6 5 (.nilCheck (.tmp 22)) (some 27) := by unfold opIs; kernel_rfl
theorem opB6_6 : opIs opB6 6 (.fieldAddr 53 (.tmp 27) 0) (some 28) := by unfold opIs; kernel_rfl
theorem opB6_7 : opIs opB6 7 (.indexAddr 48 (.tmp 28) (.tmp 23)) (some 29) := by unfold opIs; kernel_rfl
theorem opB6_8 : opIs opB6 8 (.store 47 (.tmp 29) (.tmp 26)) (none) := by unfold opIs; kernel_rfl
set_option maxRecDepth 100000 in
set_option maxHeartbeats 4000000 in
theorem bk_r6 {Q : Exit → Act → World → Prop} {B : Nat} {w W : World} {rv vs : Value} {lr ll : List (Int × Int)} {g gx : Nat} {es : Nat → List Int} {ns : Nat → Nat} {bx : List (Nat × Obj)} {i k c : Nat} {D : List Int} {K0 A0 B0 C0 N T : Int} {z : List Int} {c2 c3 c4 c9 c10 c11 c12 c13 c14 c15 c16 c17 c18 c19 c20 c21 c22 c23 c24 c25 c26 c27 c28 c29 c30 c31 c32 c33 c34 c35 c36 c37 c38 c39 c40 c41 c42 c43 c44 c45 c46 c47 c48 c49 c50 c51 c52 c53 c54 c55 c56 c57 c58 c59 c60 c61 c62 c63 c64 c65 c66 c67 c68 c69 c70 c71 c72 c73 c74 c75 c76 c77 c78 c79 c80 c81 c82 c83 c84 c85 c86 c87 c88 c89 c90 c91 c92 c93 c94 c95 c96 c97 c98 c99 c100 c101 c102 c103 c104 c105 c106 c107 c108 c109 c110 c111 c112 c113 c114 c115 c116 c117 c118 c119 c120 c121 c122 c123 c124 c125 c126 c127 c128 c129 c130 c131 c132 c133 c134 c135 c136 c137 c138 c139 c140 c141 c142 c143 c144 c145 c146 c147 c148 c149 c150 c151 c152 c153 c154 c155 c156 c157 c158 c159 c160 c161 c162 c163 c164 c165 c166 c167 c168 c169 c170 c171 c172 c173 c174 c175 c176 c177 c178 c179 c180 c181 c182 c183 c184 c185 c186 c187 c188 c189 c190 c191 c192 c193 c194 c195 c196 c197 c198 c199 c200 c201 c202 c203 c204 c205 c206 c207 c208 c209 c210 c211 c212 c213 c214 c215 c216 c217 c218 c219 c220 c221 c222 c223 c224 c225 c226 c227 c228 c229 c230 c231 c232 c233 c234 c235 c236 c237 c238 c239 c240 c241 c242 c243 c244 c245 c246 c247 c248 c249 c250 c251 c252 c253 c254 c255 c256 c257 c258 c259 c260 c261 c262 c263 c264 c265 c266 c267 c268 c269 c270 c271 c272 c273 c274 c275 c276 c277 c278 c279 c280 c281 c282 c283 c284 c285 c286 c287 c288 c289 c290 c291 c292 c293 c294 c295 c296 c297 c298 c299 c300 c301 c302 c303 c304 c305 c306 c307 c308 c309 c310 c311 c312 c313 c314 c315 c316 c317 c318 c319 c320 c321 c322 c323 c324 c325 c326 c327 c328 c329 c330 c331 c332 c333 c334 c335 c336 c337 c338 c339 c340 : Value}
    (hi8 : Hid (i < 8)) (hk8 : Hid (k < 8)) (hc8 : Hid (c < 8)) (LD : Hid (D.length = 32))
    (HC : Hid (∀ w, Calls Try.prog 21 #[.agg (VI .u8 D)] w fun e w' => e = .returned (.agg (VI .u64 z)) ∧ Below w.heap.size w w')) (lz : Hid (Lim z))
    (mx : (gx, stO K0 A0 B0 C0 D N T) ∈ bx)
    (XX : SB B w rv lr g es ns vs ll bx W)
    (HPN : ∀ c (a : Act) d v w, Q (.panic c) (a.put d v) w → Q (.panic c) a w)
    (H : ∀ W', SB B w rv lr g (upd es c z) ns vs ll bx W' → Q .normal ⟨#[.pointer (some ⟨g, 0, none⟩), rv, c2, c3, c4, .pointer (some ⟨gx, 0, none⟩), .int .i64 (i : Int), .int .i64 (k : Int), .int .i64 (c : Int), c9, c10, c11, c12, c13, c14, c15, c16, c17, c18, c19, c20, c21, .pointer (some ⟨g, 0, none⟩), .int .i64 (c : Int), .pointer (some ⟨gx, 4, none⟩), .agg (VI .u8 D), .agg (VI .u64 z), .pointer (some ⟨g, 0, none⟩), .pointer (some ⟨g, 0, none⟩), .pointer (some ⟨g, c * 5, none⟩), c30, c31, c32, c33, c34, c35, c36, c37, c38, c39, c40, c41, c42, c43, c44, c45, c46, c47, c48, c49, c50, c51, c52, c53, c54, c55, c56, c57, c58, c59, c60, c61, c62, c63, c64, c65, c66, c67, c68, c69, c70, c71, c72, c73, c74, c75, c76, c77, c78, c79, c80, c81, c82, c83, c84, c85, c86, c87, c88, c89, c90, c91, c92, c93, c94, c95, c96, c97, c98, c99, c100, c101, c102, c103, c104, c105, c106, c107, c108, c109, c110, c111, c112, c113, c114, c115, c116, c117, c118, c119, c120, c121, c122, c123, c124, c125, c126, c127, c128, c129, c130, c131, c132, c133, c134, c135, c136, c137, c138, c139, c140, c141, c142, c143, c144, c145, c146, c147, c148, c149, c150, c151, c152, c153, c154, c155, c156, c157, c158, c159, c160, c161, c162, c163, c164, c165, c166, c167, c168, c169, c170, c171, c172, c173, c174, c175, c176, c177, c178, c179, c180, c181, c182, c183, c184, c185, c186, c187, c188, c189, c190, c191, c192, c193, c194, c195, c196, c197, c198, c199, c200, c201, c202, c203, c204, c205, c206, c207, c208, c209, c210, c211, c212, c213, c214, c215, c216, c217, c218, c219, c220, c221, c222, c223, c224, c225, c226, c227, c228, c229, c230, c231, c232, c233, c234, c235, c236, c237, c238, c239, c240, c241, c242, c243, c244, c245, c246, c247, c248, c249, c250, c251, c252, c253, c254, c255, c256, c257, c258, c259, c260, c261, c262, c263, c264, c265, c266, c267, c268, c269, c270, c271, c272, c273, c274, c275, c276, c277, c278, c279, c280, c281, c282, c283, c284, c285, c286, c287, c288, c289, c290, c291, c292, c293, c294, c295, c296, c297, c298, c299, c300, c301, c302, c303, c304, c305, c306, c307, c308, c309, c310, c311, c312, c313, c314, c315, c316, c317, c318, c319, c320, c321, c322, c323, c324, c325, c326, c327, c328, c329, c330, c331, c332, c333, c334, c335, c336, c337, c338, c339, c340], []⟩ W') :
    Code.wp Try.prog rgB6 Q ⟨#[.pointer (some ⟨g, 0, none⟩), rv, c2, c3, c4, .pointer (some ⟨gx, 0, none⟩), .int .i64 (i : Int), .int .i64 (k : Int), .int .i64 (c : Int), c9, c10, c11, c12, c13, c14, c15, c16, c17, c18, c19, c20, c21, c22, c23, c24, c25, c26, c27, c28, c29, c30, c31, c32, c33, c34, c35, c36, c37, c38, c39, c40, c41, c42, c43, c44, c45, c46, c47, c48, c49, c50, c51, c52, c53, c54, c55, c56, c57, c58, c59, c60, c61, c62, c63, c64, c65, c66, c67, c68, c69, c70, c71, c72, c73, c74, c75, c76, c77, c78, c79, c80, c81, c82, c83, c84, c85, c86, c87, c88, c89, c90, c91, c92, c93, c94, c95, c96, c97, c98, c99, c100, c101, c102, c103, c104, c105, c106, c107, c108, c109, c110, c111, c112, c113, c114, c115, c116, c117, c118, c119, c120, c121, c122, c123, c124, c125, c126, c127, c128, c129, c130, c131, c132, c133, c134, c135, c136, c137, c138, c139, c140, c141, c142, c143, c144, c145, c146, c147, c148, c149, c150, c151, c152, c153, c154, c155, c156, c157, c158, c159, c160, c161, c162, c163, c164, c165, c166, c167, c168, c169, c170, c171, c172, c173, c174, c175, c176, c177, c178, c179, c180, c181, c182, c183, c184, c185, c186, c187, c188, c189, c190, c191, c192, c193, c194, c195, c196, c197, c198, c199, c200, c201, c202, c203, c204, c205, c206, c207, c208, c209, c210, c211, c212, c213, c214, c215, c216, c217, c218, c219, c220, c221, c222, c223, c224, c225, c226, c227, c228, c229, c230, c231, c232, c233, c234, c235, c236, c237, c238, c239, c240, c241, c242, c243, c244, c245, c246, c247, c248, c249, c250, c251, c252, c253, c254, c255, c256, c257, c258, c259, c260, c261, c262, c263, c264, c265, c266, c267, c268, c269, c270, c271, c272, c273, c274, c275, c276, c277, c278, c279, c280, c281, c282, c283, c284, c285, c286, c287, c288, c289, c290, c291, c292, c293, c294, c295, c296, c297, c298, c299, c300, c301, c302, c303, c304, c305, c306, c307, c308, c309, c310, c311, c312, c313, c314, c315, c316, c317, c318, c319, c320, c321, c322, c323, c324, c325, c326, c327, c328, c329, c330, c331, c332, c333, c334, c335, c336, c337, c338, c339, c340], []⟩ W := by
  rw [rgB6_is]
  refine wp_region_held_drew (S := fun Y => Y.heap[gx]? = some (stO K0 A0 B0 C0 D N T)) (by kernel_rfl) (XX.drew.row mx) (fun hH => ?_)
  have hV := XX.drew
  clear XX
  obtain ⟨V0, hV0⟩ : ∃ V, W.drew = V := ⟨_, rfl⟩
  rw [hV0] at hH hV ⊢
  clear hV0
  obtain ⟨a0, ha⟩ : ∃ a : Act, a = ⟨#[.pointer (some ⟨g, 0, none⟩), rv, c2, c3, c4, .pointer (some ⟨gx, 0, none⟩), .int .i64 (i : Int), .int .i64 (k : Int), .int .i64 (c : Int), c9, c10, c11, c12, c13, c14, c15, c16, c17, c18, c19, c20, c21, c22, c23, c24, c25, c26, c27, c28, c29, c30, c31, c32, c33, c34, c35, c36, c37, c38, c39, c40, c41, c42, c43, c44, c45, c46, c47, c48, c49, c50, c51, c52, c53, c54, c55, c56, c57, c58, c59, c60, c61, c62, c63, c64, c65, c66, c67, c68, c69, c70, c71, c72, c73, c74, c75, c76, c77, c78, c79, c80, c81, c82, c83, c84, c85, c86, c87, c88, c89, c90, c91, c92, c93, c94, c95, c96, c97, c98, c99, c100, c101, c102, c103, c104, c105, c106, c107, c108, c109, c110, c111, c112, c113, c114, c115, c116, c117, c118, c119, c120, c121, c122, c123, c124, c125, c126, c127, c128, c129, c130, c131, c132, c133, c134, c135, c136, c137, c138, c139, c140, c141, c142, c143, c144, c145, c146, c147, c148, c149, c150, c151, c152, c153, c154, c155, c156, c157, c158, c159, c160, c161, c162, c163, c164, c165, c166, c167, c168, c169, c170, c171, c172, c173, c174, c175, c176, c177, c178, c179, c180, c181, c182, c183, c184, c185, c186, c187, c188, c189, c190, c191, c192, c193, c194, c195, c196, c197, c198, c199, c200, c201, c202, c203, c204, c205, c206, c207, c208, c209, c210, c211, c212, c213, c214, c215, c216, c217, c218, c219, c220, c221, c222, c223, c224, c225, c226, c227, c228, c229, c230, c231, c232, c233, c234, c235, c236, c237, c238, c239, c240, c241, c242, c243, c244, c245, c246, c247, c248, c249, c250, c251, c252, c253, c254, c255, c256, c257, c258, c259, c260, c261, c262, c263, c264, c265, c266, c267, c268, c269, c270, c271, c272, c273, c274, c275, c276, c277, c278, c279, c280, c281, c282, c283, c284, c285, c286, c287, c288, c289, c290, c291, c292, c293, c294, c295, c296, c297, c298, c299, c300, c301, c302, c303, c304, c305, c306, c307, c308, c309, c310, c311, c312, c313, c314, c315, c316, c317, c318, c319, c320, c321, c322, c323, c324, c325, c326, c327, c328, c329, c330, c331, c332, c333, c334, c335, c336, c337, c338, c339, c340], []⟩ := ⟨_, rfl⟩
  have sz0 : a0.tmps.size = 341 := by rw [ha]; kernel_rfl
  have e0_0 : a0.eval (.tmp 0) = .pointer (some ⟨g, 0, none⟩) := by rw [ha]; kernel_rfl
  have e0_5 : a0.eval (.tmp 5) = .pointer (some ⟨gx, 0, none⟩) := by rw [ha]; kernel_rfl
  have e0_8 : a0.eval (.tmp 8) = .int .i64 (c : Int) := by rw [ha]; kernel_rfl
  rw [← ha]
  refine wpAnyH_as (l' := #[false, false, false, false, false, false, false, false, false]) (by kernel_rfl) ?_
  refine takeH (v := .pointer (some ⟨g, 0, none⟩)) opB6_0 opB6_ns (by kernel_rfl) (by kernel_rfl) HPN (fun w hw o ho => run_move ho e0_0 w) hH ?_
  refine wpAnyH_as (l' := #[true, false, false, false, false, false, false, false, false]) (by kernel_rfl) ?_
  obtain ⟨a1, h1⟩ : ∃ a' : Act, a' = a0.put (some 22) (.pointer (some ⟨g, 0, none⟩)) := ⟨_, rfl⟩
  rw [← h1]
  have sz1 : a1.tmps.size = 341 := by rw [h1, size_put]; exact sz0
  have e1_5 : a1.eval (.tmp 5) = .pointer (some ⟨gx, 0, none⟩) := by rw [h1, eval_put_ne _ _ _ _ (by decide)]; exact e0_5
  have e1_8 : a1.eval (.tmp 8) = .int .i64 (c : Int) := by rw [h1, eval_put_ne _ _ _ _ (by decide)]; exact e0_8
  have e1_22 : a1.eval (.tmp 22) = .pointer (some ⟨g, 0, none⟩) := by rw [h1]; exact eval_put_eq _ _ _ (by rw [sz0]; decide)
  clear e0_0 e0_5 e0_8 sz0
  refine takeH (v := .int .i64 (c : Int)) opB6_1 opB6_ns (by kernel_rfl) (by kernel_rfl) HPN (fun w hw o ho => run_move ho e1_8 w) hH ?_
  refine wpAnyH_as (l' := #[true, true, false, false, false, false, false, false, false]) (by kernel_rfl) ?_
  obtain ⟨a2, h2⟩ : ∃ a' : Act, a' = a1.put (some 23) (.int .i64 (c : Int)) := ⟨_, rfl⟩
  rw [← h2]
  have sz2 : a2.tmps.size = 341 := by rw [h2, size_put]; exact sz1
  have e2_5 : a2.eval (.tmp 5) = .pointer (some ⟨gx, 0, none⟩) := by rw [h2, eval_put_ne _ _ _ _ (by decide)]; exact e1_5
  have e2_22 : a2.eval (.tmp 22) = .pointer (some ⟨g, 0, none⟩) := by rw [h2, eval_put_ne _ _ _ _ (by decide)]; exact e1_22
  have e2_23 : a2.eval (.tmp 23) = .int .i64 (c : Int) := by rw [h2]; exact eval_put_eq _ _ _ (by rw [sz1]; decide)
  clear e1_22 e1_5 e1_8 sz1
  refine takeH (v := .pointer (some ⟨gx, 4, none⟩)) opB6_2 opB6_ns (by kernel_rfl) (by kernel_rfl) HPN (fun w hw o ho => run_stData ho e2_5 w) hH ?_
  refine wpAnyH_as (l' := #[true, true, true, false, false, false, false, false, false]) (by kernel_rfl) ?_
  obtain ⟨a3, h3⟩ : ∃ a' : Act, a' = a2.put (some 24) (.pointer (some ⟨gx, 4, none⟩)) := ⟨_, rfl⟩
  rw [← h3]
  have sz3 : a3.tmps.size = 341 := by rw [h3, size_put]; exact sz2
  have e3_22 : a3.eval (.tmp 22) = .pointer (some ⟨g, 0, none⟩) := by rw [h3, eval_put_ne _ _ _ _ (by decide)]; exact e2_22
  have e3_23 : a3.eval (.tmp 23) = .int .i64 (c : Int) := by rw [h3, eval_put_ne _ _ _ _ (by decide)]; exact e2_23
  have e3_24 : a3.eval (.tmp 24) = .pointer (some ⟨gx, 4, none⟩) := by rw [h3]; exact eval_put_eq _ _ _ (by rw [sz2]; decide)
  clear e2_22 e2_23 e2_5 sz2
  refine takeH (v := .agg (VI .u8 D)) opB6_3 opB6_ns (by kernel_rfl) (by kernel_rfl) HPN (fun w hw o ho => run_loadK LD.out ho e3_24 w (st_data hw LD.out)) hH ?_
  refine wpAnyH_as (l' := #[true, true, true, true, false, false, false, false, false]) (by kernel_rfl) ?_
  obtain ⟨a4, h4⟩ : ∃ a' : Act, a' = a3.put (some 25) (.agg (VI .u8 D)) := ⟨_, rfl⟩
  rw [← h4]
  have sz4 : a4.tmps.size = 341 := by rw [h4, size_put]; exact sz3
  have e4_22 : a4.eval (.tmp 22) = .pointer (some ⟨g, 0, none⟩) := by rw [h4, eval_put_ne _ _ _ _ (by decide)]; exact e3_22
  have e4_23 : a4.eval (.tmp 23) = .int .i64 (c : Int) := by rw [h4, eval_put_ne _ _ _ _ (by decide)]; exact e3_23
  have e4_25 : a4.eval (.tmp 25) = .agg (VI .u8 D) := by rw [h4]; exact eval_put_eq _ _ _ (by rw [sz3]; decide)
  clear e3_22 e3_23 e3_24 sz3
  refine takeH (v := .pointer (some ⟨g, 0, none⟩)) opB6_5 opB6_ns (by kernel_rfl) (by kernel_rfl) HPN (fun w hw o ho => run_nilCheck ho e4_22 w) hH ?_
  refine wpAnyH_as (l' := #[true, true, true, true, false, true, false, false, false]) (by kernel_rfl) ?_
  obtain ⟨a5, h5⟩ : ∃ a' : Act, a' = a4.put (some 27) (.pointer (some ⟨g, 0, none⟩)) := ⟨_, rfl⟩
  rw [← h5]
  have sz5 : a5.tmps.size = 341 := by rw [h5, size_put]; exact sz4
  have e5_23 : a5.eval (.tmp 23) = .int .i64 (c : Int) := by rw [h5, eval_put_ne _ _ _ _ (by decide)]; exact e4_23
  have e5_25 : a5.eval (.tmp 25) = .agg (VI .u8 D) := by rw [h5, eval_put_ne _ _ _ _ (by decide)]; exact e4_25
  have e5_27 : a5.eval (.tmp 27) = .pointer (some ⟨g, 0, none⟩) := by rw [h5]; exact eval_put_eq _ _ _ (by rw [sz4]; decide)
  clear e4_22 e4_23 e4_25 sz4
  refine takeH (v := .pointer (some ⟨g, 0, none⟩)) opB6_6 opB6_ns (by kernel_rfl) (by kernel_rfl) HPN (fun w hw o ho => run_fieldE ho e5_27 w) hH ?_
  refine wpAnyH_as (l' := #[true, true, true, true, false, true, true, false, false]) (by kernel_rfl) ?_
  obtain ⟨a6, h6⟩ : ∃ a' : Act, a' = a5.put (some 28) (.pointer (some ⟨g, 0, none⟩)) := ⟨_, rfl⟩
  rw [← h6]
  have sz6 : a6.tmps.size = 341 := by rw [h6, size_put]; exact sz5
  have e6_23 : a6.eval (.tmp 23) = .int .i64 (c : Int) := by rw [h6, eval_put_ne _ _ _ _ (by decide)]; exact e5_23
  have e6_25 : a6.eval (.tmp 25) = .agg (VI .u8 D) := by rw [h6, eval_put_ne _ _ _ _ (by decide)]; exact e5_25
  have e6_28 : a6.eval (.tmp 28) = .pointer (some ⟨g, 0, none⟩) := by rw [h6]; exact eval_put_eq _ _ _ (by rw [sz5]; decide)
  clear e5_23 e5_25 e5_27 sz5
  refine readyH opB6_4 (by kernel_rfl) (fun o ho hd => wpCall (v := .agg (VI .u64 z)) ho hd (args := #[.agg (VI .u8 D)]) (by simp only [List.map_toArray, List.map_cons, List.map_nil, e6_25] <;> rfl) (fun _ => rfl) (HC.out _) (fun w1 hw1 => ?_))
  have hV1 := hV.below hw1
  refine ⟨hV1.row mx, ?_⟩
  have hH := hV1.row mx
  refine wpAnyH_as (l' := #[true, true, true, true, true, true, true, false, false]) (by kernel_rfl) ?_
  obtain ⟨a7, h7⟩ : ∃ a' : Act, a' = a6.put (some 26) (.agg (VI .u64 z)) := ⟨_, rfl⟩
  rw [← h7]
  have sz7 : a7.tmps.size = 341 := by rw [h7, size_put]; exact sz6
  have e7_23 : a7.eval (.tmp 23) = .int .i64 (c : Int) := by rw [h7, eval_put_ne _ _ _ _ (by decide)]; exact e6_23
  have e7_28 : a7.eval (.tmp 28) = .pointer (some ⟨g, 0, none⟩) := by rw [h7, eval_put_ne _ _ _ _ (by decide)]; exact e6_28
  have e7_26 : a7.eval (.tmp 26) = .agg (VI .u64 z) := by rw [h7]; exact eval_put_eq _ _ _ (by rw [sz6]; decide)
  clear e6_23 e6_25 e6_28 sz6
  refine takeH (v := .pointer (some ⟨g, c * 5, none⟩)) opB6_7 opB6_ns (by kernel_rfl) (by kernel_rfl) HPN (fun w hw o ho => run_indexE hc8.out ho e7_28 e7_23 w) hH ?_
  refine wpAnyH_as (l' := #[true, true, true, true, true, true, true, true, false]) (by kernel_rfl) ?_
  obtain ⟨a8, h8⟩ : ∃ a' : Act, a' = a7.put (some 29) (.pointer (some ⟨g, c * 5, none⟩)) := ⟨_, rfl⟩
  rw [← h8]
  have sz8 : a8.tmps.size = 341 := by rw [h8, size_put]; exact sz7
  have e8_26 : a8.eval (.tmp 26) = .agg (VI .u64 z) := by rw [h8, eval_put_ne _ _ _ _ (by decide)]; exact e7_26
  have e8_29 : a8.eval (.tmp 29) = .pointer (some ⟨g, c * 5, none⟩) := by rw [h8]; exact eval_put_eq _ _ _ (by rw [sz7]; decide)
  clear e7_23 e7_26 e7_28 sz7
  refine readyH opB6_8 (by kernel_rfl) (fun o ho hd => wp_store_mid _ _ _ ho g (c * 5) (VI .u64 z) e8_29 e8_26 (by rw [VI_size, lz.out.len]; exact hV1.bn.thereE hc8.out) (by rw [VI_size, lz.out.len]; kernel_rfl) (VI_one _ _) ?_)
  have hE := hV1.setE hc8.out lz.out
  rw [hd]
  refine ⟨hE.row mx, ?_⟩
  refine wpAnyH_as (l' := #[true, true, true, true, true, true, true, true, true]) (by kernel_rfl) ?_
  refine wpAnyH_done (by kernel_rfl) ?_ _
  have hF : a8 = ⟨#[.pointer (some ⟨g, 0, none⟩), rv, c2, c3, c4, .pointer (some ⟨gx, 0, none⟩), .int .i64 (i : Int), .int .i64 (k : Int), .int .i64 (c : Int), c9, c10, c11, c12, c13, c14, c15, c16, c17, c18, c19, c20, c21, .pointer (some ⟨g, 0, none⟩), .int .i64 (c : Int), .pointer (some ⟨gx, 4, none⟩), .agg (VI .u8 D), .agg (VI .u64 z), .pointer (some ⟨g, 0, none⟩), .pointer (some ⟨g, 0, none⟩), .pointer (some ⟨g, c * 5, none⟩), c30, c31, c32, c33, c34, c35, c36, c37, c38, c39, c40, c41, c42, c43, c44, c45, c46, c47, c48, c49, c50, c51, c52, c53, c54, c55, c56, c57, c58, c59, c60, c61, c62, c63, c64, c65, c66, c67, c68, c69, c70, c71, c72, c73, c74, c75, c76, c77, c78, c79, c80, c81, c82, c83, c84, c85, c86, c87, c88, c89, c90, c91, c92, c93, c94, c95, c96, c97, c98, c99, c100, c101, c102, c103, c104, c105, c106, c107, c108, c109, c110, c111, c112, c113, c114, c115, c116, c117, c118, c119, c120, c121, c122, c123, c124, c125, c126, c127, c128, c129, c130, c131, c132, c133, c134, c135, c136, c137, c138, c139, c140, c141, c142, c143, c144, c145, c146, c147, c148, c149, c150, c151, c152, c153, c154, c155, c156, c157, c158, c159, c160, c161, c162, c163, c164, c165, c166, c167, c168, c169, c170, c171, c172, c173, c174, c175, c176, c177, c178, c179, c180, c181, c182, c183, c184, c185, c186, c187, c188, c189, c190, c191, c192, c193, c194, c195, c196, c197, c198, c199, c200, c201, c202, c203, c204, c205, c206, c207, c208, c209, c210, c211, c212, c213, c214, c215, c216, c217, c218, c219, c220, c221, c222, c223, c224, c225, c226, c227, c228, c229, c230, c231, c232, c233, c234, c235, c236, c237, c238, c239, c240, c241, c242, c243, c244, c245, c246, c247, c248, c249, c250, c251, c252, c253, c254, c255, c256, c257, c258, c259, c260, c261, c262, c263, c264, c265, c266, c267, c268, c269, c270, c271, c272, c273, c274, c275, c276, c277, c278, c279, c280, c281, c282, c283, c284, c285, c286, c287, c288, c289, c290, c291, c292, c293, c294, c295, c296, c297, c298, c299, c300, c301, c302, c303, c304, c305, c306, c307, c308, c309, c310, c311, c312, c313, c314, c315, c316, c317, c318, c319, c320, c321, c322, c323, c324, c325, c326, c327, c328, c329, c330, c331, c332, c333, c334, c335, c336, c337, c338, c339, c340], []⟩ := by rw [h8, h7, h6, h5, h4, h3, h2, h1, ha]; kernel_rfl
  show Q .normal (a8.put none undef) _
  rw [show a8.put none undef = a8 from rfl, hF]
  exact H _ hE
noncomputable def rgB7 : Code := ((Try.f17.body.bind (findReg 7)).getD .skip)
noncomputable def opB7 : Array Oper := opsOf rgB7
theorem rgB7_is : rgB7 = .region 7 opB7 true := by kernel_rfl
theorem opB7_ns : Region.noSelect opB7 = true := by kernel_rfl
theorem opB7_0 : opIs opB7 0 (.move (.tmp 0)) (some 30) := by unfold opIs; kernel_rfl
theorem opB7_1 : opIs opB7 1 (.move (.tmp 8)) (some 31) := by unfold opIs; kernel_rfl
theorem opB7_2 : opIs opB7 2 (.fieldAddr 60 (.tmp 5) 4) (some 32) := by unfold opIs; kernel_rfl
theorem opB7_3 : opIs opB7 3 (.load 57 (.tmp 32)) (some 33) := by unfold opIs; kernel_rfl
theorem opB7_4 : opIs opB7 4 (.call { callee := .value (.func 33), args := #[.tmp 33], argTypes := #[57] }) (some 34) := by unfold opIs; kernel_rfl
theorem opB7_5 : opIs opB7 5 (.nilCheck (.tmp 30)) (some 35) := by unfold opIs; kernel_rfl
theorem opB7_6 : opIs opB7 6 (.fieldAddr 53 (.tmp 35) 1) (some 36) := by unfold opIs; kernel_rfl
theorem opB7_7 : opIs opB7 7 (.indexAddr 51 (.tmp 36) (.tmp 31)) (some 37) := by unfold opIs; kernel_rfl
theorem opB7_8 : opIs opB7 8 (.store 50 (.tmp 37) (.tmp 34)) (none) := by unfold opIs; kernel_rfl
set_option maxRecDepth 100000 in
set_option maxHeartbeats 4000000 in
theorem bk_r7 {Q : Exit → Act → World → Prop} {B : Nat} {w W : World} {rv vs : Value} {lr ll : List (Int × Int)} {g gx : Nat} {es : Nat → List Int} {ns : Nat → Nat} {bx : List (Nat × Obj)} {i k c : Nat} {D : List Int} {K0 A0 B0 C0 N T : Int} {m : Nat} {c2 c3 c4 c9 c10 c11 c12 c13 c14 c15 c16 c17 c18 c19 c20 c21 c22 c23 c24 c25 c26 c27 c28 c29 c30 c31 c32 c33 c34 c35 c36 c37 c38 c39 c40 c41 c42 c43 c44 c45 c46 c47 c48 c49 c50 c51 c52 c53 c54 c55 c56 c57 c58 c59 c60 c61 c62 c63 c64 c65 c66 c67 c68 c69 c70 c71 c72 c73 c74 c75 c76 c77 c78 c79 c80 c81 c82 c83 c84 c85 c86 c87 c88 c89 c90 c91 c92 c93 c94 c95 c96 c97 c98 c99 c100 c101 c102 c103 c104 c105 c106 c107 c108 c109 c110 c111 c112 c113 c114 c115 c116 c117 c118 c119 c120 c121 c122 c123 c124 c125 c126 c127 c128 c129 c130 c131 c132 c133 c134 c135 c136 c137 c138 c139 c140 c141 c142 c143 c144 c145 c146 c147 c148 c149 c150 c151 c152 c153 c154 c155 c156 c157 c158 c159 c160 c161 c162 c163 c164 c165 c166 c167 c168 c169 c170 c171 c172 c173 c174 c175 c176 c177 c178 c179 c180 c181 c182 c183 c184 c185 c186 c187 c188 c189 c190 c191 c192 c193 c194 c195 c196 c197 c198 c199 c200 c201 c202 c203 c204 c205 c206 c207 c208 c209 c210 c211 c212 c213 c214 c215 c216 c217 c218 c219 c220 c221 c222 c223 c224 c225 c226 c227 c228 c229 c230 c231 c232 c233 c234 c235 c236 c237 c238 c239 c240 c241 c242 c243 c244 c245 c246 c247 c248 c249 c250 c251 c252 c253 c254 c255 c256 c257 c258 c259 c260 c261 c262 c263 c264 c265 c266 c267 c268 c269 c270 c271 c272 c273 c274 c275 c276 c277 c278 c279 c280 c281 c282 c283 c284 c285 c286 c287 c288 c289 c290 c291 c292 c293 c294 c295 c296 c297 c298 c299 c300 c301 c302 c303 c304 c305 c306 c307 c308 c309 c310 c311 c312 c313 c314 c315 c316 c317 c318 c319 c320 c321 c322 c323 c324 c325 c326 c327 c328 c329 c330 c331 c332 c333 c334 c335 c336 c337 c338 c339 c340 : Value}
    (hi8 : Hid (i < 8)) (hk8 : Hid (k < 8)) (hc8 : Hid (c < 8)) (LD : Hid (D.length = 32))
    (HC : Hid (∀ w, Calls Try.prog 33 #[.agg (VI .u8 D)] w fun e w' => e = .returned (.agg (VI .i64 (dg m))) ∧ Below w.heap.size w w')) (hm : Hid (m < P)) 
    (mx : (gx, stO K0 A0 B0 C0 D N T) ∈ bx)
    (XX : SB B w rv lr g es ns vs ll bx W)
    (HPN : ∀ c (a : Act) d v w, Q (.panic c) (a.put d v) w → Q (.panic c) a w)
    (H : ∀ W', SB B w rv lr g es (upd ns c m) vs ll bx W' → Q .normal ⟨#[.pointer (some ⟨g, 0, none⟩), rv, c2, c3, c4, .pointer (some ⟨gx, 0, none⟩), .int .i64 (i : Int), .int .i64 (k : Int), .int .i64 (c : Int), c9, c10, c11, c12, c13, c14, c15, c16, c17, c18, c19, c20, c21, c22, c23, c24, c25, c26, c27, c28, c29, .pointer (some ⟨g, 0, none⟩), .int .i64 (c : Int), .pointer (some ⟨gx, 4, none⟩), .agg (VI .u8 D), .agg (VI .i64 (dg m)), .pointer (some ⟨g, 0, none⟩), .pointer (some ⟨g, 40, none⟩), .pointer (some ⟨g, 40 + c * 16, none⟩), c38, c39, c40, c41, c42, c43, c44, c45, c46, c47, c48, c49, c50, c51, c52, c53, c54, c55, c56, c57, c58, c59, c60, c61, c62, c63, c64, c65, c66, c67, c68, c69, c70, c71, c72, c73, c74, c75, c76, c77, c78, c79, c80, c81, c82, c83, c84, c85, c86, c87, c88, c89, c90, c91, c92, c93, c94, c95, c96, c97, c98, c99, c100, c101, c102, c103, c104, c105, c106, c107, c108, c109, c110, c111, c112, c113, c114, c115, c116, c117, c118, c119, c120, c121, c122, c123, c124, c125, c126, c127, c128, c129, c130, c131, c132, c133, c134, c135, c136, c137, c138, c139, c140, c141, c142, c143, c144, c145, c146, c147, c148, c149, c150, c151, c152, c153, c154, c155, c156, c157, c158, c159, c160, c161, c162, c163, c164, c165, c166, c167, c168, c169, c170, c171, c172, c173, c174, c175, c176, c177, c178, c179, c180, c181, c182, c183, c184, c185, c186, c187, c188, c189, c190, c191, c192, c193, c194, c195, c196, c197, c198, c199, c200, c201, c202, c203, c204, c205, c206, c207, c208, c209, c210, c211, c212, c213, c214, c215, c216, c217, c218, c219, c220, c221, c222, c223, c224, c225, c226, c227, c228, c229, c230, c231, c232, c233, c234, c235, c236, c237, c238, c239, c240, c241, c242, c243, c244, c245, c246, c247, c248, c249, c250, c251, c252, c253, c254, c255, c256, c257, c258, c259, c260, c261, c262, c263, c264, c265, c266, c267, c268, c269, c270, c271, c272, c273, c274, c275, c276, c277, c278, c279, c280, c281, c282, c283, c284, c285, c286, c287, c288, c289, c290, c291, c292, c293, c294, c295, c296, c297, c298, c299, c300, c301, c302, c303, c304, c305, c306, c307, c308, c309, c310, c311, c312, c313, c314, c315, c316, c317, c318, c319, c320, c321, c322, c323, c324, c325, c326, c327, c328, c329, c330, c331, c332, c333, c334, c335, c336, c337, c338, c339, c340], []⟩ W') :
    Code.wp Try.prog rgB7 Q ⟨#[.pointer (some ⟨g, 0, none⟩), rv, c2, c3, c4, .pointer (some ⟨gx, 0, none⟩), .int .i64 (i : Int), .int .i64 (k : Int), .int .i64 (c : Int), c9, c10, c11, c12, c13, c14, c15, c16, c17, c18, c19, c20, c21, c22, c23, c24, c25, c26, c27, c28, c29, c30, c31, c32, c33, c34, c35, c36, c37, c38, c39, c40, c41, c42, c43, c44, c45, c46, c47, c48, c49, c50, c51, c52, c53, c54, c55, c56, c57, c58, c59, c60, c61, c62, c63, c64, c65, c66, c67, c68, c69, c70, c71, c72, c73, c74, c75, c76, c77, c78, c79, c80, c81, c82, c83, c84, c85, c86, c87, c88, c89, c90, c91, c92, c93, c94, c95, c96, c97, c98, c99, c100, c101, c102, c103, c104, c105, c106, c107, c108, c109, c110, c111, c112, c113, c114, c115, c116, c117, c118, c119, c120, c121, c122, c123, c124, c125, c126, c127, c128, c129, c130, c131, c132, c133, c134, c135, c136, c137, c138, c139, c140, c141, c142, c143, c144, c145, c146, c147, c148, c149, c150, c151, c152, c153, c154, c155, c156, c157, c158, c159, c160, c161, c162, c163, c164, c165, c166, c167, c168, c169, c170, c171, c172, c173, c174, c175, c176, c177, c178, c179, c180, c181, c182, c183, c184, c185, c186, c187, c188, c189, c190, c191, c192, c193, c194, c195, c196, c197, c198, c199, c200, c201, c202, c203, c204, c205, c206, c207, c208, c209, c210, c211, c212, c213, c214, c215, c216, c217, c218, c219, c220, c221, c222, c223, c224, c225, c226, c227, c228, c229, c230, c231, c232, c233, c234, c235, c236, c237, c238, c239, c240, c241, c242, c243, c244, c245, c246, c247, c248, c249, c250, c251, c252, c253, c254, c255, c256, c257, c258, c259, c260, c261, c262, c263, c264, c265, c266, c267, c268, c269, c270, c271, c272, c273, c274, c275, c276, c277, c278, c279, c280, c281, c282, c283, c284, c285, c286, c287, c288, c289, c290, c291, c292, c293, c294, c295, c296, c297, c298, c299, c300, c301, c302, c303, c304, c305, c306, c307, c308, c309, c310, c311, c312, c313, c314, c315, c316, c317, c318, c319, c320, c321, c322, c323, c324, c325, c326, c327, c328, c329, c330, c331, c332, c333, c334, c335, c336, c337, c338, c339, c340], []⟩ W := by
  rw [rgB7_is]
  refine wp_region_held_drew (S := fun Y => Y.heap[gx]? = some (stO K0 A0 B0 C0 D N T)) (by kernel_rfl) (XX.drew.row mx) (fun hH => ?_)
  have hV := XX.drew
  clear XX
  obtain ⟨V0, hV0⟩ : ∃ V, W.drew = V := ⟨_, rfl⟩
  rw [hV0] at hH hV ⊢
  clear hV0
  obtain ⟨a0, ha⟩ : ∃ a : Act, a = ⟨#[.pointer (some ⟨g, 0, none⟩), rv, c2, c3, c4, .pointer (some ⟨gx, 0, none⟩), .int .i64 (i : Int), .int .i64 (k : Int), .int .i64 (c : Int), c9, c10, c11, c12, c13, c14, c15, c16, c17, c18, c19, c20, c21, c22, c23, c24, c25, c26, c27, c28, c29, c30, c31, c32, c33, c34, c35, c36, c37, c38, c39, c40, c41, c42, c43, c44, c45, c46, c47, c48, c49, c50, c51, c52, c53, c54, c55, c56, c57, c58, c59, c60, c61, c62, c63, c64, c65, c66, c67, c68, c69, c70, c71, c72, c73, c74, c75, c76, c77, c78, c79, c80, c81, c82, c83, c84, c85, c86, c87, c88, c89, c90, c91, c92, c93, c94, c95, c96, c97, c98, c99, c100, c101, c102, c103, c104, c105, c106, c107, c108, c109, c110, c111, c112, c113, c114, c115, c116, c117, c118, c119, c120, c121, c122, c123, c124, c125, c126, c127, c128, c129, c130, c131, c132, c133, c134, c135, c136, c137, c138, c139, c140, c141, c142, c143, c144, c145, c146, c147, c148, c149, c150, c151, c152, c153, c154, c155, c156, c157, c158, c159, c160, c161, c162, c163, c164, c165, c166, c167, c168, c169, c170, c171, c172, c173, c174, c175, c176, c177, c178, c179, c180, c181, c182, c183, c184, c185, c186, c187, c188, c189, c190, c191, c192, c193, c194, c195, c196, c197, c198, c199, c200, c201, c202, c203, c204, c205, c206, c207, c208, c209, c210, c211, c212, c213, c214, c215, c216, c217, c218, c219, c220, c221, c222, c223, c224, c225, c226, c227, c228, c229, c230, c231, c232, c233, c234, c235, c236, c237, c238, c239, c240, c241, c242, c243, c244, c245, c246, c247, c248, c249, c250, c251, c252, c253, c254, c255, c256, c257, c258, c259, c260, c261, c262, c263, c264, c265, c266, c267, c268, c269, c270, c271, c272, c273, c274, c275, c276, c277, c278, c279, c280, c281, c282, c283, c284, c285, c286, c287, c288, c289, c290, c291, c292, c293, c294, c295, c296, c297, c298, c299, c300, c301, c302, c303, c304, c305, c306, c307, c308, c309, c310, c311, c312, c313, c314, c315, c316, c317, c318, c319, c320, c321, c322, c323, c324, c325, c326, c327, c328, c329, c330, c331, c332, c333, c334, c335, c336, c337, c338, c339, c340], []⟩ := ⟨_, rfl⟩
  have sz0 : a0.tmps.size = 341 := by rw [ha]; kernel_rfl
  have e0_0 : a0.eval (.tmp 0) = .pointer (some ⟨g, 0, none⟩) := by rw [ha]; kernel_rfl
  have e0_5 : a0.eval (.tmp 5) = .pointer (some ⟨gx, 0, none⟩) := by rw [ha]; kernel_rfl
  have e0_8 : a0.eval (.tmp 8) = .int .i64 (c : Int) := by rw [ha]; kernel_rfl
  rw [← ha]
  refine wpAnyH_as (l' := #[false, false, false, false, false, false, false, false, false]) (by kernel_rfl) ?_
  refine takeH (v := .pointer (some ⟨g, 0, none⟩)) opB7_0 opB7_ns (by kernel_rfl) (by kernel_rfl) HPN (fun w hw o ho => run_move ho e0_0 w) hH ?_
  refine wpAnyH_as (l' := #[true, false, false, false, false, false, false, false, false]) (by kernel_rfl) ?_
  obtain ⟨a1, h1⟩ : ∃ a' : Act, a' = a0.put (some 30) (.pointer (some ⟨g, 0, none⟩)) := ⟨_, rfl⟩
  rw [← h1]
  have sz1 : a1.tmps.size = 341 := by rw [h1, size_put]; exact sz0
  have e1_5 : a1.eval (.tmp 5) = .pointer (some ⟨gx, 0, none⟩) := by rw [h1, eval_put_ne _ _ _ _ (by decide)]; exact e0_5
  have e1_8 : a1.eval (.tmp 8) = .int .i64 (c : Int) := by rw [h1, eval_put_ne _ _ _ _ (by decide)]; exact e0_8
  have e1_30 : a1.eval (.tmp 30) = .pointer (some ⟨g, 0, none⟩) := by rw [h1]; exact eval_put_eq _ _ _ (by rw [sz0]; decide)
  clear e0_0 e0_5 e0_8 sz0
  refine takeH (v := .int .i64 (c : Int)) opB7_1 opB7_ns (by kernel_rfl) (by kernel_rfl) HPN (fun w hw o ho => run_move ho e1_8 w) hH ?_
  refine wpAnyH_as (l' := #[true, true, false, false, false, false, false, false, false]) (by kernel_rfl) ?_
  obtain ⟨a2, h2⟩ : ∃ a' : Act, a' = a1.put (some 31) (.int .i64 (c : Int)) := ⟨_, rfl⟩
  rw [← h2]
  have sz2 : a2.tmps.size = 341 := by rw [h2, size_put]; exact sz1
  have e2_5 : a2.eval (.tmp 5) = .pointer (some ⟨gx, 0, none⟩) := by rw [h2, eval_put_ne _ _ _ _ (by decide)]; exact e1_5
  have e2_30 : a2.eval (.tmp 30) = .pointer (some ⟨g, 0, none⟩) := by rw [h2, eval_put_ne _ _ _ _ (by decide)]; exact e1_30
  have e2_31 : a2.eval (.tmp 31) = .int .i64 (c : Int) := by rw [h2]; exact eval_put_eq _ _ _ (by rw [sz1]; decide)
  clear e1_30 e1_5 e1_8 sz1
  refine takeH (v := .pointer (some ⟨gx, 4, none⟩)) opB7_2 opB7_ns (by kernel_rfl) (by kernel_rfl) HPN (fun w hw o ho => run_stData ho e2_5 w) hH ?_
  refine wpAnyH_as (l' := #[true, true, true, false, false, false, false, false, false]) (by kernel_rfl) ?_
  obtain ⟨a3, h3⟩ : ∃ a' : Act, a' = a2.put (some 32) (.pointer (some ⟨gx, 4, none⟩)) := ⟨_, rfl⟩
  rw [← h3]
  have sz3 : a3.tmps.size = 341 := by rw [h3, size_put]; exact sz2
  have e3_30 : a3.eval (.tmp 30) = .pointer (some ⟨g, 0, none⟩) := by rw [h3, eval_put_ne _ _ _ _ (by decide)]; exact e2_30
  have e3_31 : a3.eval (.tmp 31) = .int .i64 (c : Int) := by rw [h3, eval_put_ne _ _ _ _ (by decide)]; exact e2_31
  have e3_32 : a3.eval (.tmp 32) = .pointer (some ⟨gx, 4, none⟩) := by rw [h3]; exact eval_put_eq _ _ _ (by rw [sz2]; decide)
  clear e2_30 e2_31 e2_5 sz2
  refine takeH (v := .agg (VI .u8 D)) opB7_3 opB7_ns (by kernel_rfl) (by kernel_rfl) HPN (fun w hw o ho => run_loadK LD.out ho e3_32 w (st_data hw LD.out)) hH ?_
  refine wpAnyH_as (l' := #[true, true, true, true, false, false, false, false, false]) (by kernel_rfl) ?_
  obtain ⟨a4, h4⟩ : ∃ a' : Act, a' = a3.put (some 33) (.agg (VI .u8 D)) := ⟨_, rfl⟩
  rw [← h4]
  have sz4 : a4.tmps.size = 341 := by rw [h4, size_put]; exact sz3
  have e4_30 : a4.eval (.tmp 30) = .pointer (some ⟨g, 0, none⟩) := by rw [h4, eval_put_ne _ _ _ _ (by decide)]; exact e3_30
  have e4_31 : a4.eval (.tmp 31) = .int .i64 (c : Int) := by rw [h4, eval_put_ne _ _ _ _ (by decide)]; exact e3_31
  have e4_33 : a4.eval (.tmp 33) = .agg (VI .u8 D) := by rw [h4]; exact eval_put_eq _ _ _ (by rw [sz3]; decide)
  clear e3_30 e3_31 e3_32 sz3
  refine takeH (v := .pointer (some ⟨g, 0, none⟩)) opB7_5 opB7_ns (by kernel_rfl) (by kernel_rfl) HPN (fun w hw o ho => run_nilCheck ho e4_30 w) hH ?_
  refine wpAnyH_as (l' := #[true, true, true, true, false, true, false, false, false]) (by kernel_rfl) ?_
  obtain ⟨a5, h5⟩ : ∃ a' : Act, a' = a4.put (some 35) (.pointer (some ⟨g, 0, none⟩)) := ⟨_, rfl⟩
  rw [← h5]
  have sz5 : a5.tmps.size = 341 := by rw [h5, size_put]; exact sz4
  have e5_31 : a5.eval (.tmp 31) = .int .i64 (c : Int) := by rw [h5, eval_put_ne _ _ _ _ (by decide)]; exact e4_31
  have e5_33 : a5.eval (.tmp 33) = .agg (VI .u8 D) := by rw [h5, eval_put_ne _ _ _ _ (by decide)]; exact e4_33
  have e5_35 : a5.eval (.tmp 35) = .pointer (some ⟨g, 0, none⟩) := by rw [h5]; exact eval_put_eq _ _ _ (by rw [sz4]; decide)
  clear e4_30 e4_31 e4_33 sz4
  refine takeH (v := .pointer (some ⟨g, 40, none⟩)) opB7_6 opB7_ns (by kernel_rfl) (by kernel_rfl) HPN (fun w hw o ho => run_fieldN ho e5_35 w) hH ?_
  refine wpAnyH_as (l' := #[true, true, true, true, false, true, true, false, false]) (by kernel_rfl) ?_
  obtain ⟨a6, h6⟩ : ∃ a' : Act, a' = a5.put (some 36) (.pointer (some ⟨g, 40, none⟩)) := ⟨_, rfl⟩
  rw [← h6]
  have sz6 : a6.tmps.size = 341 := by rw [h6, size_put]; exact sz5
  have e6_31 : a6.eval (.tmp 31) = .int .i64 (c : Int) := by rw [h6, eval_put_ne _ _ _ _ (by decide)]; exact e5_31
  have e6_33 : a6.eval (.tmp 33) = .agg (VI .u8 D) := by rw [h6, eval_put_ne _ _ _ _ (by decide)]; exact e5_33
  have e6_36 : a6.eval (.tmp 36) = .pointer (some ⟨g, 40, none⟩) := by rw [h6]; exact eval_put_eq _ _ _ (by rw [sz5]; decide)
  clear e5_31 e5_33 e5_35 sz5
  refine readyH opB7_4 (by kernel_rfl) (fun o ho hd => wpCall (v := .agg (VI .i64 (dg m))) ho hd (args := #[.agg (VI .u8 D)]) (by simp only [List.map_toArray, List.map_cons, List.map_nil, e6_33] <;> rfl) (fun _ => rfl) (HC.out _) (fun w1 hw1 => ?_))
  have hV1 := hV.below hw1
  refine ⟨hV1.row mx, ?_⟩
  have hH := hV1.row mx
  refine wpAnyH_as (l' := #[true, true, true, true, true, true, true, false, false]) (by kernel_rfl) ?_
  obtain ⟨a7, h7⟩ : ∃ a' : Act, a' = a6.put (some 34) (.agg (VI .i64 (dg m))) := ⟨_, rfl⟩
  rw [← h7]
  have sz7 : a7.tmps.size = 341 := by rw [h7, size_put]; exact sz6
  have e7_31 : a7.eval (.tmp 31) = .int .i64 (c : Int) := by rw [h7, eval_put_ne _ _ _ _ (by decide)]; exact e6_31
  have e7_36 : a7.eval (.tmp 36) = .pointer (some ⟨g, 40, none⟩) := by rw [h7, eval_put_ne _ _ _ _ (by decide)]; exact e6_36
  have e7_34 : a7.eval (.tmp 34) = .agg (VI .i64 (dg m)) := by rw [h7]; exact eval_put_eq _ _ _ (by rw [sz6]; decide)
  clear e6_31 e6_33 e6_36 sz6
  refine takeH (v := .pointer (some ⟨g, 40 + c * 16, none⟩)) opB7_7 opB7_ns (by kernel_rfl) (by kernel_rfl) HPN (fun w hw o ho => run_indexN hc8.out ho e7_36 e7_31 w) hH ?_
  refine wpAnyH_as (l' := #[true, true, true, true, true, true, true, true, false]) (by kernel_rfl) ?_
  obtain ⟨a8, h8⟩ : ∃ a' : Act, a' = a7.put (some 37) (.pointer (some ⟨g, 40 + c * 16, none⟩)) := ⟨_, rfl⟩
  rw [← h8]
  have sz8 : a8.tmps.size = 341 := by rw [h8, size_put]; exact sz7
  have e8_34 : a8.eval (.tmp 34) = .agg (VI .i64 (dg m)) := by rw [h8, eval_put_ne _ _ _ _ (by decide)]; exact e7_34
  have e8_37 : a8.eval (.tmp 37) = .pointer (some ⟨g, 40 + c * 16, none⟩) := by rw [h8]; exact eval_put_eq _ _ _ (by rw [sz7]; decide)
  clear e7_31 e7_34 e7_36 sz7
  refine readyH opB7_8 (by kernel_rfl) (fun o ho hd => wp_store_mid _ _ _ ho g (40 + c * 16) (VI .i64 (dg m)) e8_37 e8_34 (by rw [VI_size, dg_len]; exact hV1.bn.thereN hc8.out) (by rw [VI_size, dg_len]; kernel_rfl) (VI_one _ _) ?_)
  have hE := hV1.setN hc8.out hm.out
  rw [hd]
  refine ⟨hE.row mx, ?_⟩
  refine wpAnyH_as (l' := #[true, true, true, true, true, true, true, true, true]) (by kernel_rfl) ?_
  refine wpAnyH_done (by kernel_rfl) ?_ _
  have hF : a8 = ⟨#[.pointer (some ⟨g, 0, none⟩), rv, c2, c3, c4, .pointer (some ⟨gx, 0, none⟩), .int .i64 (i : Int), .int .i64 (k : Int), .int .i64 (c : Int), c9, c10, c11, c12, c13, c14, c15, c16, c17, c18, c19, c20, c21, c22, c23, c24, c25, c26, c27, c28, c29, .pointer (some ⟨g, 0, none⟩), .int .i64 (c : Int), .pointer (some ⟨gx, 4, none⟩), .agg (VI .u8 D), .agg (VI .i64 (dg m)), .pointer (some ⟨g, 0, none⟩), .pointer (some ⟨g, 40, none⟩), .pointer (some ⟨g, 40 + c * 16, none⟩), c38, c39, c40, c41, c42, c43, c44, c45, c46, c47, c48, c49, c50, c51, c52, c53, c54, c55, c56, c57, c58, c59, c60, c61, c62, c63, c64, c65, c66, c67, c68, c69, c70, c71, c72, c73, c74, c75, c76, c77, c78, c79, c80, c81, c82, c83, c84, c85, c86, c87, c88, c89, c90, c91, c92, c93, c94, c95, c96, c97, c98, c99, c100, c101, c102, c103, c104, c105, c106, c107, c108, c109, c110, c111, c112, c113, c114, c115, c116, c117, c118, c119, c120, c121, c122, c123, c124, c125, c126, c127, c128, c129, c130, c131, c132, c133, c134, c135, c136, c137, c138, c139, c140, c141, c142, c143, c144, c145, c146, c147, c148, c149, c150, c151, c152, c153, c154, c155, c156, c157, c158, c159, c160, c161, c162, c163, c164, c165, c166, c167, c168, c169, c170, c171, c172, c173, c174, c175, c176, c177, c178, c179, c180, c181, c182, c183, c184, c185, c186, c187, c188, c189, c190, c191, c192, c193, c194, c195, c196, c197, c198, c199, c200, c201, c202, c203, c204, c205, c206, c207, c208, c209, c210, c211, c212, c213, c214, c215, c216, c217, c218, c219, c220, c221, c222, c223, c224, c225, c226, c227, c228, c229, c230, c231, c232, c233, c234, c235, c236, c237, c238, c239, c240, c241, c242, c243, c244, c245, c246, c247, c248, c249, c250, c251, c252, c253, c254, c255, c256, c257, c258, c259, c260, c261, c262, c263, c264, c265, c266, c267, c268, c269, c270, c271, c272, c273, c274, c275, c276, c277, c278, c279, c280, c281, c282, c283, c284, c285, c286, c287, c288, c289, c290, c291, c292, c293, c294, c295, c296, c297, c298, c299, c300, c301, c302, c303, c304, c305, c306, c307, c308, c309, c310, c311, c312, c313, c314, c315, c316, c317, c318, c319, c320, c321, c322, c323, c324, c325, c326, c327, c328, c329, c330, c331, c332, c333, c334, c335, c336, c337, c338, c339, c340], []⟩ := by rw [h8, h7, h6, h5, h4, h3, h2, h1, ha]; kernel_rfl
  show Q .normal (a8.put none undef) _
  rw [show a8.put none undef = a8 from rfl, hF]
  exact H _ hE
noncomputable def rgB9 : Code := ((Try.f17.body.bind (findReg 9)).getD .skip)
noncomputable def opB9 : Array Oper := opsOf rgB9
theorem rgB9_is : rgB9 = .region 9 opB9 true := by kernel_rfl
theorem opB9_ns : Region.noSelect opB9 = true := by kernel_rfl
theorem opB9_0 : opIs opB9 0 (.move (.tmp 0)) (some 40) := by unfold opIs; kernel_rfl
theorem opB9_1 : opIs opB9 1 (.move (.tmp 8)) (some 41) := by unfold opIs; kernel_rfl
theorem opB9_2 : opIs opB9 2 (.move (.tmp 1)) (some 42) := by unfold opIs; kernel_rfl
theorem opB9_3 : opIs opB9 3 (.move (.tmp 0)) (some 43) := by unfold opIs; kernel_rfl
theorem opB9_4 : opIs opB9 4 (.move (.tmp 6)) (some 44) := by unfold opIs; kernel_rfl
theorem opB9_5 : opIs opB9 5 (.nilCheck (.tmp 43)) (some 45) := by unfold opIs; kernel_rfl
theorem opB9_6 : opIs opB9 6 (.fieldAddr 53 (.tmp 45) 0) (some 46) := by unfold opIs; kernel_rfl
theorem opB9_7 : opIs opB9 7 (.indexAddr 48 (.tmp 46) (.tmp 44)) (some 47) := by unfold opIs; kernel_rfl
theorem opB9_8 : opIs opB9 8 (.load 47 (.tmp 47)) (some 48) := by unfold opIs; kernel_rfl
theorem opB9_9 : opIs opB9 9 (.move (.tmp 0)) (some 49) := by unfold opIs; kernel_rfl
theorem opB9_10 : opIs opB9 10 (.move (.tmp 7)) (some 50) := by unfold opIs; kernel_rfl
theorem opB9_11 : opIs opB9 11 (.nilCheck (.tmp 49)) (some 51) := by unfold opIs; kernel_rfl
theorem opB9_12 : opIs opB9 12 (.fieldAddr 53 (.tmp 51) 0) (some 52) := by unfold opIs; kernel_rfl
theorem opB9_13 : opIs opB9 13 (.indexAddr 48 (.tmp 52) (.tmp 50)) (some 53) := by unfold opIs; kernel_rfl
theorem opB9_14 : opIs opB9 14 (.load 47 (.tmp 53)) (some 54) := by unfold opIs; kernel_rfl
theorem opB9_15 : opIs opB9 15 (.call { callee := .value (.func 34), args := #[.tmp 42, .tmp 48, .tmp 54], argTypes := #[23, 47, 47] }) (some 55) := by unfold opIs; kernel_rfl
theorem opB9_16 : opIs opB9 16 (.nilCheck (.tmp 40)) (some 56) := by unfold opIs; kernel_rfl
theorem opB9_17 : opIs opB9 17 (.fieldAddr 53 (.tmp 56) 0) (some 57) := by unfold opIs; kernel_rfl
theorem opB9_18 : opIs opB9 18 (.indexAddr 48 (.tmp 57) (.tmp 41)) (some 58) := by unfold opIs; kernel_rfl
theorem opB9_19 : opIs opB9 19 (.store 47 (.tmp 58) (.tmp 55)) (none) := by unfold opIs; kernel_rfl
set_option maxRecDepth 100000 in
set_option maxHeartbeats 4000000 in
theorem bk_r9 {Q : Exit → Act → World → Prop} {B : Nat} {w W : World} {rv vs : Value} {lr ll : List (Int × Int)} {g gx : Nat} {es : Nat → List Int} {ns : Nat → Nat} {bx : List (Nat × Obj)} {i k c : Nat} {D : List Int} {K0 A0 B0 C0 N T : Int} {z : List Int} {c2 c3 c4 c9 c10 c11 c12 c13 c14 c15 c16 c17 c18 c19 c20 c21 c22 c23 c24 c25 c26 c27 c28 c29 c30 c31 c32 c33 c34 c35 c36 c37 c38 c39 c40 c41 c42 c43 c44 c45 c46 c47 c48 c49 c50 c51 c52 c53 c54 c55 c56 c57 c58 c59 c60 c61 c62 c63 c64 c65 c66 c67 c68 c69 c70 c71 c72 c73 c74 c75 c76 c77 c78 c79 c80 c81 c82 c83 c84 c85 c86 c87 c88 c89 c90 c91 c92 c93 c94 c95 c96 c97 c98 c99 c100 c101 c102 c103 c104 c105 c106 c107 c108 c109 c110 c111 c112 c113 c114 c115 c116 c117 c118 c119 c120 c121 c122 c123 c124 c125 c126 c127 c128 c129 c130 c131 c132 c133 c134 c135 c136 c137 c138 c139 c140 c141 c142 c143 c144 c145 c146 c147 c148 c149 c150 c151 c152 c153 c154 c155 c156 c157 c158 c159 c160 c161 c162 c163 c164 c165 c166 c167 c168 c169 c170 c171 c172 c173 c174 c175 c176 c177 c178 c179 c180 c181 c182 c183 c184 c185 c186 c187 c188 c189 c190 c191 c192 c193 c194 c195 c196 c197 c198 c199 c200 c201 c202 c203 c204 c205 c206 c207 c208 c209 c210 c211 c212 c213 c214 c215 c216 c217 c218 c219 c220 c221 c222 c223 c224 c225 c226 c227 c228 c229 c230 c231 c232 c233 c234 c235 c236 c237 c238 c239 c240 c241 c242 c243 c244 c245 c246 c247 c248 c249 c250 c251 c252 c253 c254 c255 c256 c257 c258 c259 c260 c261 c262 c263 c264 c265 c266 c267 c268 c269 c270 c271 c272 c273 c274 c275 c276 c277 c278 c279 c280 c281 c282 c283 c284 c285 c286 c287 c288 c289 c290 c291 c292 c293 c294 c295 c296 c297 c298 c299 c300 c301 c302 c303 c304 c305 c306 c307 c308 c309 c310 c311 c312 c313 c314 c315 c316 c317 c318 c319 c320 c321 c322 c323 c324 c325 c326 c327 c328 c329 c330 c331 c332 c333 c334 c335 c336 c337 c338 c339 c340 : Value}
    (hi8 : Hid (i < 8)) (hk8 : Hid (k < 8)) (hc8 : Hid (c < 8)) (LD : Hid (D.length = 32))
    (HC : Hid (∀ B w rv l bx wr, Ev B w rv l bx wr → l.length ≤ 1000000 → Calls Try.prog 34 #[rv, .agg (VI .u64 (es i)), .agg (VI .u64 (es k))] wr fun e w' => e = .returned (.agg (VI .u64 z)) ∧ Ev B w rv (l ++ [(3, 1)]) bx w')) (hl : Hid (lr.length ≤ 1000000)) (lz : Hid (Lim z))
    (mx : (gx, stO K0 A0 B0 C0 D N T) ∈ bx)
    (XX : SB B w rv lr g es ns vs ll bx W)
    (HPN : ∀ c (a : Act) d v w, Q (.panic c) (a.put d v) w → Q (.panic c) a w)
    (H : ∀ W', SB B w rv (lr ++ [(3, 1)]) g (upd es c z) ns vs ll bx W' → Q .normal ⟨#[.pointer (some ⟨g, 0, none⟩), rv, c2, c3, c4, .pointer (some ⟨gx, 0, none⟩), .int .i64 (i : Int), .int .i64 (k : Int), .int .i64 (c : Int), c9, c10, c11, c12, c13, c14, c15, c16, c17, c18, c19, c20, c21, c22, c23, c24, c25, c26, c27, c28, c29, c30, c31, c32, c33, c34, c35, c36, c37, c38, c39, .pointer (some ⟨g, 0, none⟩), .int .i64 (c : Int), rv, .pointer (some ⟨g, 0, none⟩), .int .i64 (i : Int), .pointer (some ⟨g, 0, none⟩), .pointer (some ⟨g, 0, none⟩), .pointer (some ⟨g, i * 5, none⟩), .agg (VI .u64 (es i)), .pointer (some ⟨g, 0, none⟩), .int .i64 (k : Int), .pointer (some ⟨g, 0, none⟩), .pointer (some ⟨g, 0, none⟩), .pointer (some ⟨g, k * 5, none⟩), .agg (VI .u64 (es k)), .agg (VI .u64 z), .pointer (some ⟨g, 0, none⟩), .pointer (some ⟨g, 0, none⟩), .pointer (some ⟨g, c * 5, none⟩), c59, c60, c61, c62, c63, c64, c65, c66, c67, c68, c69, c70, c71, c72, c73, c74, c75, c76, c77, c78, c79, c80, c81, c82, c83, c84, c85, c86, c87, c88, c89, c90, c91, c92, c93, c94, c95, c96, c97, c98, c99, c100, c101, c102, c103, c104, c105, c106, c107, c108, c109, c110, c111, c112, c113, c114, c115, c116, c117, c118, c119, c120, c121, c122, c123, c124, c125, c126, c127, c128, c129, c130, c131, c132, c133, c134, c135, c136, c137, c138, c139, c140, c141, c142, c143, c144, c145, c146, c147, c148, c149, c150, c151, c152, c153, c154, c155, c156, c157, c158, c159, c160, c161, c162, c163, c164, c165, c166, c167, c168, c169, c170, c171, c172, c173, c174, c175, c176, c177, c178, c179, c180, c181, c182, c183, c184, c185, c186, c187, c188, c189, c190, c191, c192, c193, c194, c195, c196, c197, c198, c199, c200, c201, c202, c203, c204, c205, c206, c207, c208, c209, c210, c211, c212, c213, c214, c215, c216, c217, c218, c219, c220, c221, c222, c223, c224, c225, c226, c227, c228, c229, c230, c231, c232, c233, c234, c235, c236, c237, c238, c239, c240, c241, c242, c243, c244, c245, c246, c247, c248, c249, c250, c251, c252, c253, c254, c255, c256, c257, c258, c259, c260, c261, c262, c263, c264, c265, c266, c267, c268, c269, c270, c271, c272, c273, c274, c275, c276, c277, c278, c279, c280, c281, c282, c283, c284, c285, c286, c287, c288, c289, c290, c291, c292, c293, c294, c295, c296, c297, c298, c299, c300, c301, c302, c303, c304, c305, c306, c307, c308, c309, c310, c311, c312, c313, c314, c315, c316, c317, c318, c319, c320, c321, c322, c323, c324, c325, c326, c327, c328, c329, c330, c331, c332, c333, c334, c335, c336, c337, c338, c339, c340], []⟩ W') :
    Code.wp Try.prog rgB9 Q ⟨#[.pointer (some ⟨g, 0, none⟩), rv, c2, c3, c4, .pointer (some ⟨gx, 0, none⟩), .int .i64 (i : Int), .int .i64 (k : Int), .int .i64 (c : Int), c9, c10, c11, c12, c13, c14, c15, c16, c17, c18, c19, c20, c21, c22, c23, c24, c25, c26, c27, c28, c29, c30, c31, c32, c33, c34, c35, c36, c37, c38, c39, c40, c41, c42, c43, c44, c45, c46, c47, c48, c49, c50, c51, c52, c53, c54, c55, c56, c57, c58, c59, c60, c61, c62, c63, c64, c65, c66, c67, c68, c69, c70, c71, c72, c73, c74, c75, c76, c77, c78, c79, c80, c81, c82, c83, c84, c85, c86, c87, c88, c89, c90, c91, c92, c93, c94, c95, c96, c97, c98, c99, c100, c101, c102, c103, c104, c105, c106, c107, c108, c109, c110, c111, c112, c113, c114, c115, c116, c117, c118, c119, c120, c121, c122, c123, c124, c125, c126, c127, c128, c129, c130, c131, c132, c133, c134, c135, c136, c137, c138, c139, c140, c141, c142, c143, c144, c145, c146, c147, c148, c149, c150, c151, c152, c153, c154, c155, c156, c157, c158, c159, c160, c161, c162, c163, c164, c165, c166, c167, c168, c169, c170, c171, c172, c173, c174, c175, c176, c177, c178, c179, c180, c181, c182, c183, c184, c185, c186, c187, c188, c189, c190, c191, c192, c193, c194, c195, c196, c197, c198, c199, c200, c201, c202, c203, c204, c205, c206, c207, c208, c209, c210, c211, c212, c213, c214, c215, c216, c217, c218, c219, c220, c221, c222, c223, c224, c225, c226, c227, c228, c229, c230, c231, c232, c233, c234, c235, c236, c237, c238, c239, c240, c241, c242, c243, c244, c245, c246, c247, c248, c249, c250, c251, c252, c253, c254, c255, c256, c257, c258, c259, c260, c261, c262, c263, c264, c265, c266, c267, c268, c269, c270, c271, c272, c273, c274, c275, c276, c277, c278, c279, c280, c281, c282, c283, c284, c285, c286, c287, c288, c289, c290, c291, c292, c293, c294, c295, c296, c297, c298, c299, c300, c301, c302, c303, c304, c305, c306, c307, c308, c309, c310, c311, c312, c313, c314, c315, c316, c317, c318, c319, c320, c321, c322, c323, c324, c325, c326, c327, c328, c329, c330, c331, c332, c333, c334, c335, c336, c337, c338, c339, c340], []⟩ W := by
  rw [rgB9_is]
  refine wp_region_held_drew (S := fun Y => Y.heap[gx]? = some (stO K0 A0 B0 C0 D N T)) (by kernel_rfl) (XX.drew.row mx) (fun hH => ?_)
  have hV := XX.drew
  clear XX
  obtain ⟨V0, hV0⟩ : ∃ V, W.drew = V := ⟨_, rfl⟩
  rw [hV0] at hH hV ⊢
  clear hV0
  obtain ⟨a0, ha⟩ : ∃ a : Act, a = ⟨#[.pointer (some ⟨g, 0, none⟩), rv, c2, c3, c4, .pointer (some ⟨gx, 0, none⟩), .int .i64 (i : Int), .int .i64 (k : Int), .int .i64 (c : Int), c9, c10, c11, c12, c13, c14, c15, c16, c17, c18, c19, c20, c21, c22, c23, c24, c25, c26, c27, c28, c29, c30, c31, c32, c33, c34, c35, c36, c37, c38, c39, c40, c41, c42, c43, c44, c45, c46, c47, c48, c49, c50, c51, c52, c53, c54, c55, c56, c57, c58, c59, c60, c61, c62, c63, c64, c65, c66, c67, c68, c69, c70, c71, c72, c73, c74, c75, c76, c77, c78, c79, c80, c81, c82, c83, c84, c85, c86, c87, c88, c89, c90, c91, c92, c93, c94, c95, c96, c97, c98, c99, c100, c101, c102, c103, c104, c105, c106, c107, c108, c109, c110, c111, c112, c113, c114, c115, c116, c117, c118, c119, c120, c121, c122, c123, c124, c125, c126, c127, c128, c129, c130, c131, c132, c133, c134, c135, c136, c137, c138, c139, c140, c141, c142, c143, c144, c145, c146, c147, c148, c149, c150, c151, c152, c153, c154, c155, c156, c157, c158, c159, c160, c161, c162, c163, c164, c165, c166, c167, c168, c169, c170, c171, c172, c173, c174, c175, c176, c177, c178, c179, c180, c181, c182, c183, c184, c185, c186, c187, c188, c189, c190, c191, c192, c193, c194, c195, c196, c197, c198, c199, c200, c201, c202, c203, c204, c205, c206, c207, c208, c209, c210, c211, c212, c213, c214, c215, c216, c217, c218, c219, c220, c221, c222, c223, c224, c225, c226, c227, c228, c229, c230, c231, c232, c233, c234, c235, c236, c237, c238, c239, c240, c241, c242, c243, c244, c245, c246, c247, c248, c249, c250, c251, c252, c253, c254, c255, c256, c257, c258, c259, c260, c261, c262, c263, c264, c265, c266, c267, c268, c269, c270, c271, c272, c273, c274, c275, c276, c277, c278, c279, c280, c281, c282, c283, c284, c285, c286, c287, c288, c289, c290, c291, c292, c293, c294, c295, c296, c297, c298, c299, c300, c301, c302, c303, c304, c305, c306, c307, c308, c309, c310, c311, c312, c313, c314, c315, c316, c317, c318, c319, c320, c321, c322, c323, c324, c325, c326, c327, c328, c329, c330, c331, c332, c333, c334, c335, c336, c337, c338, c339, c340], []⟩ := ⟨_, rfl⟩
  have sz0 : a0.tmps.size = 341 := by rw [ha]; kernel_rfl
  have e0_0 : a0.eval (.tmp 0) = .pointer (some ⟨g, 0, none⟩) := by rw [ha]; kernel_rfl
  have e0_1 : a0.eval (.tmp 1) = rv := by rw [ha]; kernel_rfl
  have e0_6 : a0.eval (.tmp 6) = .int .i64 (i : Int) := by rw [ha]; kernel_rfl
  have e0_7 : a0.eval (.tmp 7) = .int .i64 (k : Int) := by rw [ha]; kernel_rfl
  have e0_8 : a0.eval (.tmp 8) = .int .i64 (c : Int) := by rw [ha]; kernel_rfl
  rw [← ha]
  refine wpAnyH_as (l' := #[false, false, false, false, false, false, false, false, false, false, false, false, false, false, false, false, false, false, false, false]) (by kernel_rfl) ?_
  refine takeH (v := .pointer (some ⟨g, 0, none⟩)) opB9_0 opB9_ns (by kernel_rfl) (by kernel_rfl) HPN (fun w hw o ho => run_move ho e0_0 w) hH ?_
  refine wpAnyH_as (l' := #[true, false, false, false, false, false, false, false, false, false, false, false, false, false, false, false, false, false, false, false]) (by kernel_rfl) ?_
  obtain ⟨a1, h1⟩ : ∃ a' : Act, a' = a0.put (some 40) (.pointer (some ⟨g, 0, none⟩)) := ⟨_, rfl⟩
  rw [← h1]
  have sz1 : a1.tmps.size = 341 := by rw [h1, size_put]; exact sz0
  have e1_0 : a1.eval (.tmp 0) = .pointer (some ⟨g, 0, none⟩) := by rw [h1, eval_put_ne _ _ _ _ (by decide)]; exact e0_0
  have e1_1 : a1.eval (.tmp 1) = rv := by rw [h1, eval_put_ne _ _ _ _ (by decide)]; exact e0_1
  have e1_6 : a1.eval (.tmp 6) = .int .i64 (i : Int) := by rw [h1, eval_put_ne _ _ _ _ (by decide)]; exact e0_6
  have e1_7 : a1.eval (.tmp 7) = .int .i64 (k : Int) := by rw [h1, eval_put_ne _ _ _ _ (by decide)]; exact e0_7
  have e1_8 : a1.eval (.tmp 8) = .int .i64 (c : Int) := by rw [h1, eval_put_ne _ _ _ _ (by decide)]; exact e0_8
  have e1_40 : a1.eval (.tmp 40) = .pointer (some ⟨g, 0, none⟩) := by rw [h1]; exact eval_put_eq _ _ _ (by rw [sz0]; decide)
  clear e0_0 e0_1 e0_6 e0_7 e0_8 sz0
  refine takeH (v := .int .i64 (c : Int)) opB9_1 opB9_ns (by kernel_rfl) (by kernel_rfl) HPN (fun w hw o ho => run_move ho e1_8 w) hH ?_
  refine wpAnyH_as (l' := #[true, true, false, false, false, false, false, false, false, false, false, false, false, false, false, false, false, false, false, false]) (by kernel_rfl) ?_
  obtain ⟨a2, h2⟩ : ∃ a' : Act, a' = a1.put (some 41) (.int .i64 (c : Int)) := ⟨_, rfl⟩
  rw [← h2]
  have sz2 : a2.tmps.size = 341 := by rw [h2, size_put]; exact sz1
  have e2_0 : a2.eval (.tmp 0) = .pointer (some ⟨g, 0, none⟩) := by rw [h2, eval_put_ne _ _ _ _ (by decide)]; exact e1_0
  have e2_1 : a2.eval (.tmp 1) = rv := by rw [h2, eval_put_ne _ _ _ _ (by decide)]; exact e1_1
  have e2_6 : a2.eval (.tmp 6) = .int .i64 (i : Int) := by rw [h2, eval_put_ne _ _ _ _ (by decide)]; exact e1_6
  have e2_7 : a2.eval (.tmp 7) = .int .i64 (k : Int) := by rw [h2, eval_put_ne _ _ _ _ (by decide)]; exact e1_7
  have e2_40 : a2.eval (.tmp 40) = .pointer (some ⟨g, 0, none⟩) := by rw [h2, eval_put_ne _ _ _ _ (by decide)]; exact e1_40
  have e2_41 : a2.eval (.tmp 41) = .int .i64 (c : Int) := by rw [h2]; exact eval_put_eq _ _ _ (by rw [sz1]; decide)
  clear e1_0 e1_1 e1_40 e1_6 e1_7 e1_8 sz1
  refine takeH (v := rv) opB9_2 opB9_ns (by kernel_rfl) (by kernel_rfl) HPN (fun w hw o ho => run_move ho e2_1 w) hH ?_
  refine wpAnyH_as (l' := #[true, true, true, false, false, false, false, false, false, false, false, false, false, false, false, false, false, false, false, false]) (by kernel_rfl) ?_
  obtain ⟨a3, h3⟩ : ∃ a' : Act, a' = a2.put (some 42) (rv) := ⟨_, rfl⟩
  rw [← h3]
  have sz3 : a3.tmps.size = 341 := by rw [h3, size_put]; exact sz2
  have e3_0 : a3.eval (.tmp 0) = .pointer (some ⟨g, 0, none⟩) := by rw [h3, eval_put_ne _ _ _ _ (by decide)]; exact e2_0
  have e3_6 : a3.eval (.tmp 6) = .int .i64 (i : Int) := by rw [h3, eval_put_ne _ _ _ _ (by decide)]; exact e2_6
  have e3_7 : a3.eval (.tmp 7) = .int .i64 (k : Int) := by rw [h3, eval_put_ne _ _ _ _ (by decide)]; exact e2_7
  have e3_40 : a3.eval (.tmp 40) = .pointer (some ⟨g, 0, none⟩) := by rw [h3, eval_put_ne _ _ _ _ (by decide)]; exact e2_40
  have e3_41 : a3.eval (.tmp 41) = .int .i64 (c : Int) := by rw [h3, eval_put_ne _ _ _ _ (by decide)]; exact e2_41
  have e3_42 : a3.eval (.tmp 42) = rv := by rw [h3]; exact eval_put_eq _ _ _ (by rw [sz2]; decide)
  clear e2_0 e2_1 e2_40 e2_41 e2_6 e2_7 sz2
  refine takeH (v := .pointer (some ⟨g, 0, none⟩)) opB9_3 opB9_ns (by kernel_rfl) (by kernel_rfl) HPN (fun w hw o ho => run_move ho e3_0 w) hH ?_
  refine wpAnyH_as (l' := #[true, true, true, true, false, false, false, false, false, false, false, false, false, false, false, false, false, false, false, false]) (by kernel_rfl) ?_
  obtain ⟨a4, h4⟩ : ∃ a' : Act, a' = a3.put (some 43) (.pointer (some ⟨g, 0, none⟩)) := ⟨_, rfl⟩
  rw [← h4]
  have sz4 : a4.tmps.size = 341 := by rw [h4, size_put]; exact sz3
  have e4_0 : a4.eval (.tmp 0) = .pointer (some ⟨g, 0, none⟩) := by rw [h4, eval_put_ne _ _ _ _ (by decide)]; exact e3_0
  have e4_6 : a4.eval (.tmp 6) = .int .i64 (i : Int) := by rw [h4, eval_put_ne _ _ _ _ (by decide)]; exact e3_6
  have e4_7 : a4.eval (.tmp 7) = .int .i64 (k : Int) := by rw [h4, eval_put_ne _ _ _ _ (by decide)]; exact e3_7
  have e4_40 : a4.eval (.tmp 40) = .pointer (some ⟨g, 0, none⟩) := by rw [h4, eval_put_ne _ _ _ _ (by decide)]; exact e3_40
  have e4_41 : a4.eval (.tmp 41) = .int .i64 (c : Int) := by rw [h4, eval_put_ne _ _ _ _ (by decide)]; exact e3_41
  have e4_42 : a4.eval (.tmp 42) = rv := by rw [h4, eval_put_ne _ _ _ _ (by decide)]; exact e3_42
  have e4_43 : a4.eval (.tmp 43) = .pointer (some ⟨g, 0, none⟩) := by rw [h4]; exact eval_put_eq _ _ _ (by rw [sz3]; decide)
  clear e3_0 e3_40 e3_41 e3_42 e3_6 e3_7 sz3
  refine takeH (v := .int .i64 (i : Int)) opB9_4 opB9_ns (by kernel_rfl) (by kernel_rfl) HPN (fun w hw o ho => run_move ho e4_6 w) hH ?_
  refine wpAnyH_as (l' := #[true, true, true, true, true, false, false, false, false, false, false, false, false, false, false, false, false, false, false, false]) (by kernel_rfl) ?_
  obtain ⟨a5, h5⟩ : ∃ a' : Act, a' = a4.put (some 44) (.int .i64 (i : Int)) := ⟨_, rfl⟩
  rw [← h5]
  have sz5 : a5.tmps.size = 341 := by rw [h5, size_put]; exact sz4
  have e5_0 : a5.eval (.tmp 0) = .pointer (some ⟨g, 0, none⟩) := by rw [h5, eval_put_ne _ _ _ _ (by decide)]; exact e4_0
  have e5_7 : a5.eval (.tmp 7) = .int .i64 (k : Int) := by rw [h5, eval_put_ne _ _ _ _ (by decide)]; exact e4_7
  have e5_40 : a5.eval (.tmp 40) = .pointer (some ⟨g, 0, none⟩) := by rw [h5, eval_put_ne _ _ _ _ (by decide)]; exact e4_40
  have e5_41 : a5.eval (.tmp 41) = .int .i64 (c : Int) := by rw [h5, eval_put_ne _ _ _ _ (by decide)]; exact e4_41
  have e5_42 : a5.eval (.tmp 42) = rv := by rw [h5, eval_put_ne _ _ _ _ (by decide)]; exact e4_42
  have e5_43 : a5.eval (.tmp 43) = .pointer (some ⟨g, 0, none⟩) := by rw [h5, eval_put_ne _ _ _ _ (by decide)]; exact e4_43
  have e5_44 : a5.eval (.tmp 44) = .int .i64 (i : Int) := by rw [h5]; exact eval_put_eq _ _ _ (by rw [sz4]; decide)
  clear e4_0 e4_40 e4_41 e4_42 e4_43 e4_6 e4_7 sz4
  refine takeH (v := .pointer (some ⟨g, 0, none⟩)) opB9_5 opB9_ns (by kernel_rfl) (by kernel_rfl) HPN (fun w hw o ho => run_nilCheck ho e5_43 w) hH ?_
  refine wpAnyH_as (l' := #[true, true, true, true, true, true, false, false, false, false, false, false, false, false, false, false, false, false, false, false]) (by kernel_rfl) ?_
  obtain ⟨a6, h6⟩ : ∃ a' : Act, a' = a5.put (some 45) (.pointer (some ⟨g, 0, none⟩)) := ⟨_, rfl⟩
  rw [← h6]
  have sz6 : a6.tmps.size = 341 := by rw [h6, size_put]; exact sz5
  have e6_0 : a6.eval (.tmp 0) = .pointer (some ⟨g, 0, none⟩) := by rw [h6, eval_put_ne _ _ _ _ (by decide)]; exact e5_0
  have e6_7 : a6.eval (.tmp 7) = .int .i64 (k : Int) := by rw [h6, eval_put_ne _ _ _ _ (by decide)]; exact e5_7
  have e6_40 : a6.eval (.tmp 40) = .pointer (some ⟨g, 0, none⟩) := by rw [h6, eval_put_ne _ _ _ _ (by decide)]; exact e5_40
  have e6_41 : a6.eval (.tmp 41) = .int .i64 (c : Int) := by rw [h6, eval_put_ne _ _ _ _ (by decide)]; exact e5_41
  have e6_42 : a6.eval (.tmp 42) = rv := by rw [h6, eval_put_ne _ _ _ _ (by decide)]; exact e5_42
  have e6_44 : a6.eval (.tmp 44) = .int .i64 (i : Int) := by rw [h6, eval_put_ne _ _ _ _ (by decide)]; exact e5_44
  have e6_45 : a6.eval (.tmp 45) = .pointer (some ⟨g, 0, none⟩) := by rw [h6]; exact eval_put_eq _ _ _ (by rw [sz5]; decide)
  clear e5_0 e5_40 e5_41 e5_42 e5_43 e5_44 e5_7 sz5
  refine takeH (v := .pointer (some ⟨g, 0, none⟩)) opB9_6 opB9_ns (by kernel_rfl) (by kernel_rfl) HPN (fun w hw o ho => run_fieldE ho e6_45 w) hH ?_
  refine wpAnyH_as (l' := #[true, true, true, true, true, true, true, false, false, false, false, false, false, false, false, false, false, false, false, false]) (by kernel_rfl) ?_
  obtain ⟨a7, h7⟩ : ∃ a' : Act, a' = a6.put (some 46) (.pointer (some ⟨g, 0, none⟩)) := ⟨_, rfl⟩
  rw [← h7]
  have sz7 : a7.tmps.size = 341 := by rw [h7, size_put]; exact sz6
  have e7_0 : a7.eval (.tmp 0) = .pointer (some ⟨g, 0, none⟩) := by rw [h7, eval_put_ne _ _ _ _ (by decide)]; exact e6_0
  have e7_7 : a7.eval (.tmp 7) = .int .i64 (k : Int) := by rw [h7, eval_put_ne _ _ _ _ (by decide)]; exact e6_7
  have e7_40 : a7.eval (.tmp 40) = .pointer (some ⟨g, 0, none⟩) := by rw [h7, eval_put_ne _ _ _ _ (by decide)]; exact e6_40
  have e7_41 : a7.eval (.tmp 41) = .int .i64 (c : Int) := by rw [h7, eval_put_ne _ _ _ _ (by decide)]; exact e6_41
  have e7_42 : a7.eval (.tmp 42) = rv := by rw [h7, eval_put_ne _ _ _ _ (by decide)]; exact e6_42
  have e7_44 : a7.eval (.tmp 44) = .int .i64 (i : Int) := by rw [h7, eval_put_ne _ _ _ _ (by decide)]; exact e6_44
  have e7_46 : a7.eval (.tmp 46) = .pointer (some ⟨g, 0, none⟩) := by rw [h7]; exact eval_put_eq _ _ _ (by rw [sz6]; decide)
  clear e6_0 e6_40 e6_41 e6_42 e6_44 e6_45 e6_7 sz6
  refine takeH (v := .pointer (some ⟨g, i * 5, none⟩)) opB9_7 opB9_ns (by kernel_rfl) (by kernel_rfl) HPN (fun w hw o ho => run_indexE hi8.out ho e7_46 e7_44 w) hH ?_
  refine wpAnyH_as (l' := #[true, true, true, true, true, true, true, true, false, false, false, false, false, false, false, false, false, false, false, false]) (by kernel_rfl) ?_
  obtain ⟨a8, h8⟩ : ∃ a' : Act, a' = a7.put (some 47) (.pointer (some ⟨g, i * 5, none⟩)) := ⟨_, rfl⟩
  rw [← h8]
  have sz8 : a8.tmps.size = 341 := by rw [h8, size_put]; exact sz7
  have e8_0 : a8.eval (.tmp 0) = .pointer (some ⟨g, 0, none⟩) := by rw [h8, eval_put_ne _ _ _ _ (by decide)]; exact e7_0
  have e8_7 : a8.eval (.tmp 7) = .int .i64 (k : Int) := by rw [h8, eval_put_ne _ _ _ _ (by decide)]; exact e7_7
  have e8_40 : a8.eval (.tmp 40) = .pointer (some ⟨g, 0, none⟩) := by rw [h8, eval_put_ne _ _ _ _ (by decide)]; exact e7_40
  have e8_41 : a8.eval (.tmp 41) = .int .i64 (c : Int) := by rw [h8, eval_put_ne _ _ _ _ (by decide)]; exact e7_41
  have e8_42 : a8.eval (.tmp 42) = rv := by rw [h8, eval_put_ne _ _ _ _ (by decide)]; exact e7_42
  have e8_47 : a8.eval (.tmp 47) = .pointer (some ⟨g, i * 5, none⟩) := by rw [h8]; exact eval_put_eq _ _ _ (by rw [sz7]; decide)
  clear e7_0 e7_40 e7_41 e7_42 e7_44 e7_46 e7_7 sz7
  refine takeH (v := .pointer (some ⟨g, 0, none⟩)) opB9_9 opB9_ns (by kernel_rfl) (by kernel_rfl) HPN (fun w hw o ho => run_move ho e8_0 w) hH ?_
  refine wpAnyH_as (l' := #[true, true, true, true, true, true, true, true, false, true, false, false, false, false, false, false, false, false, false, false]) (by kernel_rfl) ?_
  obtain ⟨a9, h9⟩ : ∃ a' : Act, a' = a8.put (some 49) (.pointer (some ⟨g, 0, none⟩)) := ⟨_, rfl⟩
  rw [← h9]
  have sz9 : a9.tmps.size = 341 := by rw [h9, size_put]; exact sz8
  have e9_7 : a9.eval (.tmp 7) = .int .i64 (k : Int) := by rw [h9, eval_put_ne _ _ _ _ (by decide)]; exact e8_7
  have e9_40 : a9.eval (.tmp 40) = .pointer (some ⟨g, 0, none⟩) := by rw [h9, eval_put_ne _ _ _ _ (by decide)]; exact e8_40
  have e9_41 : a9.eval (.tmp 41) = .int .i64 (c : Int) := by rw [h9, eval_put_ne _ _ _ _ (by decide)]; exact e8_41
  have e9_42 : a9.eval (.tmp 42) = rv := by rw [h9, eval_put_ne _ _ _ _ (by decide)]; exact e8_42
  have e9_47 : a9.eval (.tmp 47) = .pointer (some ⟨g, i * 5, none⟩) := by rw [h9, eval_put_ne _ _ _ _ (by decide)]; exact e8_47
  have e9_49 : a9.eval (.tmp 49) = .pointer (some ⟨g, 0, none⟩) := by rw [h9]; exact eval_put_eq _ _ _ (by rw [sz8]; decide)
  clear e8_0 e8_40 e8_41 e8_42 e8_47 e8_7 sz8
  refine takeH (v := .int .i64 (k : Int)) opB9_10 opB9_ns (by kernel_rfl) (by kernel_rfl) HPN (fun w hw o ho => run_move ho e9_7 w) hH ?_
  refine wpAnyH_as (l' := #[true, true, true, true, true, true, true, true, false, true, true, false, false, false, false, false, false, false, false, false]) (by kernel_rfl) ?_
  obtain ⟨a10, h10⟩ : ∃ a' : Act, a' = a9.put (some 50) (.int .i64 (k : Int)) := ⟨_, rfl⟩
  rw [← h10]
  have sz10 : a10.tmps.size = 341 := by rw [h10, size_put]; exact sz9
  have e10_40 : a10.eval (.tmp 40) = .pointer (some ⟨g, 0, none⟩) := by rw [h10, eval_put_ne _ _ _ _ (by decide)]; exact e9_40
  have e10_41 : a10.eval (.tmp 41) = .int .i64 (c : Int) := by rw [h10, eval_put_ne _ _ _ _ (by decide)]; exact e9_41
  have e10_42 : a10.eval (.tmp 42) = rv := by rw [h10, eval_put_ne _ _ _ _ (by decide)]; exact e9_42
  have e10_47 : a10.eval (.tmp 47) = .pointer (some ⟨g, i * 5, none⟩) := by rw [h10, eval_put_ne _ _ _ _ (by decide)]; exact e9_47
  have e10_49 : a10.eval (.tmp 49) = .pointer (some ⟨g, 0, none⟩) := by rw [h10, eval_put_ne _ _ _ _ (by decide)]; exact e9_49
  have e10_50 : a10.eval (.tmp 50) = .int .i64 (k : Int) := by rw [h10]; exact eval_put_eq _ _ _ (by rw [sz9]; decide)
  clear e9_40 e9_41 e9_42 e9_47 e9_49 e9_7 sz9
  refine takeH (v := .pointer (some ⟨g, 0, none⟩)) opB9_11 opB9_ns (by kernel_rfl) (by kernel_rfl) HPN (fun w hw o ho => run_nilCheck ho e10_49 w) hH ?_
  refine wpAnyH_as (l' := #[true, true, true, true, true, true, true, true, false, true, true, true, false, false, false, false, false, false, false, false]) (by kernel_rfl) ?_
  obtain ⟨a11, h11⟩ : ∃ a' : Act, a' = a10.put (some 51) (.pointer (some ⟨g, 0, none⟩)) := ⟨_, rfl⟩
  rw [← h11]
  have sz11 : a11.tmps.size = 341 := by rw [h11, size_put]; exact sz10
  have e11_40 : a11.eval (.tmp 40) = .pointer (some ⟨g, 0, none⟩) := by rw [h11, eval_put_ne _ _ _ _ (by decide)]; exact e10_40
  have e11_41 : a11.eval (.tmp 41) = .int .i64 (c : Int) := by rw [h11, eval_put_ne _ _ _ _ (by decide)]; exact e10_41
  have e11_42 : a11.eval (.tmp 42) = rv := by rw [h11, eval_put_ne _ _ _ _ (by decide)]; exact e10_42
  have e11_47 : a11.eval (.tmp 47) = .pointer (some ⟨g, i * 5, none⟩) := by rw [h11, eval_put_ne _ _ _ _ (by decide)]; exact e10_47
  have e11_50 : a11.eval (.tmp 50) = .int .i64 (k : Int) := by rw [h11, eval_put_ne _ _ _ _ (by decide)]; exact e10_50
  have e11_51 : a11.eval (.tmp 51) = .pointer (some ⟨g, 0, none⟩) := by rw [h11]; exact eval_put_eq _ _ _ (by rw [sz10]; decide)
  clear e10_40 e10_41 e10_42 e10_47 e10_49 e10_50 sz10
  refine takeH (v := .pointer (some ⟨g, 0, none⟩)) opB9_12 opB9_ns (by kernel_rfl) (by kernel_rfl) HPN (fun w hw o ho => run_fieldE ho e11_51 w) hH ?_
  refine wpAnyH_as (l' := #[true, true, true, true, true, true, true, true, false, true, true, true, true, false, false, false, false, false, false, false]) (by kernel_rfl) ?_
  obtain ⟨a12, h12⟩ : ∃ a' : Act, a' = a11.put (some 52) (.pointer (some ⟨g, 0, none⟩)) := ⟨_, rfl⟩
  rw [← h12]
  have sz12 : a12.tmps.size = 341 := by rw [h12, size_put]; exact sz11
  have e12_40 : a12.eval (.tmp 40) = .pointer (some ⟨g, 0, none⟩) := by rw [h12, eval_put_ne _ _ _ _ (by decide)]; exact e11_40
  have e12_41 : a12.eval (.tmp 41) = .int .i64 (c : Int) := by rw [h12, eval_put_ne _ _ _ _ (by decide)]; exact e11_41
  have e12_42 : a12.eval (.tmp 42) = rv := by rw [h12, eval_put_ne _ _ _ _ (by decide)]; exact e11_42
  have e12_47 : a12.eval (.tmp 47) = .pointer (some ⟨g, i * 5, none⟩) := by rw [h12, eval_put_ne _ _ _ _ (by decide)]; exact e11_47
  have e12_50 : a12.eval (.tmp 50) = .int .i64 (k : Int) := by rw [h12, eval_put_ne _ _ _ _ (by decide)]; exact e11_50
  have e12_52 : a12.eval (.tmp 52) = .pointer (some ⟨g, 0, none⟩) := by rw [h12]; exact eval_put_eq _ _ _ (by rw [sz11]; decide)
  clear e11_40 e11_41 e11_42 e11_47 e11_50 e11_51 sz11
  refine takeH (v := .pointer (some ⟨g, k * 5, none⟩)) opB9_13 opB9_ns (by kernel_rfl) (by kernel_rfl) HPN (fun w hw o ho => run_indexE hk8.out ho e12_52 e12_50 w) hH ?_
  refine wpAnyH_as (l' := #[true, true, true, true, true, true, true, true, false, true, true, true, true, true, false, false, false, false, false, false]) (by kernel_rfl) ?_
  obtain ⟨a13, h13⟩ : ∃ a' : Act, a' = a12.put (some 53) (.pointer (some ⟨g, k * 5, none⟩)) := ⟨_, rfl⟩
  rw [← h13]
  have sz13 : a13.tmps.size = 341 := by rw [h13, size_put]; exact sz12
  have e13_40 : a13.eval (.tmp 40) = .pointer (some ⟨g, 0, none⟩) := by rw [h13, eval_put_ne _ _ _ _ (by decide)]; exact e12_40
  have e13_41 : a13.eval (.tmp 41) = .int .i64 (c : Int) := by rw [h13, eval_put_ne _ _ _ _ (by decide)]; exact e12_41
  have e13_42 : a13.eval (.tmp 42) = rv := by rw [h13, eval_put_ne _ _ _ _ (by decide)]; exact e12_42
  have e13_47 : a13.eval (.tmp 47) = .pointer (some ⟨g, i * 5, none⟩) := by rw [h13, eval_put_ne _ _ _ _ (by decide)]; exact e12_47
  have e13_53 : a13.eval (.tmp 53) = .pointer (some ⟨g, k * 5, none⟩) := by rw [h13]; exact eval_put_eq _ _ _ (by rw [sz12]; decide)
  clear e12_40 e12_41 e12_42 e12_47 e12_50 e12_52 sz12
  refine takeH (v := .pointer (some ⟨g, 0, none⟩)) opB9_16 opB9_ns (by kernel_rfl) (by kernel_rfl) HPN (fun w hw o ho => run_nilCheck ho e13_40 w) hH ?_
  refine wpAnyH_as (l' := #[true, true, true, true, true, true, true, true, false, true, true, true, true, true, false, false, true, false, false, false]) (by kernel_rfl) ?_
  obtain ⟨a14, h14⟩ : ∃ a' : Act, a' = a13.put (some 56) (.pointer (some ⟨g, 0, none⟩)) := ⟨_, rfl⟩
  rw [← h14]
  have sz14 : a14.tmps.size = 341 := by rw [h14, size_put]; exact sz13
  have e14_41 : a14.eval (.tmp 41) = .int .i64 (c : Int) := by rw [h14, eval_put_ne _ _ _ _ (by decide)]; exact e13_41
  have e14_42 : a14.eval (.tmp 42) = rv := by rw [h14, eval_put_ne _ _ _ _ (by decide)]; exact e13_42
  have e14_47 : a14.eval (.tmp 47) = .pointer (some ⟨g, i * 5, none⟩) := by rw [h14, eval_put_ne _ _ _ _ (by decide)]; exact e13_47
  have e14_53 : a14.eval (.tmp 53) = .pointer (some ⟨g, k * 5, none⟩) := by rw [h14, eval_put_ne _ _ _ _ (by decide)]; exact e13_53
  have e14_56 : a14.eval (.tmp 56) = .pointer (some ⟨g, 0, none⟩) := by rw [h14]; exact eval_put_eq _ _ _ (by rw [sz13]; decide)
  clear e13_40 e13_41 e13_42 e13_47 e13_53 sz13
  refine takeH (v := .pointer (some ⟨g, 0, none⟩)) opB9_17 opB9_ns (by kernel_rfl) (by kernel_rfl) HPN (fun w hw o ho => run_fieldE ho e14_56 w) hH ?_
  refine wpAnyH_as (l' := #[true, true, true, true, true, true, true, true, false, true, true, true, true, true, false, false, true, true, false, false]) (by kernel_rfl) ?_
  obtain ⟨a15, h15⟩ : ∃ a' : Act, a' = a14.put (some 57) (.pointer (some ⟨g, 0, none⟩)) := ⟨_, rfl⟩
  rw [← h15]
  have sz15 : a15.tmps.size = 341 := by rw [h15, size_put]; exact sz14
  have e15_41 : a15.eval (.tmp 41) = .int .i64 (c : Int) := by rw [h15, eval_put_ne _ _ _ _ (by decide)]; exact e14_41
  have e15_42 : a15.eval (.tmp 42) = rv := by rw [h15, eval_put_ne _ _ _ _ (by decide)]; exact e14_42
  have e15_47 : a15.eval (.tmp 47) = .pointer (some ⟨g, i * 5, none⟩) := by rw [h15, eval_put_ne _ _ _ _ (by decide)]; exact e14_47
  have e15_53 : a15.eval (.tmp 53) = .pointer (some ⟨g, k * 5, none⟩) := by rw [h15, eval_put_ne _ _ _ _ (by decide)]; exact e14_53
  have e15_57 : a15.eval (.tmp 57) = .pointer (some ⟨g, 0, none⟩) := by rw [h15]; exact eval_put_eq _ _ _ (by rw [sz14]; decide)
  clear e14_41 e14_42 e14_47 e14_53 e14_56 sz14
  refine readyLd2 (v := .agg (VI .u64 (es i))) (u := .agg (VI .u64 (es k))) opB9_8 opB9_14 (by decide) (by decide) (by kernel_rfl) (by kernel_rfl) (by kernel_rfl) hH (fun o ho => run_loadE (hV.bn.lim i hi8.out).len ho e15_47 _ (hV.bn.rangeE hi8.out)) (fun o ho => run_loadE (hV.bn.lim k hk8.out).len ho e15_53 _ (hV.bn.rangeE hk8.out)) (fun o ho => run_loadE (hV.bn.lim i hi8.out).len ho ((eval_put_ne _ _ _ _ (by decide)).trans e15_47) _ (hV.bn.rangeE hi8.out)) (fun o ho => run_loadE (hV.bn.lim k hk8.out).len ho ((eval_put_ne _ _ _ _ (by decide)).trans e15_53) _ (hV.bn.rangeE hk8.out)) ?_
  refine wpAnyH_as (l' := #[true, true, true, true, true, true, true, true, true, true, true, true, true, true, true, false, true, true, false, false]) (by kernel_rfl) ?_
  obtain ⟨a16, h16⟩ : ∃ a' : Act, a' = a15.put (some 48) (.agg (VI .u64 (es i))) := ⟨_, rfl⟩
  rw [← h16]
  have sz16 : a16.tmps.size = 341 := by rw [h16, size_put]; exact sz15
  have e16_41 : a16.eval (.tmp 41) = .int .i64 (c : Int) := by rw [h16, eval_put_ne _ _ _ _ (by decide)]; exact e15_41
  have e16_42 : a16.eval (.tmp 42) = rv := by rw [h16, eval_put_ne _ _ _ _ (by decide)]; exact e15_42
  have e16_57 : a16.eval (.tmp 57) = .pointer (some ⟨g, 0, none⟩) := by rw [h16, eval_put_ne _ _ _ _ (by decide)]; exact e15_57
  have e16_48 : a16.eval (.tmp 48) = .agg (VI .u64 (es i)) := by rw [h16]; exact eval_put_eq _ _ _ (by rw [sz15]; decide)
  clear e15_41 e15_42 e15_47 e15_53 e15_57 sz15
  obtain ⟨a17, h17⟩ : ∃ a' : Act, a' = a16.put (some 54) (.agg (VI .u64 (es k))) := ⟨_, rfl⟩
  rw [← h17]
  have sz17 : a17.tmps.size = 341 := by rw [h17, size_put]; exact sz16
  have e17_41 : a17.eval (.tmp 41) = .int .i64 (c : Int) := by rw [h17, eval_put_ne _ _ _ _ (by decide)]; exact e16_41
  have e17_42 : a17.eval (.tmp 42) = rv := by rw [h17, eval_put_ne _ _ _ _ (by decide)]; exact e16_42
  have e17_57 : a17.eval (.tmp 57) = .pointer (some ⟨g, 0, none⟩) := by rw [h17, eval_put_ne _ _ _ _ (by decide)]; exact e16_57
  have e17_48 : a17.eval (.tmp 48) = .agg (VI .u64 (es i)) := by rw [h17, eval_put_ne _ _ _ _ (by decide)]; exact e16_48
  have e17_54 : a17.eval (.tmp 54) = .agg (VI .u64 (es k)) := by rw [h17]; exact eval_put_eq _ _ _ (by rw [sz16]; decide)
  clear e16_41 e16_42 e16_48 e16_57 sz16
  refine readyH opB9_15 (by kernel_rfl) (fun o ho hd => wpCall (v := .agg (VI .u64 z)) ho hd (args := #[rv, .agg (VI .u64 (es i)), .agg (VI .u64 (es k))]) (by simp only [List.map_toArray, List.map_cons, List.map_nil, e17_42, e17_48, e17_54] <;> rfl) (fun _ => rfl) (hV.calls (fun b he => HC.out _ _ _ _ _ _ he hl.out)) (fun w1 hw1 => ?_))
  have hV1 := hw1
  refine ⟨hV1.row mx, ?_⟩
  have hH := hV1.row mx
  refine wpAnyH_as (l' := #[true, true, true, true, true, true, true, true, true, true, true, true, true, true, true, true, true, true, false, false]) (by kernel_rfl) ?_
  obtain ⟨a18, h18⟩ : ∃ a' : Act, a' = a17.put (some 55) (.agg (VI .u64 z)) := ⟨_, rfl⟩
  rw [← h18]
  have sz18 : a18.tmps.size = 341 := by rw [h18, size_put]; exact sz17
  have e18_41 : a18.eval (.tmp 41) = .int .i64 (c : Int) := by rw [h18, eval_put_ne _ _ _ _ (by decide)]; exact e17_41
  have e18_57 : a18.eval (.tmp 57) = .pointer (some ⟨g, 0, none⟩) := by rw [h18, eval_put_ne _ _ _ _ (by decide)]; exact e17_57
  have e18_55 : a18.eval (.tmp 55) = .agg (VI .u64 z) := by rw [h18]; exact eval_put_eq _ _ _ (by rw [sz17]; decide)
  clear e17_41 e17_42 e17_48 e17_54 e17_57 sz17
  refine takeH (v := .pointer (some ⟨g, c * 5, none⟩)) opB9_18 opB9_ns (by kernel_rfl) (by kernel_rfl) HPN (fun w hw o ho => run_indexE hc8.out ho e18_57 e18_41 w) hH ?_
  refine wpAnyH_as (l' := #[true, true, true, true, true, true, true, true, true, true, true, true, true, true, true, true, true, true, true, false]) (by kernel_rfl) ?_
  obtain ⟨a19, h19⟩ : ∃ a' : Act, a' = a18.put (some 58) (.pointer (some ⟨g, c * 5, none⟩)) := ⟨_, rfl⟩
  rw [← h19]
  have sz19 : a19.tmps.size = 341 := by rw [h19, size_put]; exact sz18
  have e19_55 : a19.eval (.tmp 55) = .agg (VI .u64 z) := by rw [h19, eval_put_ne _ _ _ _ (by decide)]; exact e18_55
  have e19_58 : a19.eval (.tmp 58) = .pointer (some ⟨g, c * 5, none⟩) := by rw [h19]; exact eval_put_eq _ _ _ (by rw [sz18]; decide)
  clear e18_41 e18_55 e18_57 sz18
  refine readyH opB9_19 (by kernel_rfl) (fun o ho hd => wp_store_mid _ _ _ ho g (c * 5) (VI .u64 z) e19_58 e19_55 (by rw [VI_size, lz.out.len]; exact hV1.bn.thereE hc8.out) (by rw [VI_size, lz.out.len]; kernel_rfl) (VI_one _ _) ?_)
  have hE := hV1.setE hc8.out lz.out
  rw [hd]
  refine ⟨hE.row mx, ?_⟩
  refine wpAnyH_as (l' := #[true, true, true, true, true, true, true, true, true, true, true, true, true, true, true, true, true, true, true, true]) (by kernel_rfl) ?_
  refine wpAnyH_done (by kernel_rfl) ?_ _
  have hF : a19 = ⟨#[.pointer (some ⟨g, 0, none⟩), rv, c2, c3, c4, .pointer (some ⟨gx, 0, none⟩), .int .i64 (i : Int), .int .i64 (k : Int), .int .i64 (c : Int), c9, c10, c11, c12, c13, c14, c15, c16, c17, c18, c19, c20, c21, c22, c23, c24, c25, c26, c27, c28, c29, c30, c31, c32, c33, c34, c35, c36, c37, c38, c39, .pointer (some ⟨g, 0, none⟩), .int .i64 (c : Int), rv, .pointer (some ⟨g, 0, none⟩), .int .i64 (i : Int), .pointer (some ⟨g, 0, none⟩), .pointer (some ⟨g, 0, none⟩), .pointer (some ⟨g, i * 5, none⟩), .agg (VI .u64 (es i)), .pointer (some ⟨g, 0, none⟩), .int .i64 (k : Int), .pointer (some ⟨g, 0, none⟩), .pointer (some ⟨g, 0, none⟩), .pointer (some ⟨g, k * 5, none⟩), .agg (VI .u64 (es k)), .agg (VI .u64 z), .pointer (some ⟨g, 0, none⟩), .pointer (some ⟨g, 0, none⟩), .pointer (some ⟨g, c * 5, none⟩), c59, c60, c61, c62, c63, c64, c65, c66, c67, c68, c69, c70, c71, c72, c73, c74, c75, c76, c77, c78, c79, c80, c81, c82, c83, c84, c85, c86, c87, c88, c89, c90, c91, c92, c93, c94, c95, c96, c97, c98, c99, c100, c101, c102, c103, c104, c105, c106, c107, c108, c109, c110, c111, c112, c113, c114, c115, c116, c117, c118, c119, c120, c121, c122, c123, c124, c125, c126, c127, c128, c129, c130, c131, c132, c133, c134, c135, c136, c137, c138, c139, c140, c141, c142, c143, c144, c145, c146, c147, c148, c149, c150, c151, c152, c153, c154, c155, c156, c157, c158, c159, c160, c161, c162, c163, c164, c165, c166, c167, c168, c169, c170, c171, c172, c173, c174, c175, c176, c177, c178, c179, c180, c181, c182, c183, c184, c185, c186, c187, c188, c189, c190, c191, c192, c193, c194, c195, c196, c197, c198, c199, c200, c201, c202, c203, c204, c205, c206, c207, c208, c209, c210, c211, c212, c213, c214, c215, c216, c217, c218, c219, c220, c221, c222, c223, c224, c225, c226, c227, c228, c229, c230, c231, c232, c233, c234, c235, c236, c237, c238, c239, c240, c241, c242, c243, c244, c245, c246, c247, c248, c249, c250, c251, c252, c253, c254, c255, c256, c257, c258, c259, c260, c261, c262, c263, c264, c265, c266, c267, c268, c269, c270, c271, c272, c273, c274, c275, c276, c277, c278, c279, c280, c281, c282, c283, c284, c285, c286, c287, c288, c289, c290, c291, c292, c293, c294, c295, c296, c297, c298, c299, c300, c301, c302, c303, c304, c305, c306, c307, c308, c309, c310, c311, c312, c313, c314, c315, c316, c317, c318, c319, c320, c321, c322, c323, c324, c325, c326, c327, c328, c329, c330, c331, c332, c333, c334, c335, c336, c337, c338, c339, c340], []⟩ := by rw [h19, h18, h17, h16, h15, h14, h13, h12, h11, h10, h9, h8, h7, h6, h5, h4, h3, h2, h1, ha]; kernel_rfl
  show Q .normal (a19.put none undef) _
  rw [show a19.put none undef = a19 from rfl, hF]
  exact H _ hE
noncomputable def rgB10 : Code := ((Try.f17.body.bind (findReg 10)).getD .skip)
noncomputable def opB10 : Array Oper := opsOf rgB10
theorem rgB10_is : rgB10 = .region 10 opB10 true := by kernel_rfl
theorem opB10_ns : Region.noSelect opB10 = true := by kernel_rfl
theorem opB10_0 : opIs opB10 0 (.move (.tmp 0)) (some 59) := by unfold opIs; kernel_rfl
theorem opB10_1 : opIs opB10 1 (.move (.tmp 8)) (some 60) := by unfold opIs; kernel_rfl
theorem opB10_2 : opIs opB10 2 (.move (.tmp 0)) (some 61) := by unfold opIs; kernel_rfl
theorem opB10_3 : opIs opB10 3 (.move (.tmp 6)) (some 62) := by unfold opIs; kernel_rfl
theorem opB10_4 : opIs opB10 4 (.nilCheck (.tmp 61)) (some 63) := by unfold opIs; kernel_rfl
theorem opB10_5 : opIs opB10 5 (.fieldAddr 53 (.tmp 63) 1) (some 64) := by unfold opIs; kernel_rfl
theorem opB10_6 : opIs opB10 6 (.indexAddr 51 (.tmp 64) (.tmp 62)) (some 65) := by unfold opIs; kernel_rfl
theorem opB10_7 : opIs opB10 7 (.load 50 (.tmp 65)) (some 66) := by unfold opIs; kernel_rfl
theorem opB10_8 : opIs opB10 8 (.move (.tmp 0)) (some 67) := by unfold opIs; kernel_rfl
theorem opB10_9 : opIs opB10 9 (.move (.tmp 7)) (some 68) := by unfold opIs; kernel_rfl
theorem opB10_10 : opIs opB10 10 (.nilCheck (.tmp 67)) (some 69) := by unfold opIs; kernel_rfl
theorem opB10_11 : opIs opB10 11 (.fieldAddr 53 (.tmp 69) 1) (some 70) := by unfold opIs; kernel_rfl
theorem opB10_12 : opIs opB10 12 (.indexAddr 51 (.tmp 70) (.tmp 68)) (some 71) := by unfold opIs; kernel_rfl
theorem opB10_13 : opIs opB10 13 (.load 50 (.tmp 71)) (some 72) := by unfold opIs; kernel_rfl
theorem opB10_14 : opIs opB10 14 (.call { callee := .value (.func 35), args := #[.tmp 66, .tmp 72], argTypes := #[50, 50] }) (some 73) := by unfold opIs; kernel_rfl
theorem opB10_15 : opIs opB10 15 (.nilCheck (.tmp 59)) (some 74) := by unfold opIs; kernel_rfl
theorem opB10_16 : opIs opB10 16 (.fieldAddr 53 (.tmp 74) 1) (some 75) := by unfold opIs; kernel_rfl
theorem opB10_17 : opIs opB10 17 (.indexAddr 51 (.tmp 75) (.tmp 60)) (some 76) := by unfold opIs; kernel_rfl
theorem opB10_18 : opIs opB10 18 (.store 50 (.tmp 76) (.tmp 73)) (none) := by unfold opIs; kernel_rfl
set_option maxRecDepth 100000 in
set_option maxHeartbeats 4000000 in
theorem bk_r10 {Q : Exit → Act → World → Prop} {B : Nat} {w W : World} {rv vs : Value} {lr ll : List (Int × Int)} {g gx : Nat} {es : Nat → List Int} {ns : Nat → Nat} {bx : List (Nat × Obj)} {i k c : Nat} {D : List Int} {K0 A0 B0 C0 N T : Int} {m : Nat} {c2 c3 c4 c9 c10 c11 c12 c13 c14 c15 c16 c17 c18 c19 c20 c21 c22 c23 c24 c25 c26 c27 c28 c29 c30 c31 c32 c33 c34 c35 c36 c37 c38 c39 c40 c41 c42 c43 c44 c45 c46 c47 c48 c49 c50 c51 c52 c53 c54 c55 c56 c57 c58 c59 c60 c61 c62 c63 c64 c65 c66 c67 c68 c69 c70 c71 c72 c73 c74 c75 c76 c77 c78 c79 c80 c81 c82 c83 c84 c85 c86 c87 c88 c89 c90 c91 c92 c93 c94 c95 c96 c97 c98 c99 c100 c101 c102 c103 c104 c105 c106 c107 c108 c109 c110 c111 c112 c113 c114 c115 c116 c117 c118 c119 c120 c121 c122 c123 c124 c125 c126 c127 c128 c129 c130 c131 c132 c133 c134 c135 c136 c137 c138 c139 c140 c141 c142 c143 c144 c145 c146 c147 c148 c149 c150 c151 c152 c153 c154 c155 c156 c157 c158 c159 c160 c161 c162 c163 c164 c165 c166 c167 c168 c169 c170 c171 c172 c173 c174 c175 c176 c177 c178 c179 c180 c181 c182 c183 c184 c185 c186 c187 c188 c189 c190 c191 c192 c193 c194 c195 c196 c197 c198 c199 c200 c201 c202 c203 c204 c205 c206 c207 c208 c209 c210 c211 c212 c213 c214 c215 c216 c217 c218 c219 c220 c221 c222 c223 c224 c225 c226 c227 c228 c229 c230 c231 c232 c233 c234 c235 c236 c237 c238 c239 c240 c241 c242 c243 c244 c245 c246 c247 c248 c249 c250 c251 c252 c253 c254 c255 c256 c257 c258 c259 c260 c261 c262 c263 c264 c265 c266 c267 c268 c269 c270 c271 c272 c273 c274 c275 c276 c277 c278 c279 c280 c281 c282 c283 c284 c285 c286 c287 c288 c289 c290 c291 c292 c293 c294 c295 c296 c297 c298 c299 c300 c301 c302 c303 c304 c305 c306 c307 c308 c309 c310 c311 c312 c313 c314 c315 c316 c317 c318 c319 c320 c321 c322 c323 c324 c325 c326 c327 c328 c329 c330 c331 c332 c333 c334 c335 c336 c337 c338 c339 c340 : Value}
    (hi8 : Hid (i < 8)) (hk8 : Hid (k < 8)) (hc8 : Hid (c < 8)) (LD : Hid (D.length = 32))
    (HC : Hid (∀ w, Calls Try.prog 35 #[.agg (VI .i64 (dg (ns i))), .agg (VI .i64 (dg (ns k)))] w fun e w' => e = .returned (.agg (VI .i64 (dg m))) ∧ Below w.heap.size w w')) (hm : Hid (m < P)) 
    (mx : (gx, stO K0 A0 B0 C0 D N T) ∈ bx)
    (XX : SB B w rv lr g es ns vs ll bx W)
    (HPN : ∀ c (a : Act) d v w, Q (.panic c) (a.put d v) w → Q (.panic c) a w)
    (H : ∀ W', SB B w rv lr g es (upd ns c m) vs ll bx W' → Q .normal ⟨#[.pointer (some ⟨g, 0, none⟩), rv, c2, c3, c4, .pointer (some ⟨gx, 0, none⟩), .int .i64 (i : Int), .int .i64 (k : Int), .int .i64 (c : Int), c9, c10, c11, c12, c13, c14, c15, c16, c17, c18, c19, c20, c21, c22, c23, c24, c25, c26, c27, c28, c29, c30, c31, c32, c33, c34, c35, c36, c37, c38, c39, c40, c41, c42, c43, c44, c45, c46, c47, c48, c49, c50, c51, c52, c53, c54, c55, c56, c57, c58, .pointer (some ⟨g, 0, none⟩), .int .i64 (c : Int), .pointer (some ⟨g, 0, none⟩), .int .i64 (i : Int), .pointer (some ⟨g, 0, none⟩), .pointer (some ⟨g, 40, none⟩), .pointer (some ⟨g, 40 + i * 16, none⟩), .agg (VI .i64 (dg (ns i))), .pointer (some ⟨g, 0, none⟩), .int .i64 (k : Int), .pointer (some ⟨g, 0, none⟩), .pointer (some ⟨g, 40, none⟩), .pointer (some ⟨g, 40 + k * 16, none⟩), .agg (VI .i64 (dg (ns k))), .agg (VI .i64 (dg m)), .pointer (some ⟨g, 0, none⟩), .pointer (some ⟨g, 40, none⟩), .pointer (some ⟨g, 40 + c * 16, none⟩), c77, c78, c79, c80, c81, c82, c83, c84, c85, c86, c87, c88, c89, c90, c91, c92, c93, c94, c95, c96, c97, c98, c99, c100, c101, c102, c103, c104, c105, c106, c107, c108, c109, c110, c111, c112, c113, c114, c115, c116, c117, c118, c119, c120, c121, c122, c123, c124, c125, c126, c127, c128, c129, c130, c131, c132, c133, c134, c135, c136, c137, c138, c139, c140, c141, c142, c143, c144, c145, c146, c147, c148, c149, c150, c151, c152, c153, c154, c155, c156, c157, c158, c159, c160, c161, c162, c163, c164, c165, c166, c167, c168, c169, c170, c171, c172, c173, c174, c175, c176, c177, c178, c179, c180, c181, c182, c183, c184, c185, c186, c187, c188, c189, c190, c191, c192, c193, c194, c195, c196, c197, c198, c199, c200, c201, c202, c203, c204, c205, c206, c207, c208, c209, c210, c211, c212, c213, c214, c215, c216, c217, c218, c219, c220, c221, c222, c223, c224, c225, c226, c227, c228, c229, c230, c231, c232, c233, c234, c235, c236, c237, c238, c239, c240, c241, c242, c243, c244, c245, c246, c247, c248, c249, c250, c251, c252, c253, c254, c255, c256, c257, c258, c259, c260, c261, c262, c263, c264, c265, c266, c267, c268, c269, c270, c271, c272, c273, c274, c275, c276, c277, c278, c279, c280, c281, c282, c283, c284, c285, c286, c287, c288, c289, c290, c291, c292, c293, c294, c295, c296, c297, c298, c299, c300, c301, c302, c303, c304, c305, c306, c307, c308, c309, c310, c311, c312, c313, c314, c315, c316, c317, c318, c319, c320, c321, c322, c323, c324, c325, c326, c327, c328, c329, c330, c331, c332, c333, c334, c335, c336, c337, c338, c339, c340], []⟩ W') :
    Code.wp Try.prog rgB10 Q ⟨#[.pointer (some ⟨g, 0, none⟩), rv, c2, c3, c4, .pointer (some ⟨gx, 0, none⟩), .int .i64 (i : Int), .int .i64 (k : Int), .int .i64 (c : Int), c9, c10, c11, c12, c13, c14, c15, c16, c17, c18, c19, c20, c21, c22, c23, c24, c25, c26, c27, c28, c29, c30, c31, c32, c33, c34, c35, c36, c37, c38, c39, c40, c41, c42, c43, c44, c45, c46, c47, c48, c49, c50, c51, c52, c53, c54, c55, c56, c57, c58, c59, c60, c61, c62, c63, c64, c65, c66, c67, c68, c69, c70, c71, c72, c73, c74, c75, c76, c77, c78, c79, c80, c81, c82, c83, c84, c85, c86, c87, c88, c89, c90, c91, c92, c93, c94, c95, c96, c97, c98, c99, c100, c101, c102, c103, c104, c105, c106, c107, c108, c109, c110, c111, c112, c113, c114, c115, c116, c117, c118, c119, c120, c121, c122, c123, c124, c125, c126, c127, c128, c129, c130, c131, c132, c133, c134, c135, c136, c137, c138, c139, c140, c141, c142, c143, c144, c145, c146, c147, c148, c149, c150, c151, c152, c153, c154, c155, c156, c157, c158, c159, c160, c161, c162, c163, c164, c165, c166, c167, c168, c169, c170, c171, c172, c173, c174, c175, c176, c177, c178, c179, c180, c181, c182, c183, c184, c185, c186, c187, c188, c189, c190, c191, c192, c193, c194, c195, c196, c197, c198, c199, c200, c201, c202, c203, c204, c205, c206, c207, c208, c209, c210, c211, c212, c213, c214, c215, c216, c217, c218, c219, c220, c221, c222, c223, c224, c225, c226, c227, c228, c229, c230, c231, c232, c233, c234, c235, c236, c237, c238, c239, c240, c241, c242, c243, c244, c245, c246, c247, c248, c249, c250, c251, c252, c253, c254, c255, c256, c257, c258, c259, c260, c261, c262, c263, c264, c265, c266, c267, c268, c269, c270, c271, c272, c273, c274, c275, c276, c277, c278, c279, c280, c281, c282, c283, c284, c285, c286, c287, c288, c289, c290, c291, c292, c293, c294, c295, c296, c297, c298, c299, c300, c301, c302, c303, c304, c305, c306, c307, c308, c309, c310, c311, c312, c313, c314, c315, c316, c317, c318, c319, c320, c321, c322, c323, c324, c325, c326, c327, c328, c329, c330, c331, c332, c333, c334, c335, c336, c337, c338, c339, c340], []⟩ W := by
  rw [rgB10_is]
  refine wp_region_held_drew (S := fun Y => Y.heap[gx]? = some (stO K0 A0 B0 C0 D N T)) (by kernel_rfl) (XX.drew.row mx) (fun hH => ?_)
  have hV := XX.drew
  clear XX
  obtain ⟨V0, hV0⟩ : ∃ V, W.drew = V := ⟨_, rfl⟩
  rw [hV0] at hH hV ⊢
  clear hV0
  obtain ⟨a0, ha⟩ : ∃ a : Act, a = ⟨#[.pointer (some ⟨g, 0, none⟩), rv, c2, c3, c4, .pointer (some ⟨gx, 0, none⟩), .int .i64 (i : Int), .int .i64 (k : Int), .int .i64 (c : Int), c9, c10, c11, c12, c13, c14, c15, c16, c17, c18, c19, c20, c21, c22, c23, c24, c25, c26, c27, c28, c29, c30, c31, c32, c33, c34, c35, c36, c37, c38, c39, c40, c41, c42, c43, c44, c45, c46, c47, c48, c49, c50, c51, c52, c53, c54, c55, c56, c57, c58, c59, c60, c61, c62, c63, c64, c65, c66, c67, c68, c69, c70, c71, c72, c73, c74, c75, c76, c77, c78, c79, c80, c81, c82, c83, c84, c85, c86, c87, c88, c89, c90, c91, c92, c93, c94, c95, c96, c97, c98, c99, c100, c101, c102, c103, c104, c105, c106, c107, c108, c109, c110, c111, c112, c113, c114, c115, c116, c117, c118, c119, c120, c121, c122, c123, c124, c125, c126, c127, c128, c129, c130, c131, c132, c133, c134, c135, c136, c137, c138, c139, c140, c141, c142, c143, c144, c145, c146, c147, c148, c149, c150, c151, c152, c153, c154, c155, c156, c157, c158, c159, c160, c161, c162, c163, c164, c165, c166, c167, c168, c169, c170, c171, c172, c173, c174, c175, c176, c177, c178, c179, c180, c181, c182, c183, c184, c185, c186, c187, c188, c189, c190, c191, c192, c193, c194, c195, c196, c197, c198, c199, c200, c201, c202, c203, c204, c205, c206, c207, c208, c209, c210, c211, c212, c213, c214, c215, c216, c217, c218, c219, c220, c221, c222, c223, c224, c225, c226, c227, c228, c229, c230, c231, c232, c233, c234, c235, c236, c237, c238, c239, c240, c241, c242, c243, c244, c245, c246, c247, c248, c249, c250, c251, c252, c253, c254, c255, c256, c257, c258, c259, c260, c261, c262, c263, c264, c265, c266, c267, c268, c269, c270, c271, c272, c273, c274, c275, c276, c277, c278, c279, c280, c281, c282, c283, c284, c285, c286, c287, c288, c289, c290, c291, c292, c293, c294, c295, c296, c297, c298, c299, c300, c301, c302, c303, c304, c305, c306, c307, c308, c309, c310, c311, c312, c313, c314, c315, c316, c317, c318, c319, c320, c321, c322, c323, c324, c325, c326, c327, c328, c329, c330, c331, c332, c333, c334, c335, c336, c337, c338, c339, c340], []⟩ := ⟨_, rfl⟩
  have sz0 : a0.tmps.size = 341 := by rw [ha]; kernel_rfl
  have e0_0 : a0.eval (.tmp 0) = .pointer (some ⟨g, 0, none⟩) := by rw [ha]; kernel_rfl
  have e0_6 : a0.eval (.tmp 6) = .int .i64 (i : Int) := by rw [ha]; kernel_rfl
  have e0_7 : a0.eval (.tmp 7) = .int .i64 (k : Int) := by rw [ha]; kernel_rfl
  have e0_8 : a0.eval (.tmp 8) = .int .i64 (c : Int) := by rw [ha]; kernel_rfl
  rw [← ha]
  refine wpAnyH_as (l' := #[false, false, false, false, false, false, false, false, false, false, false, false, false, false, false, false, false, false, false]) (by kernel_rfl) ?_
  refine takeH (v := .pointer (some ⟨g, 0, none⟩)) opB10_0 opB10_ns (by kernel_rfl) (by kernel_rfl) HPN (fun w hw o ho => run_move ho e0_0 w) hH ?_
  refine wpAnyH_as (l' := #[true, false, false, false, false, false, false, false, false, false, false, false, false, false, false, false, false, false, false]) (by kernel_rfl) ?_
  obtain ⟨a1, h1⟩ : ∃ a' : Act, a' = a0.put (some 59) (.pointer (some ⟨g, 0, none⟩)) := ⟨_, rfl⟩
  rw [← h1]
  have sz1 : a1.tmps.size = 341 := by rw [h1, size_put]; exact sz0
  have e1_0 : a1.eval (.tmp 0) = .pointer (some ⟨g, 0, none⟩) := by rw [h1, eval_put_ne _ _ _ _ (by decide)]; exact e0_0
  have e1_6 : a1.eval (.tmp 6) = .int .i64 (i : Int) := by rw [h1, eval_put_ne _ _ _ _ (by decide)]; exact e0_6
  have e1_7 : a1.eval (.tmp 7) = .int .i64 (k : Int) := by rw [h1, eval_put_ne _ _ _ _ (by decide)]; exact e0_7
  have e1_8 : a1.eval (.tmp 8) = .int .i64 (c : Int) := by rw [h1, eval_put_ne _ _ _ _ (by decide)]; exact e0_8
  have e1_59 : a1.eval (.tmp 59) = .pointer (some ⟨g, 0, none⟩) := by rw [h1]; exact eval_put_eq _ _ _ (by rw [sz0]; decide)
  clear e0_0 e0_6 e0_7 e0_8 sz0
  refine takeH (v := .int .i64 (c : Int)) opB10_1 opB10_ns (by kernel_rfl) (by kernel_rfl) HPN (fun w hw o ho => run_move ho e1_8 w) hH ?_
  refine wpAnyH_as (l' := #[true, true, false, false, false, false, false, false, false, false, false, false, false, false, false, false, false, false, false]) (by kernel_rfl) ?_
  obtain ⟨a2, h2⟩ : ∃ a' : Act, a' = a1.put (some 60) (.int .i64 (c : Int)) := ⟨_, rfl⟩
  rw [← h2]
  have sz2 : a2.tmps.size = 341 := by rw [h2, size_put]; exact sz1
  have e2_0 : a2.eval (.tmp 0) = .pointer (some ⟨g, 0, none⟩) := by rw [h2, eval_put_ne _ _ _ _ (by decide)]; exact e1_0
  have e2_6 : a2.eval (.tmp 6) = .int .i64 (i : Int) := by rw [h2, eval_put_ne _ _ _ _ (by decide)]; exact e1_6
  have e2_7 : a2.eval (.tmp 7) = .int .i64 (k : Int) := by rw [h2, eval_put_ne _ _ _ _ (by decide)]; exact e1_7
  have e2_59 : a2.eval (.tmp 59) = .pointer (some ⟨g, 0, none⟩) := by rw [h2, eval_put_ne _ _ _ _ (by decide)]; exact e1_59
  have e2_60 : a2.eval (.tmp 60) = .int .i64 (c : Int) := by rw [h2]; exact eval_put_eq _ _ _ (by rw [sz1]; decide)
  clear e1_0 e1_59 e1_6 e1_7 e1_8 sz1
  refine takeH (v := .pointer (some ⟨g, 0, none⟩)) opB10_2 opB10_ns (by kernel_rfl) (by kernel_rfl) HPN (fun w hw o ho => run_move ho e2_0 w) hH ?_
  refine wpAnyH_as (l' := #[true, true, true, false, false, false, false, false, false, false, false, false, false, false, false, false, false, false, false]) (by kernel_rfl) ?_
  obtain ⟨a3, h3⟩ : ∃ a' : Act, a' = a2.put (some 61) (.pointer (some ⟨g, 0, none⟩)) := ⟨_, rfl⟩
  rw [← h3]
  have sz3 : a3.tmps.size = 341 := by rw [h3, size_put]; exact sz2
  have e3_0 : a3.eval (.tmp 0) = .pointer (some ⟨g, 0, none⟩) := by rw [h3, eval_put_ne _ _ _ _ (by decide)]; exact e2_0
  have e3_6 : a3.eval (.tmp 6) = .int .i64 (i : Int) := by rw [h3, eval_put_ne _ _ _ _ (by decide)]; exact e2_6
  have e3_7 : a3.eval (.tmp 7) = .int .i64 (k : Int) := by rw [h3, eval_put_ne _ _ _ _ (by decide)]; exact e2_7
  have e3_59 : a3.eval (.tmp 59) = .pointer (some ⟨g, 0, none⟩) := by rw [h3, eval_put_ne _ _ _ _ (by decide)]; exact e2_59
  have e3_60 : a3.eval (.tmp 60) = .int .i64 (c : Int) := by rw [h3, eval_put_ne _ _ _ _ (by decide)]; exact e2_60
  have e3_61 : a3.eval (.tmp 61) = .pointer (some ⟨g, 0, none⟩) := by rw [h3]; exact eval_put_eq _ _ _ (by rw [sz2]; decide)
  clear e2_0 e2_59 e2_6 e2_60 e2_7 sz2
  refine takeH (v := .int .i64 (i : Int)) opB10_3 opB10_ns (by kernel_rfl) (by kernel_rfl) HPN (fun w hw o ho => run_move ho e3_6 w) hH ?_
  refine wpAnyH_as (l' := #[true, true, true, true, false, false, false, false, false, false, false, false, false, false, false, false, false, false, false]) (by kernel_rfl) ?_
  obtain ⟨a4, h4⟩ : ∃ a' : Act, a' = a3.put (some 62) (.int .i64 (i : Int)) := ⟨_, rfl⟩
  rw [← h4]
  have sz4 : a4.tmps.size = 341 := by rw [h4, size_put]; exact sz3
  have e4_0 : a4.eval (.tmp 0) = .pointer (some ⟨g, 0, none⟩) := by rw [h4, eval_put_ne _ _ _ _ (by decide)]; exact e3_0
  have e4_7 : a4.eval (.tmp 7) = .int .i64 (k : Int) := by rw [h4, eval_put_ne _ _ _ _ (by decide)]; exact e3_7
  have e4_59 : a4.eval (.tmp 59) = .pointer (some ⟨g, 0, none⟩) := by rw [h4, eval_put_ne _ _ _ _ (by decide)]; exact e3_59
  have e4_60 : a4.eval (.tmp 60) = .int .i64 (c : Int) := by rw [h4, eval_put_ne _ _ _ _ (by decide)]; exact e3_60
  have e4_61 : a4.eval (.tmp 61) = .pointer (some ⟨g, 0, none⟩) := by rw [h4, eval_put_ne _ _ _ _ (by decide)]; exact e3_61
  have e4_62 : a4.eval (.tmp 62) = .int .i64 (i : Int) := by rw [h4]; exact eval_put_eq _ _ _ (by rw [sz3]; decide)
  clear e3_0 e3_59 e3_6 e3_60 e3_61 e3_7 sz3
  refine takeH (v := .pointer (some ⟨g, 0, none⟩)) opB10_4 opB10_ns (by kernel_rfl) (by kernel_rfl) HPN (fun w hw o ho => run_nilCheck ho e4_61 w) hH ?_
  refine wpAnyH_as (l' := #[true, true, true, true, true, false, false, false, false, false, false, false, false, false, false, false, false, false, false]) (by kernel_rfl) ?_
  obtain ⟨a5, h5⟩ : ∃ a' : Act, a' = a4.put (some 63) (.pointer (some ⟨g, 0, none⟩)) := ⟨_, rfl⟩
  rw [← h5]
  have sz5 : a5.tmps.size = 341 := by rw [h5, size_put]; exact sz4
  have e5_0 : a5.eval (.tmp 0) = .pointer (some ⟨g, 0, none⟩) := by rw [h5, eval_put_ne _ _ _ _ (by decide)]; exact e4_0
  have e5_7 : a5.eval (.tmp 7) = .int .i64 (k : Int) := by rw [h5, eval_put_ne _ _ _ _ (by decide)]; exact e4_7
  have e5_59 : a5.eval (.tmp 59) = .pointer (some ⟨g, 0, none⟩) := by rw [h5, eval_put_ne _ _ _ _ (by decide)]; exact e4_59
  have e5_60 : a5.eval (.tmp 60) = .int .i64 (c : Int) := by rw [h5, eval_put_ne _ _ _ _ (by decide)]; exact e4_60
  have e5_62 : a5.eval (.tmp 62) = .int .i64 (i : Int) := by rw [h5, eval_put_ne _ _ _ _ (by decide)]; exact e4_62
  have e5_63 : a5.eval (.tmp 63) = .pointer (some ⟨g, 0, none⟩) := by rw [h5]; exact eval_put_eq _ _ _ (by rw [sz4]; decide)
  clear e4_0 e4_59 e4_60 e4_61 e4_62 e4_7 sz4
  refine takeH (v := .pointer (some ⟨g, 40, none⟩)) opB10_5 opB10_ns (by kernel_rfl) (by kernel_rfl) HPN (fun w hw o ho => run_fieldN ho e5_63 w) hH ?_
  refine wpAnyH_as (l' := #[true, true, true, true, true, true, false, false, false, false, false, false, false, false, false, false, false, false, false]) (by kernel_rfl) ?_
  obtain ⟨a6, h6⟩ : ∃ a' : Act, a' = a5.put (some 64) (.pointer (some ⟨g, 40, none⟩)) := ⟨_, rfl⟩
  rw [← h6]
  have sz6 : a6.tmps.size = 341 := by rw [h6, size_put]; exact sz5
  have e6_0 : a6.eval (.tmp 0) = .pointer (some ⟨g, 0, none⟩) := by rw [h6, eval_put_ne _ _ _ _ (by decide)]; exact e5_0
  have e6_7 : a6.eval (.tmp 7) = .int .i64 (k : Int) := by rw [h6, eval_put_ne _ _ _ _ (by decide)]; exact e5_7
  have e6_59 : a6.eval (.tmp 59) = .pointer (some ⟨g, 0, none⟩) := by rw [h6, eval_put_ne _ _ _ _ (by decide)]; exact e5_59
  have e6_60 : a6.eval (.tmp 60) = .int .i64 (c : Int) := by rw [h6, eval_put_ne _ _ _ _ (by decide)]; exact e5_60
  have e6_62 : a6.eval (.tmp 62) = .int .i64 (i : Int) := by rw [h6, eval_put_ne _ _ _ _ (by decide)]; exact e5_62
  have e6_64 : a6.eval (.tmp 64) = .pointer (some ⟨g, 40, none⟩) := by rw [h6]; exact eval_put_eq _ _ _ (by rw [sz5]; decide)
  clear e5_0 e5_59 e5_60 e5_62 e5_63 e5_7 sz5
  refine takeH (v := .pointer (some ⟨g, 40 + i * 16, none⟩)) opB10_6 opB10_ns (by kernel_rfl) (by kernel_rfl) HPN (fun w hw o ho => run_indexN hi8.out ho e6_64 e6_62 w) hH ?_
  refine wpAnyH_as (l' := #[true, true, true, true, true, true, true, false, false, false, false, false, false, false, false, false, false, false, false]) (by kernel_rfl) ?_
  obtain ⟨a7, h7⟩ : ∃ a' : Act, a' = a6.put (some 65) (.pointer (some ⟨g, 40 + i * 16, none⟩)) := ⟨_, rfl⟩
  rw [← h7]
  have sz7 : a7.tmps.size = 341 := by rw [h7, size_put]; exact sz6
  have e7_0 : a7.eval (.tmp 0) = .pointer (some ⟨g, 0, none⟩) := by rw [h7, eval_put_ne _ _ _ _ (by decide)]; exact e6_0
  have e7_7 : a7.eval (.tmp 7) = .int .i64 (k : Int) := by rw [h7, eval_put_ne _ _ _ _ (by decide)]; exact e6_7
  have e7_59 : a7.eval (.tmp 59) = .pointer (some ⟨g, 0, none⟩) := by rw [h7, eval_put_ne _ _ _ _ (by decide)]; exact e6_59
  have e7_60 : a7.eval (.tmp 60) = .int .i64 (c : Int) := by rw [h7, eval_put_ne _ _ _ _ (by decide)]; exact e6_60
  have e7_65 : a7.eval (.tmp 65) = .pointer (some ⟨g, 40 + i * 16, none⟩) := by rw [h7]; exact eval_put_eq _ _ _ (by rw [sz6]; decide)
  clear e6_0 e6_59 e6_60 e6_62 e6_64 e6_7 sz6
  refine takeH (v := .pointer (some ⟨g, 0, none⟩)) opB10_8 opB10_ns (by kernel_rfl) (by kernel_rfl) HPN (fun w hw o ho => run_move ho e7_0 w) hH ?_
  refine wpAnyH_as (l' := #[true, true, true, true, true, true, true, false, true, false, false, false, false, false, false, false, false, false, false]) (by kernel_rfl) ?_
  obtain ⟨a8, h8⟩ : ∃ a' : Act, a' = a7.put (some 67) (.pointer (some ⟨g, 0, none⟩)) := ⟨_, rfl⟩
  rw [← h8]
  have sz8 : a8.tmps.size = 341 := by rw [h8, size_put]; exact sz7
  have e8_7 : a8.eval (.tmp 7) = .int .i64 (k : Int) := by rw [h8, eval_put_ne _ _ _ _ (by decide)]; exact e7_7
  have e8_59 : a8.eval (.tmp 59) = .pointer (some ⟨g, 0, none⟩) := by rw [h8, eval_put_ne _ _ _ _ (by decide)]; exact e7_59
  have e8_60 : a8.eval (.tmp 60) = .int .i64 (c : Int) := by rw [h8, eval_put_ne _ _ _ _ (by decide)]; exact e7_60
  have e8_65 : a8.eval (.tmp 65) = .pointer (some ⟨g, 40 + i * 16, none⟩) := by rw [h8, eval_put_ne _ _ _ _ (by decide)]; exact e7_65
  have e8_67 : a8.eval (.tmp 67) = .pointer (some ⟨g, 0, none⟩) := by rw [h8]; exact eval_put_eq _ _ _ (by rw [sz7]; decide)
  clear e7_0 e7_59 e7_60 e7_65 e7_7 sz7
  refine takeH (v := .int .i64 (k : Int)) opB10_9 opB10_ns (by kernel_rfl) (by kernel_rfl) HPN (fun w hw o ho => run_move ho e8_7 w) hH ?_
  refine wpAnyH_as (l' := #[true, true, true, true, true, true, true, false, true, true, false, false, false, false, false, false, false, false, false]) (by kernel_rfl) ?_
  obtain ⟨a9, h9⟩ : ∃ a' : Act, a' = a8.put (some 68) (.int .i64 (k : Int)) := ⟨_, rfl⟩
  rw [← h9]
  have sz9 : a9.tmps.size = 341 := by rw [h9, size_put]; exact sz8
  have e9_59 : a9.eval (.tmp 59) = .pointer (some ⟨g, 0, none⟩) := by rw [h9, eval_put_ne _ _ _ _ (by decide)]; exact e8_59
  have e9_60 : a9.eval (.tmp 60) = .int .i64 (c : Int) := by rw [h9, eval_put_ne _ _ _ _ (by decide)]; exact e8_60
  have e9_65 : a9.eval (.tmp 65) = .pointer (some ⟨g, 40 + i * 16, none⟩) := by rw [h9, eval_put_ne _ _ _ _ (by decide)]; exact e8_65
  have e9_67 : a9.eval (.tmp 67) = .pointer (some ⟨g, 0, none⟩) := by rw [h9, eval_put_ne _ _ _ _ (by decide)]; exact e8_67
  have e9_68 : a9.eval (.tmp 68) = .int .i64 (k : Int) := by rw [h9]; exact eval_put_eq _ _ _ (by rw [sz8]; decide)
  clear e8_59 e8_60 e8_65 e8_67 e8_7 sz8
  refine takeH (v := .pointer (some ⟨g, 0, none⟩)) opB10_10 opB10_ns (by kernel_rfl) (by kernel_rfl) HPN (fun w hw o ho => run_nilCheck ho e9_67 w) hH ?_
  refine wpAnyH_as (l' := #[true, true, true, true, true, true, true, false, true, true, true, false, false, false, false, false, false, false, false]) (by kernel_rfl) ?_
  obtain ⟨a10, h10⟩ : ∃ a' : Act, a' = a9.put (some 69) (.pointer (some ⟨g, 0, none⟩)) := ⟨_, rfl⟩
  rw [← h10]
  have sz10 : a10.tmps.size = 341 := by rw [h10, size_put]; exact sz9
  have e10_59 : a10.eval (.tmp 59) = .pointer (some ⟨g, 0, none⟩) := by rw [h10, eval_put_ne _ _ _ _ (by decide)]; exact e9_59
  have e10_60 : a10.eval (.tmp 60) = .int .i64 (c : Int) := by rw [h10, eval_put_ne _ _ _ _ (by decide)]; exact e9_60
  have e10_65 : a10.eval (.tmp 65) = .pointer (some ⟨g, 40 + i * 16, none⟩) := by rw [h10, eval_put_ne _ _ _ _ (by decide)]; exact e9_65
  have e10_68 : a10.eval (.tmp 68) = .int .i64 (k : Int) := by rw [h10, eval_put_ne _ _ _ _ (by decide)]; exact e9_68
  have e10_69 : a10.eval (.tmp 69) = .pointer (some ⟨g, 0, none⟩) := by rw [h10]; exact eval_put_eq _ _ _ (by rw [sz9]; decide)
  clear e9_59 e9_60 e9_65 e9_67 e9_68 sz9
  refine takeH (v := .pointer (some ⟨g, 40, none⟩)) opB10_11 opB10_ns (by kernel_rfl) (by kernel_rfl) HPN (fun w hw o ho => run_fieldN ho e10_69 w) hH ?_
  refine wpAnyH_as (l' := #[true, true, true, true, true, true, true, false, true, true, true, true, false, false, false, false, false, false, false]) (by kernel_rfl) ?_
  obtain ⟨a11, h11⟩ : ∃ a' : Act, a' = a10.put (some 70) (.pointer (some ⟨g, 40, none⟩)) := ⟨_, rfl⟩
  rw [← h11]
  have sz11 : a11.tmps.size = 341 := by rw [h11, size_put]; exact sz10
  have e11_59 : a11.eval (.tmp 59) = .pointer (some ⟨g, 0, none⟩) := by rw [h11, eval_put_ne _ _ _ _ (by decide)]; exact e10_59
  have e11_60 : a11.eval (.tmp 60) = .int .i64 (c : Int) := by rw [h11, eval_put_ne _ _ _ _ (by decide)]; exact e10_60
  have e11_65 : a11.eval (.tmp 65) = .pointer (some ⟨g, 40 + i * 16, none⟩) := by rw [h11, eval_put_ne _ _ _ _ (by decide)]; exact e10_65
  have e11_68 : a11.eval (.tmp 68) = .int .i64 (k : Int) := by rw [h11, eval_put_ne _ _ _ _ (by decide)]; exact e10_68
  have e11_70 : a11.eval (.tmp 70) = .pointer (some ⟨g, 40, none⟩) := by rw [h11]; exact eval_put_eq _ _ _ (by rw [sz10]; decide)
  clear e10_59 e10_60 e10_65 e10_68 e10_69 sz10
  refine takeH (v := .pointer (some ⟨g, 40 + k * 16, none⟩)) opB10_12 opB10_ns (by kernel_rfl) (by kernel_rfl) HPN (fun w hw o ho => run_indexN hk8.out ho e11_70 e11_68 w) hH ?_
  refine wpAnyH_as (l' := #[true, true, true, true, true, true, true, false, true, true, true, true, true, false, false, false, false, false, false]) (by kernel_rfl) ?_
  obtain ⟨a12, h12⟩ : ∃ a' : Act, a' = a11.put (some 71) (.pointer (some ⟨g, 40 + k * 16, none⟩)) := ⟨_, rfl⟩
  rw [← h12]
  have sz12 : a12.tmps.size = 341 := by rw [h12, size_put]; exact sz11
  have e12_59 : a12.eval (.tmp 59) = .pointer (some ⟨g, 0, none⟩) := by rw [h12, eval_put_ne _ _ _ _ (by decide)]; exact e11_59
  have e12_60 : a12.eval (.tmp 60) = .int .i64 (c : Int) := by rw [h12, eval_put_ne _ _ _ _ (by decide)]; exact e11_60
  have e12_65 : a12.eval (.tmp 65) = .pointer (some ⟨g, 40 + i * 16, none⟩) := by rw [h12, eval_put_ne _ _ _ _ (by decide)]; exact e11_65
  have e12_71 : a12.eval (.tmp 71) = .pointer (some ⟨g, 40 + k * 16, none⟩) := by rw [h12]; exact eval_put_eq _ _ _ (by rw [sz11]; decide)
  clear e11_59 e11_60 e11_65 e11_68 e11_70 sz11
  refine takeH (v := .pointer (some ⟨g, 0, none⟩)) opB10_15 opB10_ns (by kernel_rfl) (by kernel_rfl) HPN (fun w hw o ho => run_nilCheck ho e12_59 w) hH ?_
  refine wpAnyH_as (l' := #[true, true, true, true, true, true, true, false, true, true, true, true, true, false, false, true, false, false, false]) (by kernel_rfl) ?_
  obtain ⟨a13, h13⟩ : ∃ a' : Act, a' = a12.put (some 74) (.pointer (some ⟨g, 0, none⟩)) := ⟨_, rfl⟩
  rw [← h13]
  have sz13 : a13.tmps.size = 341 := by rw [h13, size_put]; exact sz12
  have e13_60 : a13.eval (.tmp 60) = .int .i64 (c : Int) := by rw [h13, eval_put_ne _ _ _ _ (by decide)]; exact e12_60
  have e13_65 : a13.eval (.tmp 65) = .pointer (some ⟨g, 40 + i * 16, none⟩) := by rw [h13, eval_put_ne _ _ _ _ (by decide)]; exact e12_65
  have e13_71 : a13.eval (.tmp 71) = .pointer (some ⟨g, 40 + k * 16, none⟩) := by rw [h13, eval_put_ne _ _ _ _ (by decide)]; exact e12_71
  have e13_74 : a13.eval (.tmp 74) = .pointer (some ⟨g, 0, none⟩) := by rw [h13]; exact eval_put_eq _ _ _ (by rw [sz12]; decide)
  clear e12_59 e12_60 e12_65 e12_71 sz12
  refine takeH (v := .pointer (some ⟨g, 40, none⟩)) opB10_16 opB10_ns (by kernel_rfl) (by kernel_rfl) HPN (fun w hw o ho => run_fieldN ho e13_74 w) hH ?_
  refine wpAnyH_as (l' := #[true, true, true, true, true, true, true, false, true, true, true, true, true, false, false, true, true, false, false]) (by kernel_rfl) ?_
  obtain ⟨a14, h14⟩ : ∃ a' : Act, a' = a13.put (some 75) (.pointer (some ⟨g, 40, none⟩)) := ⟨_, rfl⟩
  rw [← h14]
  have sz14 : a14.tmps.size = 341 := by rw [h14, size_put]; exact sz13
  have e14_60 : a14.eval (.tmp 60) = .int .i64 (c : Int) := by rw [h14, eval_put_ne _ _ _ _ (by decide)]; exact e13_60
  have e14_65 : a14.eval (.tmp 65) = .pointer (some ⟨g, 40 + i * 16, none⟩) := by rw [h14, eval_put_ne _ _ _ _ (by decide)]; exact e13_65
  have e14_71 : a14.eval (.tmp 71) = .pointer (some ⟨g, 40 + k * 16, none⟩) := by rw [h14, eval_put_ne _ _ _ _ (by decide)]; exact e13_71
  have e14_75 : a14.eval (.tmp 75) = .pointer (some ⟨g, 40, none⟩) := by rw [h14]; exact eval_put_eq _ _ _ (by rw [sz13]; decide)
  clear e13_60 e13_65 e13_71 e13_74 sz13
  refine readyLd2 (v := .agg (VI .i64 (dg (ns i)))) (u := .agg (VI .i64 (dg (ns k)))) opB10_7 opB10_13 (by decide) (by decide) (by kernel_rfl) (by kernel_rfl) (by kernel_rfl) hH (fun o ho => run_loadN (dg_len _) ho e14_65 _ (hV.bn.rangeN hi8.out)) (fun o ho => run_loadN (dg_len _) ho e14_71 _ (hV.bn.rangeN hk8.out)) (fun o ho => run_loadN (dg_len _) ho ((eval_put_ne _ _ _ _ (by decide)).trans e14_65) _ (hV.bn.rangeN hi8.out)) (fun o ho => run_loadN (dg_len _) ho ((eval_put_ne _ _ _ _ (by decide)).trans e14_71) _ (hV.bn.rangeN hk8.out)) ?_
  refine wpAnyH_as (l' := #[true, true, true, true, true, true, true, true, true, true, true, true, true, true, false, true, true, false, false]) (by kernel_rfl) ?_
  obtain ⟨a15, h15⟩ : ∃ a' : Act, a' = a14.put (some 66) (.agg (VI .i64 (dg (ns i)))) := ⟨_, rfl⟩
  rw [← h15]
  have sz15 : a15.tmps.size = 341 := by rw [h15, size_put]; exact sz14
  have e15_60 : a15.eval (.tmp 60) = .int .i64 (c : Int) := by rw [h15, eval_put_ne _ _ _ _ (by decide)]; exact e14_60
  have e15_75 : a15.eval (.tmp 75) = .pointer (some ⟨g, 40, none⟩) := by rw [h15, eval_put_ne _ _ _ _ (by decide)]; exact e14_75
  have e15_66 : a15.eval (.tmp 66) = .agg (VI .i64 (dg (ns i))) := by rw [h15]; exact eval_put_eq _ _ _ (by rw [sz14]; decide)
  clear e14_60 e14_65 e14_71 e14_75 sz14
  obtain ⟨a16, h16⟩ : ∃ a' : Act, a' = a15.put (some 72) (.agg (VI .i64 (dg (ns k)))) := ⟨_, rfl⟩
  rw [← h16]
  have sz16 : a16.tmps.size = 341 := by rw [h16, size_put]; exact sz15
  have e16_60 : a16.eval (.tmp 60) = .int .i64 (c : Int) := by rw [h16, eval_put_ne _ _ _ _ (by decide)]; exact e15_60
  have e16_75 : a16.eval (.tmp 75) = .pointer (some ⟨g, 40, none⟩) := by rw [h16, eval_put_ne _ _ _ _ (by decide)]; exact e15_75
  have e16_66 : a16.eval (.tmp 66) = .agg (VI .i64 (dg (ns i))) := by rw [h16, eval_put_ne _ _ _ _ (by decide)]; exact e15_66
  have e16_72 : a16.eval (.tmp 72) = .agg (VI .i64 (dg (ns k))) := by rw [h16]; exact eval_put_eq _ _ _ (by rw [sz15]; decide)
  clear e15_60 e15_66 e15_75 sz15
  refine readyH opB10_14 (by kernel_rfl) (fun o ho hd => wpCall (v := .agg (VI .i64 (dg m))) ho hd (args := #[.agg (VI .i64 (dg (ns i))), .agg (VI .i64 (dg (ns k)))]) (by simp only [List.map_toArray, List.map_cons, List.map_nil, e16_66, e16_72] <;> rfl) (fun _ => rfl) (HC.out _) (fun w1 hw1 => ?_))
  have hV1 := hV.below hw1
  refine ⟨hV1.row mx, ?_⟩
  have hH := hV1.row mx
  refine wpAnyH_as (l' := #[true, true, true, true, true, true, true, true, true, true, true, true, true, true, true, true, true, false, false]) (by kernel_rfl) ?_
  obtain ⟨a17, h17⟩ : ∃ a' : Act, a' = a16.put (some 73) (.agg (VI .i64 (dg m))) := ⟨_, rfl⟩
  rw [← h17]
  have sz17 : a17.tmps.size = 341 := by rw [h17, size_put]; exact sz16
  have e17_60 : a17.eval (.tmp 60) = .int .i64 (c : Int) := by rw [h17, eval_put_ne _ _ _ _ (by decide)]; exact e16_60
  have e17_75 : a17.eval (.tmp 75) = .pointer (some ⟨g, 40, none⟩) := by rw [h17, eval_put_ne _ _ _ _ (by decide)]; exact e16_75
  have e17_73 : a17.eval (.tmp 73) = .agg (VI .i64 (dg m)) := by rw [h17]; exact eval_put_eq _ _ _ (by rw [sz16]; decide)
  clear e16_60 e16_66 e16_72 e16_75 sz16
  refine takeH (v := .pointer (some ⟨g, 40 + c * 16, none⟩)) opB10_17 opB10_ns (by kernel_rfl) (by kernel_rfl) HPN (fun w hw o ho => run_indexN hc8.out ho e17_75 e17_60 w) hH ?_
  refine wpAnyH_as (l' := #[true, true, true, true, true, true, true, true, true, true, true, true, true, true, true, true, true, true, false]) (by kernel_rfl) ?_
  obtain ⟨a18, h18⟩ : ∃ a' : Act, a' = a17.put (some 76) (.pointer (some ⟨g, 40 + c * 16, none⟩)) := ⟨_, rfl⟩
  rw [← h18]
  have sz18 : a18.tmps.size = 341 := by rw [h18, size_put]; exact sz17
  have e18_73 : a18.eval (.tmp 73) = .agg (VI .i64 (dg m)) := by rw [h18, eval_put_ne _ _ _ _ (by decide)]; exact e17_73
  have e18_76 : a18.eval (.tmp 76) = .pointer (some ⟨g, 40 + c * 16, none⟩) := by rw [h18]; exact eval_put_eq _ _ _ (by rw [sz17]; decide)
  clear e17_60 e17_73 e17_75 sz17
  refine readyH opB10_18 (by kernel_rfl) (fun o ho hd => wp_store_mid _ _ _ ho g (40 + c * 16) (VI .i64 (dg m)) e18_76 e18_73 (by rw [VI_size, dg_len]; exact hV1.bn.thereN hc8.out) (by rw [VI_size, dg_len]; kernel_rfl) (VI_one _ _) ?_)
  have hE := hV1.setN hc8.out hm.out
  rw [hd]
  refine ⟨hE.row mx, ?_⟩
  refine wpAnyH_as (l' := #[true, true, true, true, true, true, true, true, true, true, true, true, true, true, true, true, true, true, true]) (by kernel_rfl) ?_
  refine wpAnyH_done (by kernel_rfl) ?_ _
  have hF : a18 = ⟨#[.pointer (some ⟨g, 0, none⟩), rv, c2, c3, c4, .pointer (some ⟨gx, 0, none⟩), .int .i64 (i : Int), .int .i64 (k : Int), .int .i64 (c : Int), c9, c10, c11, c12, c13, c14, c15, c16, c17, c18, c19, c20, c21, c22, c23, c24, c25, c26, c27, c28, c29, c30, c31, c32, c33, c34, c35, c36, c37, c38, c39, c40, c41, c42, c43, c44, c45, c46, c47, c48, c49, c50, c51, c52, c53, c54, c55, c56, c57, c58, .pointer (some ⟨g, 0, none⟩), .int .i64 (c : Int), .pointer (some ⟨g, 0, none⟩), .int .i64 (i : Int), .pointer (some ⟨g, 0, none⟩), .pointer (some ⟨g, 40, none⟩), .pointer (some ⟨g, 40 + i * 16, none⟩), .agg (VI .i64 (dg (ns i))), .pointer (some ⟨g, 0, none⟩), .int .i64 (k : Int), .pointer (some ⟨g, 0, none⟩), .pointer (some ⟨g, 40, none⟩), .pointer (some ⟨g, 40 + k * 16, none⟩), .agg (VI .i64 (dg (ns k))), .agg (VI .i64 (dg m)), .pointer (some ⟨g, 0, none⟩), .pointer (some ⟨g, 40, none⟩), .pointer (some ⟨g, 40 + c * 16, none⟩), c77, c78, c79, c80, c81, c82, c83, c84, c85, c86, c87, c88, c89, c90, c91, c92, c93, c94, c95, c96, c97, c98, c99, c100, c101, c102, c103, c104, c105, c106, c107, c108, c109, c110, c111, c112, c113, c114, c115, c116, c117, c118, c119, c120, c121, c122, c123, c124, c125, c126, c127, c128, c129, c130, c131, c132, c133, c134, c135, c136, c137, c138, c139, c140, c141, c142, c143, c144, c145, c146, c147, c148, c149, c150, c151, c152, c153, c154, c155, c156, c157, c158, c159, c160, c161, c162, c163, c164, c165, c166, c167, c168, c169, c170, c171, c172, c173, c174, c175, c176, c177, c178, c179, c180, c181, c182, c183, c184, c185, c186, c187, c188, c189, c190, c191, c192, c193, c194, c195, c196, c197, c198, c199, c200, c201, c202, c203, c204, c205, c206, c207, c208, c209, c210, c211, c212, c213, c214, c215, c216, c217, c218, c219, c220, c221, c222, c223, c224, c225, c226, c227, c228, c229, c230, c231, c232, c233, c234, c235, c236, c237, c238, c239, c240, c241, c242, c243, c244, c245, c246, c247, c248, c249, c250, c251, c252, c253, c254, c255, c256, c257, c258, c259, c260, c261, c262, c263, c264, c265, c266, c267, c268, c269, c270, c271, c272, c273, c274, c275, c276, c277, c278, c279, c280, c281, c282, c283, c284, c285, c286, c287, c288, c289, c290, c291, c292, c293, c294, c295, c296, c297, c298, c299, c300, c301, c302, c303, c304, c305, c306, c307, c308, c309, c310, c311, c312, c313, c314, c315, c316, c317, c318, c319, c320, c321, c322, c323, c324, c325, c326, c327, c328, c329, c330, c331, c332, c333, c334, c335, c336, c337, c338, c339, c340], []⟩ := by rw [h18, h17, h16, h15, h14, h13, h12, h11, h10, h9, h8, h7, h6, h5, h4, h3, h2, h1, ha]; kernel_rfl
  show Q .normal (a18.put none undef) _
  rw [show a18.put none undef = a18 from rfl, hF]
  exact H _ hE
end Go.Proofs.Ytacofgmnmofkpaa
