import Derived.Test.YtgfamcadgahiiaaMmae
namespace Go.Proofs.Ytgfamcadgahiiaa
set_option linter.unusedSimpArgs false
set_option linter.unusedVariables false
open Go.ChangeShapes Go.WideShapes Go.ChangeAt Go.RowKit Go.Pin Go.Prm
noncomputable def rgWr1 : Code := ((Try.f16.body.bind (findReg 1)).getD .skip)
noncomputable def opWr1 : Array Oper := opsOf rgWr1
theorem rgWr1_is : rgWr1 = .region 1 opWr1 true := by kernel_rfl
theorem opWr1_ns : Region.noSelect opWr1 = true := by kernel_rfl
theorem opWr1_0 : opIs opWr1 0 (.move (.tmp 0)) (some 7) := by unfold opIs; kernel_rfl
theorem opWr1_1 : opIs opWr1 1 (.nilCheck (.tmp 7)) (some 8) := by unfold opIs; kernel_rfl
theorem opWr1_2 : opIs opWr1 2 (.fieldAddr 69 (.tmp 8) 0) (some 9) := by unfold opIs; kernel_rfl
theorem opWr1_3 : opIs opWr1 3 (.load 25 (.tmp 9)) (some 10) := by unfold opIs; kernel_rfl
theorem opWr1_4 : opIs opWr1 4 (.move (.tmp 0)) (some 11) := by unfold opIs; kernel_rfl
theorem opWr1_5 : opIs opWr1 5 (.nilCheck (.tmp 11)) (some 12) := by unfold opIs; kernel_rfl
theorem opWr1_6 : opIs opWr1 6 (.fieldAddr 69 (.tmp 12) 5) (some 13) := by unfold opIs; kernel_rfl
theorem opWr1_7 : opIs opWr1 7 (.load 3 (.tmp 13)) (some 14) := by unfold opIs; kernel_rfl
theorem opWr1_8 : opIs opWr1 8 (.binOp .gtr 3 (.tmp 14) (.const (.int .i64 0)) 3) (some 15) := by unfold opIs; kernel_rfl
theorem opWr1_9 : opIs opWr1 9 (.call { callee := .value (.func 36), args := #[.tmp 10, .tmp 15], argTypes := #[25, 4] }) (some 16) := by unfold opIs; kernel_rfl
set_option maxRecDepth 100000 in
set_option maxHeartbeats 4000000 in
theorem Wr1 {Q : Exit → Act → World → Prop} {W : World} {R0 : World → Prop} {R1 : World → Prop} {g h : Nat} {rv : Value} {r m s b : List Int} {c1 c2 c3 c4 c5 c6 c7 c8 c9 c10 c11 c12 c13 c14 c15 c16 c17 c18 c19 c20 c21 c22 c23 c24 c25 c26 c27 c28 c29 c30 c31 c32 c33 c34 c35 c36 c37 c38 c39 c40 c41 c42 c43 c44 c45 c46 c47 c48 c49 c50 c51 c52 c53 c54 c55 c56 c57 c58 c59 c60 c61 c62 c63 c64 c65 c66 c67 c68 c69 c70 c71 c72 c73 c74 c75 c76 c77 c78 c79 c80 c81 c82 c83 c84 c85 c86 c87 c88 c89 c90 c91 c92 c93 c94 c95 c96 c97 c98 c99 c100 c101 c102 : Value}
    (hM : Hid (MS r m s b))
    (hR0 : R0 W.drew) (HS0 : ∀ Y, R0 Y → (fun Y : World => Y.heap[g]? = some (macO rv r m s b h) ∧ True) Y)
    (HK0 : Hid (∀ Y, R0 Y → Calls Try.prog 36 #[rv, .bool (decide (0 < h))] Y fun e w' => e = .returned (.bool (decide (0 < h))) ∧ R1 w'))
    (HS1 : ∀ Y, R1 Y → (fun Y : World => Y.heap[g]? = some (macO rv r m s b h) ∧ True) Y)
    (HPN : ∀ c (a : Act) d v w, Q (.panic c) (a.put d v) w → Q (.panic c) a w)
    (H : ∀ W', R1 W' → Q .normal ⟨#[.pointer (some ⟨g, 0, none⟩), c1, c2, c3, c4, c5, c6, .pointer (some ⟨g, 0, none⟩), .pointer (some ⟨g, 0, none⟩), .pointer (some ⟨g, 0, none⟩), rv, .pointer (some ⟨g, 0, none⟩), .pointer (some ⟨g, 0, none⟩), .pointer (some ⟨g, 44, none⟩), .int .i64 ((h : Nat) : Int), .bool (decide (0 < h)), .bool (decide (0 < h)), c17, c18, c19, c20, c21, c22, c23, c24, c25, c26, c27, c28, c29, c30, c31, c32, c33, c34, c35, c36, c37, c38, c39, c40, c41, c42, c43, c44, c45, c46, c47, c48, c49, c50, c51, c52, c53, c54, c55, c56, c57, c58, c59, c60, c61, c62, c63, c64, c65, c66, c67, c68, c69, c70, c71, c72, c73, c74, c75, c76, c77, c78, c79, c80, c81, c82, c83, c84, c85, c86, c87, c88, c89, c90, c91, c92, c93, c94, c95, c96, c97, c98, c99, c100, c101, c102], []⟩ W') :
    Code.wp Try.prog rgWr1 Q ⟨#[.pointer (some ⟨g, 0, none⟩), c1, c2, c3, c4, c5, c6, c7, c8, c9, c10, c11, c12, c13, c14, c15, c16, c17, c18, c19, c20, c21, c22, c23, c24, c25, c26, c27, c28, c29, c30, c31, c32, c33, c34, c35, c36, c37, c38, c39, c40, c41, c42, c43, c44, c45, c46, c47, c48, c49, c50, c51, c52, c53, c54, c55, c56, c57, c58, c59, c60, c61, c62, c63, c64, c65, c66, c67, c68, c69, c70, c71, c72, c73, c74, c75, c76, c77, c78, c79, c80, c81, c82, c83, c84, c85, c86, c87, c88, c89, c90, c91, c92, c93, c94, c95, c96, c97, c98, c99, c100, c101, c102], []⟩ W := by
  rw [rgWr1_is]
  refine wp_region_held_drew (S := fun Y : World => Y.heap[g]? = some (macO rv r m s b h) ∧ True) (by kernel_rfl) (HS0 _ hR0) (fun hH => ?_)
  obtain ⟨w0, hw00⟩ : ∃ V, W.drew = V := ⟨_, rfl⟩
  clear hH
  rw [hw00] at hR0 ⊢
  have hH := HS0 _ hR0
  have hw0 := hR0
  clear hw00
  obtain ⟨a0, ha⟩ : ∃ a : Act, a = ⟨#[.pointer (some ⟨g, 0, none⟩), c1, c2, c3, c4, c5, c6, c7, c8, c9, c10, c11, c12, c13, c14, c15, c16, c17, c18, c19, c20, c21, c22, c23, c24, c25, c26, c27, c28, c29, c30, c31, c32, c33, c34, c35, c36, c37, c38, c39, c40, c41, c42, c43, c44, c45, c46, c47, c48, c49, c50, c51, c52, c53, c54, c55, c56, c57, c58, c59, c60, c61, c62, c63, c64, c65, c66, c67, c68, c69, c70, c71, c72, c73, c74, c75, c76, c77, c78, c79, c80, c81, c82, c83, c84, c85, c86, c87, c88, c89, c90, c91, c92, c93, c94, c95, c96, c97, c98, c99, c100, c101, c102], []⟩ := ⟨_, rfl⟩
  have sz0 : a0.tmps.size = 103 := by rw [ha]; kernel_rfl
  have e0_0 : a0.eval (.tmp 0) = .pointer (some ⟨g, 0, none⟩) := by rw [ha]; kernel_rfl
  rw [← ha]
  refine wpAnyH_as (l' := #[false, false, false, false, false, false, false, false, false, false]) (by kernel_rfl) ?_
  refine takeH (v := .pointer (some ⟨g, 0, none⟩)) opWr1_0 opWr1_ns (by kernel_rfl) (by kernel_rfl) HPN (fun w hw o ho => run_move ho e0_0 w) hH ?_
  refine wpAnyH_as (l' := #[true, false, false, false, false, false, false, false, false, false]) (by kernel_rfl) ?_
  obtain ⟨a1, h1⟩ : ∃ a' : Act, a' = a0.put (some 7) (.pointer (some ⟨g, 0, none⟩)) := ⟨_, rfl⟩
  rw [← h1]
  have sz1 : a1.tmps.size = 103 := by rw [h1, size_put]; exact sz0
  have e1_0 : a1.eval (.tmp 0) = .pointer (some ⟨g, 0, none⟩) := by rw [h1, eval_put_ne _ _ _ _ (by decide)]; exact e0_0
  have e1_7 : a1.eval (.tmp 7) = .pointer (some ⟨g, 0, none⟩) := by rw [h1]; exact eval_put_eq _ _ _ (by rw [sz0]; decide)
  clear e0_0 sz0
  refine takeH (v := .pointer (some ⟨g, 0, none⟩)) opWr1_1 opWr1_ns (by kernel_rfl) (by kernel_rfl) HPN (fun w hw o ho => run_nilCheck ho e1_7 w) hH ?_
  refine wpAnyH_as (l' := #[true, true, false, false, false, false, false, false, false, false]) (by kernel_rfl) ?_
  obtain ⟨a2, h2⟩ : ∃ a' : Act, a' = a1.put (some 8) (.pointer (some ⟨g, 0, none⟩)) := ⟨_, rfl⟩
  rw [← h2]
  have sz2 : a2.tmps.size = 103 := by rw [h2, size_put]; exact sz1
  have e2_0 : a2.eval (.tmp 0) = .pointer (some ⟨g, 0, none⟩) := by rw [h2, eval_put_ne _ _ _ _ (by decide)]; exact e1_0
  have e2_8 : a2.eval (.tmp 8) = .pointer (some ⟨g, 0, none⟩) := by rw [h2]; exact eval_put_eq _ _ _ (by rw [sz1]; decide)
  clear e1_0 e1_7 sz1
  refine takeH (v := .pointer (some ⟨g, 0, none⟩)) opWr1_2 opWr1_ns (by kernel_rfl) (by kernel_rfl) HPN (fun w hw o ho => run_fM0 ho e2_8 w) hH ?_
  refine wpAnyH_as (l' := #[true, true, true, false, false, false, false, false, false, false]) (by kernel_rfl) ?_
  obtain ⟨a3, h3⟩ : ∃ a' : Act, a' = a2.put (some 9) (.pointer (some ⟨g, 0, none⟩)) := ⟨_, rfl⟩
  rw [← h3]
  have sz3 : a3.tmps.size = 103 := by rw [h3, size_put]; exact sz2
  have e3_0 : a3.eval (.tmp 0) = .pointer (some ⟨g, 0, none⟩) := by rw [h3, eval_put_ne _ _ _ _ (by decide)]; exact e2_0
  have e3_9 : a3.eval (.tmp 9) = .pointer (some ⟨g, 0, none⟩) := by rw [h3]; exact eval_put_eq _ _ _ (by rw [sz2]; decide)
  clear e2_0 e2_8 sz2
  refine takeH (v := rv) opWr1_3 opWr1_ns (by kernel_rfl) (by kernel_rfl) HPN (fun w hw o ho => run_ldR ho e3_9 w (mac_r hw.1)) hH ?_
  refine wpAnyH_as (l' := #[true, true, true, true, false, false, false, false, false, false]) (by kernel_rfl) ?_
  obtain ⟨a4, h4⟩ : ∃ a' : Act, a' = a3.put (some 10) (rv) := ⟨_, rfl⟩
  rw [← h4]
  have sz4 : a4.tmps.size = 103 := by rw [h4, size_put]; exact sz3
  have e4_0 : a4.eval (.tmp 0) = .pointer (some ⟨g, 0, none⟩) := by rw [h4, eval_put_ne _ _ _ _ (by decide)]; exact e3_0
  have e4_10 : a4.eval (.tmp 10) = rv := by rw [h4]; exact eval_put_eq _ _ _ (by rw [sz3]; decide)
  clear e3_0 e3_9 sz3
  refine takeH (v := .pointer (some ⟨g, 0, none⟩)) opWr1_4 opWr1_ns (by kernel_rfl) (by kernel_rfl) HPN (fun w hw o ho => run_move ho e4_0 w) hH ?_
  refine wpAnyH_as (l' := #[true, true, true, true, true, false, false, false, false, false]) (by kernel_rfl) ?_
  obtain ⟨a5, h5⟩ : ∃ a' : Act, a' = a4.put (some 11) (.pointer (some ⟨g, 0, none⟩)) := ⟨_, rfl⟩
  rw [← h5]
  have sz5 : a5.tmps.size = 103 := by rw [h5, size_put]; exact sz4
  have e5_10 : a5.eval (.tmp 10) = rv := by rw [h5, eval_put_ne _ _ _ _ (by decide)]; exact e4_10
  have e5_11 : a5.eval (.tmp 11) = .pointer (some ⟨g, 0, none⟩) := by rw [h5]; exact eval_put_eq _ _ _ (by rw [sz4]; decide)
  clear e4_0 e4_10 sz4
  refine takeH (v := .pointer (some ⟨g, 0, none⟩)) opWr1_5 opWr1_ns (by kernel_rfl) (by kernel_rfl) HPN (fun w hw o ho => run_nilCheck ho e5_11 w) hH ?_
  refine wpAnyH_as (l' := #[true, true, true, true, true, true, false, false, false, false]) (by kernel_rfl) ?_
  obtain ⟨a6, h6⟩ : ∃ a' : Act, a' = a5.put (some 12) (.pointer (some ⟨g, 0, none⟩)) := ⟨_, rfl⟩
  rw [← h6]
  have sz6 : a6.tmps.size = 103 := by rw [h6, size_put]; exact sz5
  have e6_10 : a6.eval (.tmp 10) = rv := by rw [h6, eval_put_ne _ _ _ _ (by decide)]; exact e5_10
  have e6_12 : a6.eval (.tmp 12) = .pointer (some ⟨g, 0, none⟩) := by rw [h6]; exact eval_put_eq _ _ _ (by rw [sz5]; decide)
  clear e5_10 e5_11 sz5
  refine takeH (v := .pointer (some ⟨g, 44, none⟩)) opWr1_6 opWr1_ns (by kernel_rfl) (by kernel_rfl) HPN (fun w hw o ho => run_fM5 ho e6_12 w) hH ?_
  refine wpAnyH_as (l' := #[true, true, true, true, true, true, true, false, false, false]) (by kernel_rfl) ?_
  obtain ⟨a7, h7⟩ : ∃ a' : Act, a' = a6.put (some 13) (.pointer (some ⟨g, 44, none⟩)) := ⟨_, rfl⟩
  rw [← h7]
  have sz7 : a7.tmps.size = 103 := by rw [h7, size_put]; exact sz6
  have e7_10 : a7.eval (.tmp 10) = rv := by rw [h7, eval_put_ne _ _ _ _ (by decide)]; exact e6_10
  have e7_13 : a7.eval (.tmp 13) = .pointer (some ⟨g, 44, none⟩) := by rw [h7]; exact eval_put_eq _ _ _ (by rw [sz6]; decide)
  clear e6_10 e6_12 sz6
  refine takeH (v := .int .i64 ((h : Nat) : Int)) opWr1_7 opWr1_ns (by kernel_rfl) (by kernel_rfl) HPN (fun w hw o ho => run_ldI ho e7_13 w (mac_held hM.out.r.len hM.out.m.len hM.out.s.len hM.out.b.len hw.1)) hH ?_
  refine wpAnyH_as (l' := #[true, true, true, true, true, true, true, true, false, false]) (by kernel_rfl) ?_
  obtain ⟨a8, h8⟩ : ∃ a' : Act, a' = a7.put (some 14) (.int .i64 ((h : Nat) : Int)) := ⟨_, rfl⟩
  rw [← h8]
  have sz8 : a8.tmps.size = 103 := by rw [h8, size_put]; exact sz7
  have e8_10 : a8.eval (.tmp 10) = rv := by rw [h8, eval_put_ne _ _ _ _ (by decide)]; exact e7_10
  have e8_14 : a8.eval (.tmp 14) = .int .i64 ((h : Nat) : Int) := by rw [h8]; exact eval_put_eq _ _ _ (by rw [sz7]; decide)
  clear e7_10 e7_13 sz7
  refine takeH (v := .bool (decide (0 < h))) opWr1_8 opWr1_ns (by kernel_rfl) (by kernel_rfl) HPN (fun w hw o ho => run_gtr ho e8_14 rfl w) hH ?_
  refine wpAnyH_as (l' := #[true, true, true, true, true, true, true, true, true, false]) (by kernel_rfl) ?_
  obtain ⟨a9, h9⟩ : ∃ a' : Act, a' = a8.put (some 15) (.bool (decide (0 < h))) := ⟨_, rfl⟩
  rw [← h9]
  have sz9 : a9.tmps.size = 103 := by rw [h9, size_put]; exact sz8
  have e9_10 : a9.eval (.tmp 10) = rv := by rw [h9, eval_put_ne _ _ _ _ (by decide)]; exact e8_10
  have e9_15 : a9.eval (.tmp 15) = .bool (decide (0 < h)) := by rw [h9]; exact eval_put_eq _ _ _ (by rw [sz8]; decide)
  clear e8_10 e8_14 sz8
  refine readyH opWr1_9 (by kernel_rfl) (fun o ho hd => wpCall (v := .bool (decide (0 < h))) ho hd (args := #[rv, .bool (decide (0 < h))]) (by simp only [List.map_toArray, List.map_cons, List.map_nil, e9_10, e9_15] <;> rfl) (fun _ => rfl) (HK0.out  w0 hw0) (fun w1 hw1 => ?_))
  have hH := HS1  w1 hw1
  refine ⟨hH, ?_⟩
  refine wpAnyH_as (l' := #[true, true, true, true, true, true, true, true, true, true]) (by kernel_rfl) ?_
  obtain ⟨a10, h10⟩ : ∃ a' : Act, a' = a9.put (some 16) (.bool (decide (0 < h))) := ⟨_, rfl⟩
  rw [← h10]
  have sz10 : a10.tmps.size = 103 := by rw [h10, size_put]; exact sz9
  clear e9_10 e9_15 sz9
  refine wpAnyH_done (by kernel_rfl) ?_ _
  have hF : a10 = ⟨#[.pointer (some ⟨g, 0, none⟩), c1, c2, c3, c4, c5, c6, .pointer (some ⟨g, 0, none⟩), .pointer (some ⟨g, 0, none⟩), .pointer (some ⟨g, 0, none⟩), rv, .pointer (some ⟨g, 0, none⟩), .pointer (some ⟨g, 0, none⟩), .pointer (some ⟨g, 44, none⟩), .int .i64 ((h : Nat) : Int), .bool (decide (0 < h)), .bool (decide (0 < h)), c17, c18, c19, c20, c21, c22, c23, c24, c25, c26, c27, c28, c29, c30, c31, c32, c33, c34, c35, c36, c37, c38, c39, c40, c41, c42, c43, c44, c45, c46, c47, c48, c49, c50, c51, c52, c53, c54, c55, c56, c57, c58, c59, c60, c61, c62, c63, c64, c65, c66, c67, c68, c69, c70, c71, c72, c73, c74, c75, c76, c77, c78, c79, c80, c81, c82, c83, c84, c85, c86, c87, c88, c89, c90, c91, c92, c93, c94, c95, c96, c97, c98, c99, c100, c101, c102], []⟩ := by rw [h10, h9, h8, h7, h6, h5, h4, h3, h2, h1, ha]; kernel_rfl
  rw [hF]
  exact H  _ hw1
noncomputable def rgWr2 : Code := ((Try.f16.body.bind (findReg 2)).getD .skip)
noncomputable def opWr2 : Array Oper := opsOf rgWr2
theorem rgWr2_is : rgWr2 = .region 2 opWr2 true := by kernel_rfl
theorem opWr2_ns : Region.noSelect opWr2 = true := by kernel_rfl
theorem opWr2_0 : opIs opWr2 0 (.move (.tmp 0)) (some 17) := by unfold opIs; kernel_rfl
theorem opWr2_1 : opIs opWr2 1 (.nilCheck (.tmp 17)) (some 18) := by unfold opIs; kernel_rfl
theorem opWr2_2 : opIs opWr2 2 (.fieldAddr 69 (.tmp 18) 4) (some 19) := by unfold opIs; kernel_rfl
theorem opWr2_3 : opIs opWr2 3 (.move (.tmp 0)) (some 20) := by unfold opIs; kernel_rfl
theorem opWr2_4 : opIs opWr2 4 (.nilCheck (.tmp 20)) (some 21) := by unfold opIs; kernel_rfl
theorem opWr2_5 : opIs opWr2 5 (.fieldAddr 69 (.tmp 21) 0) (some 22) := by unfold opIs; kernel_rfl
theorem opWr2_6 : opIs opWr2 6 (.load 25 (.tmp 22)) (some 23) := by unfold opIs; kernel_rfl
theorem opWr2_7 : opIs opWr2 7 (.move (.tmp 0)) (some 24) := by unfold opIs; kernel_rfl
theorem opWr2_8 : opIs opWr2 8 (.nilCheck (.tmp 24)) (some 25) := by unfold opIs; kernel_rfl
theorem opWr2_9 : opIs opWr2 9 (.fieldAddr 69 (.tmp 25) 5) (some 26) := by unfold opIs; kernel_rfl
theorem opWr2_10 : opIs opWr2 10 (.load 3 (.tmp 26)) (some 27) := by unfold opIs; kernel_rfl
theorem opWr2_11 : opIs opWr2 11 (.call { callee := .value (.func 37), args := #[.tmp 23, .tmp 27], argTypes := #[25, 3] }) (some 28) := by unfold opIs; kernel_rfl
theorem opWr2_12 : opIs opWr2 12 (.slice 67 (.tmp 19) (some (.tmp 28)) (some (.const (.int .i64 16))) none) (some 29) := by unfold opIs; kernel_rfl
theorem opWr2_13 : opIs opWr2 13 (.move (.tmp 1)) (some 30) := by unfold opIs; kernel_rfl
theorem opWr2_14 : opIs opWr2 14 (.call { callee := .builtin .copy, args := #[.tmp 29, .tmp 30], argTypes := #[30, 30] }) (some 31) := by unfold opIs; kernel_rfl
theorem opWr2_15 : opIs opWr2 15 (.assign (.tmp 31)) (some 4) := by unfold opIs; kernel_rfl
set_option maxRecDepth 100000 in
set_option maxHeartbeats 4000000 in
theorem Wr2 {Q : Exit → Act → World → Prop} {W : World} {R0 : World → Prop} {R1 : World → Prop} {R2 : World → Prop} {g h : Nat} {rv : Value} {r m s b : List Int} {pv kv : Value} {c2 c3 c4 c5 c6 c7 c8 c9 c10 c11 c12 c13 c14 c15 c16 c17 c18 c19 c20 c21 c22 c23 c24 c25 c26 c27 c28 c29 c30 c31 c32 c33 c34 c35 c36 c37 c38 c39 c40 c41 c42 c43 c44 c45 c46 c47 c48 c49 c50 c51 c52 c53 c54 c55 c56 c57 c58 c59 c60 c61 c62 c63 c64 c65 c66 c67 c68 c69 c70 c71 c72 c73 c74 c75 c76 c77 c78 c79 c80 c81 c82 c83 c84 c85 c86 c87 c88 c89 c90 c91 c92 c93 c94 c95 c96 c97 c98 c99 c100 c101 c102 : Value}
    (hH16 : Hid (h ≤ 16))
    (hR0 : R0 W.drew) (HS0 : ∀ Y, R0 Y → (fun Y : World => Y.cell? ⟨g, 0, none⟩ = some rv ∧ Y.cell? ⟨g, 44, none⟩ = some (.int .i64 ((h : Nat) : Int))) Y)
    (HK0 : Hid (∀ Y, R0 Y → Calls Try.prog 37 #[rv, .int .i64 ((h : Nat) : Int)] Y fun e w' => e = .returned (.int .i64 ((h : Nat) : Int)) ∧ R1 w'))
    (HS1 : ∀ Y, R1 Y → (fun Y : World => Y.cell? ⟨g, 0, none⟩ = some rv ∧ Y.cell? ⟨g, 44, none⟩ = some (.int .i64 ((h : Nat) : Int))) Y)
    (HK1 : Hid (∀ Y, R1 Y → ∀ (a : Act) (o : Oper) (K : Act → World → Prop) (Q : Exit → Act → World → Prop), o.op = .call { callee := .builtin .copy, args := #[.tmp 29, .tmp 30], argTypes := #[30, 30] } → o.dst = some 31 → a.eval (.tmp 29) = .slice (some ⟨g, 27 + h, none⟩) (16 - h) (17 - h) → a.eval (.tmp 30) = pv → (∀ w', R2 w' → K (a.put (some 31) (kv)) w') → Oper.wp Try.prog o a Y K Q))
    (HS2 : ∀ Y, R2 Y → (fun Y : World => Y.cell? ⟨g, 0, none⟩ = some rv ∧ Y.cell? ⟨g, 44, none⟩ = some (.int .i64 ((h : Nat) : Int))) Y)
    (HPN : ∀ c (a : Act) d v w, Q (.panic c) (a.put d v) w → Q (.panic c) a w)
    (H : ∀ W', R2 W' → Q .normal ⟨#[.pointer (some ⟨g, 0, none⟩), pv, c2, c3, kv, c5, c6, c7, c8, c9, c10, c11, c12, c13, c14, c15, c16, .pointer (some ⟨g, 0, none⟩), .pointer (some ⟨g, 0, none⟩), .pointer (some ⟨g, 27, none⟩), .pointer (some ⟨g, 0, none⟩), .pointer (some ⟨g, 0, none⟩), .pointer (some ⟨g, 0, none⟩), rv, .pointer (some ⟨g, 0, none⟩), .pointer (some ⟨g, 0, none⟩), .pointer (some ⟨g, 44, none⟩), .int .i64 ((h : Nat) : Int), .int .i64 ((h : Nat) : Int), .slice (some ⟨g, 27 + h, none⟩) (16 - h) (17 - h), pv, kv, c32, c33, c34, c35, c36, c37, c38, c39, c40, c41, c42, c43, c44, c45, c46, c47, c48, c49, c50, c51, c52, c53, c54, c55, c56, c57, c58, c59, c60, c61, c62, c63, c64, c65, c66, c67, c68, c69, c70, c71, c72, c73, c74, c75, c76, c77, c78, c79, c80, c81, c82, c83, c84, c85, c86, c87, c88, c89, c90, c91, c92, c93, c94, c95, c96, c97, c98, c99, c100, c101, c102], []⟩ W') :
    Code.wp Try.prog rgWr2 Q ⟨#[.pointer (some ⟨g, 0, none⟩), pv, c2, c3, c4, c5, c6, c7, c8, c9, c10, c11, c12, c13, c14, c15, c16, c17, c18, c19, c20, c21, c22, c23, c24, c25, c26, c27, c28, c29, c30, c31, c32, c33, c34, c35, c36, c37, c38, c39, c40, c41, c42, c43, c44, c45, c46, c47, c48, c49, c50, c51, c52, c53, c54, c55, c56, c57, c58, c59, c60, c61, c62, c63, c64, c65, c66, c67, c68, c69, c70, c71, c72, c73, c74, c75, c76, c77, c78, c79, c80, c81, c82, c83, c84, c85, c86, c87, c88, c89, c90, c91, c92, c93, c94, c95, c96, c97, c98, c99, c100, c101, c102], []⟩ W := by
  rw [rgWr2_is]
  refine wp_region_held_drew (S := fun Y : World => Y.cell? ⟨g, 0, none⟩ = some rv ∧ Y.cell? ⟨g, 44, none⟩ = some (.int .i64 ((h : Nat) : Int))) (by kernel_rfl) (HS0 _ hR0) (fun hH => ?_)
  obtain ⟨w0, hw00⟩ : ∃ V, W.drew = V := ⟨_, rfl⟩
  clear hH
  rw [hw00] at hR0 ⊢
  have hH := HS0 _ hR0
  have hw0 := hR0
  clear hw00
  obtain ⟨a0, ha⟩ : ∃ a : Act, a = ⟨#[.pointer (some ⟨g, 0, none⟩), pv, c2, c3, c4, c5, c6, c7, c8, c9, c10, c11, c12, c13, c14, c15, c16, c17, c18, c19, c20, c21, c22, c23, c24, c25, c26, c27, c28, c29, c30, c31, c32, c33, c34, c35, c36, c37, c38, c39, c40, c41, c42, c43, c44, c45, c46, c47, c48, c49, c50, c51, c52, c53, c54, c55, c56, c57, c58, c59, c60, c61, c62, c63, c64, c65, c66, c67, c68, c69, c70, c71, c72, c73, c74, c75, c76, c77, c78, c79, c80, c81, c82, c83, c84, c85, c86, c87, c88, c89, c90, c91, c92, c93, c94, c95, c96, c97, c98, c99, c100, c101, c102], []⟩ := ⟨_, rfl⟩
  have sz0 : a0.tmps.size = 103 := by rw [ha]; kernel_rfl
  have e0_0 : a0.eval (.tmp 0) = .pointer (some ⟨g, 0, none⟩) := by rw [ha]; kernel_rfl
  have e0_1 : a0.eval (.tmp 1) = pv := by rw [ha]; kernel_rfl
  rw [← ha]
  refine wpAnyH_as (l' := #[false, false, false, false, false, false, false, false, false, false, false, false, false, false, false, false]) (by kernel_rfl) ?_
  refine takeH (v := .pointer (some ⟨g, 0, none⟩)) opWr2_0 opWr2_ns (by kernel_rfl) (by kernel_rfl) HPN (fun w hw o ho => run_move ho e0_0 w) hH ?_
  refine wpAnyH_as (l' := #[true, false, false, false, false, false, false, false, false, false, false, false, false, false, false, false]) (by kernel_rfl) ?_
  obtain ⟨a1, h1⟩ : ∃ a' : Act, a' = a0.put (some 17) (.pointer (some ⟨g, 0, none⟩)) := ⟨_, rfl⟩
  rw [← h1]
  have sz1 : a1.tmps.size = 103 := by rw [h1, size_put]; exact sz0
  have e1_0 : a1.eval (.tmp 0) = .pointer (some ⟨g, 0, none⟩) := by rw [h1, eval_put_ne _ _ _ _ (by decide)]; exact e0_0
  have e1_1 : a1.eval (.tmp 1) = pv := by rw [h1, eval_put_ne _ _ _ _ (by decide)]; exact e0_1
  have e1_17 : a1.eval (.tmp 17) = .pointer (some ⟨g, 0, none⟩) := by rw [h1]; exact eval_put_eq _ _ _ (by rw [sz0]; decide)
  clear e0_0 e0_1 sz0
  refine takeH (v := .pointer (some ⟨g, 0, none⟩)) opWr2_1 opWr2_ns (by kernel_rfl) (by kernel_rfl) HPN (fun w hw o ho => run_nilCheck ho e1_17 w) hH ?_
  refine wpAnyH_as (l' := #[true, true, false, false, false, false, false, false, false, false, false, false, false, false, false, false]) (by kernel_rfl) ?_
  obtain ⟨a2, h2⟩ : ∃ a' : Act, a' = a1.put (some 18) (.pointer (some ⟨g, 0, none⟩)) := ⟨_, rfl⟩
  rw [← h2]
  have sz2 : a2.tmps.size = 103 := by rw [h2, size_put]; exact sz1
  have e2_0 : a2.eval (.tmp 0) = .pointer (some ⟨g, 0, none⟩) := by rw [h2, eval_put_ne _ _ _ _ (by decide)]; exact e1_0
  have e2_1 : a2.eval (.tmp 1) = pv := by rw [h2, eval_put_ne _ _ _ _ (by decide)]; exact e1_1
  have e2_18 : a2.eval (.tmp 18) = .pointer (some ⟨g, 0, none⟩) := by rw [h2]; exact eval_put_eq _ _ _ (by rw [sz1]; decide)
  clear e1_0 e1_1 e1_17 sz1
  refine takeH (v := .pointer (some ⟨g, 27, none⟩)) opWr2_2 opWr2_ns (by kernel_rfl) (by kernel_rfl) HPN (fun w hw o ho => run_fM4 ho e2_18 w) hH ?_
  refine wpAnyH_as (l' := #[true, true, true, false, false, false, false, false, false, false, false, false, false, false, false, false]) (by kernel_rfl) ?_
  obtain ⟨a3, h3⟩ : ∃ a' : Act, a' = a2.put (some 19) (.pointer (some ⟨g, 27, none⟩)) := ⟨_, rfl⟩
  rw [← h3]
  have sz3 : a3.tmps.size = 103 := by rw [h3, size_put]; exact sz2
  have e3_0 : a3.eval (.tmp 0) = .pointer (some ⟨g, 0, none⟩) := by rw [h3, eval_put_ne _ _ _ _ (by decide)]; exact e2_0
  have e3_1 : a3.eval (.tmp 1) = pv := by rw [h3, eval_put_ne _ _ _ _ (by decide)]; exact e2_1
  have e3_19 : a3.eval (.tmp 19) = .pointer (some ⟨g, 27, none⟩) := by rw [h3]; exact eval_put_eq _ _ _ (by rw [sz2]; decide)
  clear e2_0 e2_1 e2_18 sz2
  refine takeH (v := .pointer (some ⟨g, 0, none⟩)) opWr2_3 opWr2_ns (by kernel_rfl) (by kernel_rfl) HPN (fun w hw o ho => run_move ho e3_0 w) hH ?_
  refine wpAnyH_as (l' := #[true, true, true, true, false, false, false, false, false, false, false, false, false, false, false, false]) (by kernel_rfl) ?_
  obtain ⟨a4, h4⟩ : ∃ a' : Act, a' = a3.put (some 20) (.pointer (some ⟨g, 0, none⟩)) := ⟨_, rfl⟩
  rw [← h4]
  have sz4 : a4.tmps.size = 103 := by rw [h4, size_put]; exact sz3
  have e4_0 : a4.eval (.tmp 0) = .pointer (some ⟨g, 0, none⟩) := by rw [h4, eval_put_ne _ _ _ _ (by decide)]; exact e3_0
  have e4_1 : a4.eval (.tmp 1) = pv := by rw [h4, eval_put_ne _ _ _ _ (by decide)]; exact e3_1
  have e4_19 : a4.eval (.tmp 19) = .pointer (some ⟨g, 27, none⟩) := by rw [h4, eval_put_ne _ _ _ _ (by decide)]; exact e3_19
  have e4_20 : a4.eval (.tmp 20) = .pointer (some ⟨g, 0, none⟩) := by rw [h4]; exact eval_put_eq _ _ _ (by rw [sz3]; decide)
  clear e3_0 e3_1 e3_19 sz3
  refine takeH (v := .pointer (some ⟨g, 0, none⟩)) opWr2_4 opWr2_ns (by kernel_rfl) (by kernel_rfl) HPN (fun w hw o ho => run_nilCheck ho e4_20 w) hH ?_
  refine wpAnyH_as (l' := #[true, true, true, true, true, false, false, false, false, false, false, false, false, false, false, false]) (by kernel_rfl) ?_
  obtain ⟨a5, h5⟩ : ∃ a' : Act, a' = a4.put (some 21) (.pointer (some ⟨g, 0, none⟩)) := ⟨_, rfl⟩
  rw [← h5]
  have sz5 : a5.tmps.size = 103 := by rw [h5, size_put]; exact sz4
  have e5_0 : a5.eval (.tmp 0) = .pointer (some ⟨g, 0, none⟩) := by rw [h5, eval_put_ne _ _ _ _ (by decide)]; exact e4_0
  have e5_1 : a5.eval (.tmp 1) = pv := by rw [h5, eval_put_ne _ _ _ _ (by decide)]; exact e4_1
  have e5_19 : a5.eval (.tmp 19) = .pointer (some ⟨g, 27, none⟩) := by rw [h5, eval_put_ne _ _ _ _ (by decide)]; exact e4_19
  have e5_21 : a5.eval (.tmp 21) = .pointer (some ⟨g, 0, none⟩) := by rw [h5]; exact eval_put_eq _ _ _ (by rw [sz4]; decide)
  clear e4_0 e4_1 e4_19 e4_20 sz4
  refine takeH (v := .pointer (some ⟨g, 0, none⟩)) opWr2_5 opWr2_ns (by kernel_rfl) (by kernel_rfl) HPN (fun w hw o ho => run_fM0 ho e5_21 w) hH ?_
  refine wpAnyH_as (l' := #[true, true, true, true, true, true, false, false, false, false, false, false, false, false, false, false]) (by kernel_rfl) ?_
  obtain ⟨a6, h6⟩ : ∃ a' : Act, a' = a5.put (some 22) (.pointer (some ⟨g, 0, none⟩)) := ⟨_, rfl⟩
  rw [← h6]
  have sz6 : a6.tmps.size = 103 := by rw [h6, size_put]; exact sz5
  have e6_0 : a6.eval (.tmp 0) = .pointer (some ⟨g, 0, none⟩) := by rw [h6, eval_put_ne _ _ _ _ (by decide)]; exact e5_0
  have e6_1 : a6.eval (.tmp 1) = pv := by rw [h6, eval_put_ne _ _ _ _ (by decide)]; exact e5_1
  have e6_19 : a6.eval (.tmp 19) = .pointer (some ⟨g, 27, none⟩) := by rw [h6, eval_put_ne _ _ _ _ (by decide)]; exact e5_19
  have e6_22 : a6.eval (.tmp 22) = .pointer (some ⟨g, 0, none⟩) := by rw [h6]; exact eval_put_eq _ _ _ (by rw [sz5]; decide)
  clear e5_0 e5_1 e5_19 e5_21 sz5
  refine takeH (v := rv) opWr2_6 opWr2_ns (by kernel_rfl) (by kernel_rfl) HPN (fun w hw o ho => run_ldR ho e6_22 w hw.1) hH ?_
  refine wpAnyH_as (l' := #[true, true, true, true, true, true, true, false, false, false, false, false, false, false, false, false]) (by kernel_rfl) ?_
  obtain ⟨a7, h7⟩ : ∃ a' : Act, a' = a6.put (some 23) (rv) := ⟨_, rfl⟩
  rw [← h7]
  have sz7 : a7.tmps.size = 103 := by rw [h7, size_put]; exact sz6
  have e7_0 : a7.eval (.tmp 0) = .pointer (some ⟨g, 0, none⟩) := by rw [h7, eval_put_ne _ _ _ _ (by decide)]; exact e6_0
  have e7_1 : a7.eval (.tmp 1) = pv := by rw [h7, eval_put_ne _ _ _ _ (by decide)]; exact e6_1
  have e7_19 : a7.eval (.tmp 19) = .pointer (some ⟨g, 27, none⟩) := by rw [h7, eval_put_ne _ _ _ _ (by decide)]; exact e6_19
  have e7_23 : a7.eval (.tmp 23) = rv := by rw [h7]; exact eval_put_eq _ _ _ (by rw [sz6]; decide)
  clear e6_0 e6_1 e6_19 e6_22 sz6
  refine takeH (v := .pointer (some ⟨g, 0, none⟩)) opWr2_7 opWr2_ns (by kernel_rfl) (by kernel_rfl) HPN (fun w hw o ho => run_move ho e7_0 w) hH ?_
  refine wpAnyH_as (l' := #[true, true, true, true, true, true, true, true, false, false, false, false, false, false, false, false]) (by kernel_rfl) ?_
  obtain ⟨a8, h8⟩ : ∃ a' : Act, a' = a7.put (some 24) (.pointer (some ⟨g, 0, none⟩)) := ⟨_, rfl⟩
  rw [← h8]
  have sz8 : a8.tmps.size = 103 := by rw [h8, size_put]; exact sz7
  have e8_1 : a8.eval (.tmp 1) = pv := by rw [h8, eval_put_ne _ _ _ _ (by decide)]; exact e7_1
  have e8_19 : a8.eval (.tmp 19) = .pointer (some ⟨g, 27, none⟩) := by rw [h8, eval_put_ne _ _ _ _ (by decide)]; exact e7_19
  have e8_23 : a8.eval (.tmp 23) = rv := by rw [h8, eval_put_ne _ _ _ _ (by decide)]; exact e7_23
  have e8_24 : a8.eval (.tmp 24) = .pointer (some ⟨g, 0, none⟩) := by rw [h8]; exact eval_put_eq _ _ _ (by rw [sz7]; decide)
  clear e7_0 e7_1 e7_19 e7_23 sz7
  refine takeH (v := .pointer (some ⟨g, 0, none⟩)) opWr2_8 opWr2_ns (by kernel_rfl) (by kernel_rfl) HPN (fun w hw o ho => run_nilCheck ho e8_24 w) hH ?_
  refine wpAnyH_as (l' := #[true, true, true, true, true, true, true, true, true, false, false, false, false, false, false, false]) (by kernel_rfl) ?_
  obtain ⟨a9, h9⟩ : ∃ a' : Act, a' = a8.put (some 25) (.pointer (some ⟨g, 0, none⟩)) := ⟨_, rfl⟩
  rw [← h9]
  have sz9 : a9.tmps.size = 103 := by rw [h9, size_put]; exact sz8
  have e9_1 : a9.eval (.tmp 1) = pv := by rw [h9, eval_put_ne _ _ _ _ (by decide)]; exact e8_1
  have e9_19 : a9.eval (.tmp 19) = .pointer (some ⟨g, 27, none⟩) := by rw [h9, eval_put_ne _ _ _ _ (by decide)]; exact e8_19
  have e9_23 : a9.eval (.tmp 23) = rv := by rw [h9, eval_put_ne _ _ _ _ (by decide)]; exact e8_23
  have e9_25 : a9.eval (.tmp 25) = .pointer (some ⟨g, 0, none⟩) := by rw [h9]; exact eval_put_eq _ _ _ (by rw [sz8]; decide)
  clear e8_1 e8_19 e8_23 e8_24 sz8
  refine takeH (v := .pointer (some ⟨g, 44, none⟩)) opWr2_9 opWr2_ns (by kernel_rfl) (by kernel_rfl) HPN (fun w hw o ho => run_fM5 ho e9_25 w) hH ?_
  refine wpAnyH_as (l' := #[true, true, true, true, true, true, true, true, true, true, false, false, false, false, false, false]) (by kernel_rfl) ?_
  obtain ⟨a10, h10⟩ : ∃ a' : Act, a' = a9.put (some 26) (.pointer (some ⟨g, 44, none⟩)) := ⟨_, rfl⟩
  rw [← h10]
  have sz10 : a10.tmps.size = 103 := by rw [h10, size_put]; exact sz9
  have e10_1 : a10.eval (.tmp 1) = pv := by rw [h10, eval_put_ne _ _ _ _ (by decide)]; exact e9_1
  have e10_19 : a10.eval (.tmp 19) = .pointer (some ⟨g, 27, none⟩) := by rw [h10, eval_put_ne _ _ _ _ (by decide)]; exact e9_19
  have e10_23 : a10.eval (.tmp 23) = rv := by rw [h10, eval_put_ne _ _ _ _ (by decide)]; exact e9_23
  have e10_26 : a10.eval (.tmp 26) = .pointer (some ⟨g, 44, none⟩) := by rw [h10]; exact eval_put_eq _ _ _ (by rw [sz9]; decide)
  clear e9_1 e9_19 e9_23 e9_25 sz9
  refine takeH (v := .int .i64 ((h : Nat) : Int)) opWr2_10 opWr2_ns (by kernel_rfl) (by kernel_rfl) HPN (fun w hw o ho => run_ldI ho e10_26 w hw.2) hH ?_
  refine wpAnyH_as (l' := #[true, true, true, true, true, true, true, true, true, true, true, false, false, false, false, false]) (by kernel_rfl) ?_
  obtain ⟨a11, h11⟩ : ∃ a' : Act, a' = a10.put (some 27) (.int .i64 ((h : Nat) : Int)) := ⟨_, rfl⟩
  rw [← h11]
  have sz11 : a11.tmps.size = 103 := by rw [h11, size_put]; exact sz10
  have e11_1 : a11.eval (.tmp 1) = pv := by rw [h11, eval_put_ne _ _ _ _ (by decide)]; exact e10_1
  have e11_19 : a11.eval (.tmp 19) = .pointer (some ⟨g, 27, none⟩) := by rw [h11, eval_put_ne _ _ _ _ (by decide)]; exact e10_19
  have e11_23 : a11.eval (.tmp 23) = rv := by rw [h11, eval_put_ne _ _ _ _ (by decide)]; exact e10_23
  have e11_27 : a11.eval (.tmp 27) = .int .i64 ((h : Nat) : Int) := by rw [h11]; exact eval_put_eq _ _ _ (by rw [sz10]; decide)
  clear e10_1 e10_19 e10_23 e10_26 sz10
  refine takeH (v := pv) opWr2_13 opWr2_ns (by kernel_rfl) (by kernel_rfl) HPN (fun w hw o ho => run_move ho e11_1 w) hH ?_
  refine wpAnyH_as (l' := #[true, true, true, true, true, true, true, true, true, true, true, false, false, true, false, false]) (by kernel_rfl) ?_
  obtain ⟨a12, h12⟩ : ∃ a' : Act, a' = a11.put (some 30) (pv) := ⟨_, rfl⟩
  rw [← h12]
  have sz12 : a12.tmps.size = 103 := by rw [h12, size_put]; exact sz11
  have e12_19 : a12.eval (.tmp 19) = .pointer (some ⟨g, 27, none⟩) := by rw [h12, eval_put_ne _ _ _ _ (by decide)]; exact e11_19
  have e12_23 : a12.eval (.tmp 23) = rv := by rw [h12, eval_put_ne _ _ _ _ (by decide)]; exact e11_23
  have e12_27 : a12.eval (.tmp 27) = .int .i64 ((h : Nat) : Int) := by rw [h12, eval_put_ne _ _ _ _ (by decide)]; exact e11_27
  have e12_30 : a12.eval (.tmp 30) = pv := by rw [h12]; exact eval_put_eq _ _ _ (by rw [sz11]; decide)
  clear e11_1 e11_19 e11_23 e11_27 sz11
  refine readyH opWr2_11 (by kernel_rfl) (fun o ho hd => wpCall (v := .int .i64 ((h : Nat) : Int)) ho hd (args := #[rv, .int .i64 ((h : Nat) : Int)]) (by simp only [List.map_toArray, List.map_cons, List.map_nil, e12_23, e12_27] <;> rfl) (fun _ => rfl) (HK0.out  w0 hw0) (fun w1 hw1 => ?_))
  have hH := HS1  w1 hw1
  refine ⟨hH, ?_⟩
  refine wpAnyH_as (l' := #[true, true, true, true, true, true, true, true, true, true, true, true, false, true, false, false]) (by kernel_rfl) ?_
  obtain ⟨a13, h13⟩ : ∃ a' : Act, a' = a12.put (some 28) (.int .i64 ((h : Nat) : Int)) := ⟨_, rfl⟩
  rw [← h13]
  have sz13 : a13.tmps.size = 103 := by rw [h13, size_put]; exact sz12
  have e13_19 : a13.eval (.tmp 19) = .pointer (some ⟨g, 27, none⟩) := by rw [h13, eval_put_ne _ _ _ _ (by decide)]; exact e12_19
  have e13_30 : a13.eval (.tmp 30) = pv := by rw [h13, eval_put_ne _ _ _ _ (by decide)]; exact e12_30
  have e13_28 : a13.eval (.tmp 28) = .int .i64 ((h : Nat) : Int) := by rw [h13]; exact eval_put_eq _ _ _ (by rw [sz12]; decide)
  clear e12_19 e12_23 e12_27 e12_30 sz12
  refine takeH (v := .slice (some ⟨g, 27 + h, none⟩) (16 - h) (17 - h)) opWr2_12 opWr2_ns (by kernel_rfl) (by kernel_rfl) HPN (fun w hw o ho => run_slHeld hH16.out ho e13_19 e13_28 w) hH ?_
  refine wpAnyH_as (l' := #[true, true, true, true, true, true, true, true, true, true, true, true, true, true, false, false]) (by kernel_rfl) ?_
  obtain ⟨a14, h14⟩ : ∃ a' : Act, a' = a13.put (some 29) (.slice (some ⟨g, 27 + h, none⟩) (16 - h) (17 - h)) := ⟨_, rfl⟩
  rw [← h14]
  have sz14 : a14.tmps.size = 103 := by rw [h14, size_put]; exact sz13
  have e14_30 : a14.eval (.tmp 30) = pv := by rw [h14, eval_put_ne _ _ _ _ (by decide)]; exact e13_30
  have e14_29 : a14.eval (.tmp 29) = .slice (some ⟨g, 27 + h, none⟩) (16 - h) (17 - h) := by rw [h14]; exact eval_put_eq _ _ _ (by rw [sz13]; decide)
  clear e13_19 e13_28 e13_30 sz13
  refine readyH opWr2_14 (by kernel_rfl) (fun o ho hd => HK1.out  w1 hw1 _ o _ _ ho hd e14_29 e14_30 (fun  w2 hw2 => ?_))
  have hH := HS2  w2 hw2
  refine ⟨hH, ?_⟩
  refine wpAnyH_as (l' := #[true, true, true, true, true, true, true, true, true, true, true, true, true, true, true, false]) (by kernel_rfl) ?_
  obtain ⟨a15, h15⟩ : ∃ a' : Act, a' = a14.put (some 31) (kv) := ⟨_, rfl⟩
  rw [← h15]
  have sz15 : a15.tmps.size = 103 := by rw [h15, size_put]; exact sz14
  have e15_31 : a15.eval (.tmp 31) = kv := by rw [h15]; exact eval_put_eq _ _ _ (by rw [sz14]; decide)
  clear e14_29 e14_30 sz14
  refine readyH opWr2_15 (by kernel_rfl) (fun o ho hd => wpRun (v := kv) (w' := w2) hd (run_assign ho e15_31 w2) ⟨hH, ?_⟩)
  refine wpAnyH_as (l' := #[true, true, true, true, true, true, true, true, true, true, true, true, true, true, true, true]) (by kernel_rfl) ?_
  obtain ⟨a16, h16⟩ : ∃ a' : Act, a' = a15.put (some 4) (kv) := ⟨_, rfl⟩
  rw [← h16]
  have sz16 : a16.tmps.size = 103 := by rw [h16, size_put]; exact sz15
  clear e15_31 sz15
  refine wpAnyH_done (by kernel_rfl) ?_ _
  have hF : a16 = ⟨#[.pointer (some ⟨g, 0, none⟩), pv, c2, c3, kv, c5, c6, c7, c8, c9, c10, c11, c12, c13, c14, c15, c16, .pointer (some ⟨g, 0, none⟩), .pointer (some ⟨g, 0, none⟩), .pointer (some ⟨g, 27, none⟩), .pointer (some ⟨g, 0, none⟩), .pointer (some ⟨g, 0, none⟩), .pointer (some ⟨g, 0, none⟩), rv, .pointer (some ⟨g, 0, none⟩), .pointer (some ⟨g, 0, none⟩), .pointer (some ⟨g, 44, none⟩), .int .i64 ((h : Nat) : Int), .int .i64 ((h : Nat) : Int), .slice (some ⟨g, 27 + h, none⟩) (16 - h) (17 - h), pv, kv, c32, c33, c34, c35, c36, c37, c38, c39, c40, c41, c42, c43, c44, c45, c46, c47, c48, c49, c50, c51, c52, c53, c54, c55, c56, c57, c58, c59, c60, c61, c62, c63, c64, c65, c66, c67, c68, c69, c70, c71, c72, c73, c74, c75, c76, c77, c78, c79, c80, c81, c82, c83, c84, c85, c86, c87, c88, c89, c90, c91, c92, c93, c94, c95, c96, c97, c98, c99, c100, c101, c102], []⟩ := by rw [h16, h15, h14, h13, h12, h11, h10, h9, h8, h7, h6, h5, h4, h3, h2, h1, ha]; kernel_rfl
  rw [hF]
  exact H  _ hw2
noncomputable def rgWr5 : Code := ((Try.f16.body.bind (findReg 5)).getD .skip)
noncomputable def opWr5 : Array Oper := opsOf rgWr5
theorem rgWr5_is : rgWr5 = .region 5 opWr5 true := by kernel_rfl
theorem opWr5_ns : Region.noSelect opWr5 = true := by kernel_rfl
theorem opWr5_0 : opIs opWr5 0 (.move (.tmp 0)) (some 48) := by unfold opIs; kernel_rfl
theorem opWr5_1 : opIs opWr5 1 (.nilCheck (.tmp 48)) (some 49) := by unfold opIs; kernel_rfl
theorem opWr5_2 : opIs opWr5 2 (.fieldAddr 69 (.tmp 49) 0) (some 50) := by unfold opIs; kernel_rfl
theorem opWr5_3 : opIs opWr5 3 (.load 25 (.tmp 50)) (some 51) := by unfold opIs; kernel_rfl
theorem opWr5_4 : opIs opWr5 4 (.move (.tmp 0)) (some 52) := by unfold opIs; kernel_rfl
theorem opWr5_5 : opIs opWr5 5 (.nilCheck (.tmp 52)) (some 53) := by unfold opIs; kernel_rfl
theorem opWr5_6 : opIs opWr5 6 (.fieldAddr 69 (.tmp 53) 5) (some 54) := by unfold opIs; kernel_rfl
theorem opWr5_7 : opIs opWr5 7 (.load 3 (.tmp 54)) (some 55) := by unfold opIs; kernel_rfl
theorem opWr5_8 : opIs opWr5 8 (.binOp .eql 3 (.tmp 55) (.const (.int .i64 16)) 3) (some 56) := by unfold opIs; kernel_rfl
theorem opWr5_9 : opIs opWr5 9 (.call { callee := .value (.func 36), args := #[.tmp 51, .tmp 56], argTypes := #[25, 4] }) (some 57) := by unfold opIs; kernel_rfl
set_option maxRecDepth 100000 in
set_option maxHeartbeats 4000000 in
theorem Wr5 {Q : Exit → Act → World → Prop} {W : World} {R0 : World → Prop} {R1 : World → Prop} {g h : Nat} {rv : Value} {r m s b : List Int} {c1 c2 c3 c4 c5 c6 c7 c8 c9 c10 c11 c12 c13 c14 c15 c16 c17 c18 c19 c20 c21 c22 c23 c24 c25 c26 c27 c28 c29 c30 c31 c32 c33 c34 c35 c36 c37 c38 c39 c40 c41 c42 c43 c44 c45 c46 c47 c48 c49 c50 c51 c52 c53 c54 c55 c56 c57 c58 c59 c60 c61 c62 c63 c64 c65 c66 c67 c68 c69 c70 c71 c72 c73 c74 c75 c76 c77 c78 c79 c80 c81 c82 c83 c84 c85 c86 c87 c88 c89 c90 c91 c92 c93 c94 c95 c96 c97 c98 c99 c100 c101 c102 : Value}
    (hM : Hid (MS r m s b))
    (hR0 : R0 W.drew) (HS0 : ∀ Y, R0 Y → (fun Y : World => Y.heap[g]? = some (macO rv r m s b h) ∧ True) Y)
    (HK0 : Hid (∀ Y, R0 Y → Calls Try.prog 36 #[rv, .bool (decide (h = 16))] Y fun e w' => e = .returned (.bool (decide (h = 16))) ∧ R1 w'))
    (HS1 : ∀ Y, R1 Y → (fun Y : World => Y.heap[g]? = some (macO rv r m s b h) ∧ True) Y)
    (HPN : ∀ c (a : Act) d v w, Q (.panic c) (a.put d v) w → Q (.panic c) a w)
    (H : ∀ W', R1 W' → Q .normal ⟨#[.pointer (some ⟨g, 0, none⟩), c1, c2, c3, c4, c5, c6, c7, c8, c9, c10, c11, c12, c13, c14, c15, c16, c17, c18, c19, c20, c21, c22, c23, c24, c25, c26, c27, c28, c29, c30, c31, c32, c33, c34, c35, c36, c37, c38, c39, c40, c41, c42, c43, c44, c45, c46, c47, .pointer (some ⟨g, 0, none⟩), .pointer (some ⟨g, 0, none⟩), .pointer (some ⟨g, 0, none⟩), rv, .pointer (some ⟨g, 0, none⟩), .pointer (some ⟨g, 0, none⟩), .pointer (some ⟨g, 44, none⟩), .int .i64 ((h : Nat) : Int), .bool (decide (h = 16)), .bool (decide (h = 16)), c58, c59, c60, c61, c62, c63, c64, c65, c66, c67, c68, c69, c70, c71, c72, c73, c74, c75, c76, c77, c78, c79, c80, c81, c82, c83, c84, c85, c86, c87, c88, c89, c90, c91, c92, c93, c94, c95, c96, c97, c98, c99, c100, c101, c102], []⟩ W') :
    Code.wp Try.prog rgWr5 Q ⟨#[.pointer (some ⟨g, 0, none⟩), c1, c2, c3, c4, c5, c6, c7, c8, c9, c10, c11, c12, c13, c14, c15, c16, c17, c18, c19, c20, c21, c22, c23, c24, c25, c26, c27, c28, c29, c30, c31, c32, c33, c34, c35, c36, c37, c38, c39, c40, c41, c42, c43, c44, c45, c46, c47, c48, c49, c50, c51, c52, c53, c54, c55, c56, c57, c58, c59, c60, c61, c62, c63, c64, c65, c66, c67, c68, c69, c70, c71, c72, c73, c74, c75, c76, c77, c78, c79, c80, c81, c82, c83, c84, c85, c86, c87, c88, c89, c90, c91, c92, c93, c94, c95, c96, c97, c98, c99, c100, c101, c102], []⟩ W := by
  rw [rgWr5_is]
  refine wp_region_held_drew (S := fun Y : World => Y.heap[g]? = some (macO rv r m s b h) ∧ True) (by kernel_rfl) (HS0 _ hR0) (fun hH => ?_)
  obtain ⟨w0, hw00⟩ : ∃ V, W.drew = V := ⟨_, rfl⟩
  clear hH
  rw [hw00] at hR0 ⊢
  have hH := HS0 _ hR0
  have hw0 := hR0
  clear hw00
  obtain ⟨a0, ha⟩ : ∃ a : Act, a = ⟨#[.pointer (some ⟨g, 0, none⟩), c1, c2, c3, c4, c5, c6, c7, c8, c9, c10, c11, c12, c13, c14, c15, c16, c17, c18, c19, c20, c21, c22, c23, c24, c25, c26, c27, c28, c29, c30, c31, c32, c33, c34, c35, c36, c37, c38, c39, c40, c41, c42, c43, c44, c45, c46, c47, c48, c49, c50, c51, c52, c53, c54, c55, c56, c57, c58, c59, c60, c61, c62, c63, c64, c65, c66, c67, c68, c69, c70, c71, c72, c73, c74, c75, c76, c77, c78, c79, c80, c81, c82, c83, c84, c85, c86, c87, c88, c89, c90, c91, c92, c93, c94, c95, c96, c97, c98, c99, c100, c101, c102], []⟩ := ⟨_, rfl⟩
  have sz0 : a0.tmps.size = 103 := by rw [ha]; kernel_rfl
  have e0_0 : a0.eval (.tmp 0) = .pointer (some ⟨g, 0, none⟩) := by rw [ha]; kernel_rfl
  rw [← ha]
  refine wpAnyH_as (l' := #[false, false, false, false, false, false, false, false, false, false]) (by kernel_rfl) ?_
  refine takeH (v := .pointer (some ⟨g, 0, none⟩)) opWr5_0 opWr5_ns (by kernel_rfl) (by kernel_rfl) HPN (fun w hw o ho => run_move ho e0_0 w) hH ?_
  refine wpAnyH_as (l' := #[true, false, false, false, false, false, false, false, false, false]) (by kernel_rfl) ?_
  obtain ⟨a1, h1⟩ : ∃ a' : Act, a' = a0.put (some 48) (.pointer (some ⟨g, 0, none⟩)) := ⟨_, rfl⟩
  rw [← h1]
  have sz1 : a1.tmps.size = 103 := by rw [h1, size_put]; exact sz0
  have e1_0 : a1.eval (.tmp 0) = .pointer (some ⟨g, 0, none⟩) := by rw [h1, eval_put_ne _ _ _ _ (by decide)]; exact e0_0
  have e1_48 : a1.eval (.tmp 48) = .pointer (some ⟨g, 0, none⟩) := by rw [h1]; exact eval_put_eq _ _ _ (by rw [sz0]; decide)
  clear e0_0 sz0
  refine takeH (v := .pointer (some ⟨g, 0, none⟩)) opWr5_1 opWr5_ns (by kernel_rfl) (by kernel_rfl) HPN (fun w hw o ho => run_nilCheck ho e1_48 w) hH ?_
  refine wpAnyH_as (l' := #[true, true, false, false, false, false, false, false, false, false]) (by kernel_rfl) ?_
  obtain ⟨a2, h2⟩ : ∃ a' : Act, a' = a1.put (some 49) (.pointer (some ⟨g, 0, none⟩)) := ⟨_, rfl⟩
  rw [← h2]
  have sz2 : a2.tmps.size = 103 := by rw [h2, size_put]; exact sz1
  have e2_0 : a2.eval (.tmp 0) = .pointer (some ⟨g, 0, none⟩) := by rw [h2, eval_put_ne _ _ _ _ (by decide)]; exact e1_0
  have e2_49 : a2.eval (.tmp 49) = .pointer (some ⟨g, 0, none⟩) := by rw [h2]; exact eval_put_eq _ _ _ (by rw [sz1]; decide)
  clear e1_0 e1_48 sz1
  refine takeH (v := .pointer (some ⟨g, 0, none⟩)) opWr5_2 opWr5_ns (by kernel_rfl) (by kernel_rfl) HPN (fun w hw o ho => run_fM0 ho e2_49 w) hH ?_
  refine wpAnyH_as (l' := #[true, true, true, false, false, false, false, false, false, false]) (by kernel_rfl) ?_
  obtain ⟨a3, h3⟩ : ∃ a' : Act, a' = a2.put (some 50) (.pointer (some ⟨g, 0, none⟩)) := ⟨_, rfl⟩
  rw [← h3]
  have sz3 : a3.tmps.size = 103 := by rw [h3, size_put]; exact sz2
  have e3_0 : a3.eval (.tmp 0) = .pointer (some ⟨g, 0, none⟩) := by rw [h3, eval_put_ne _ _ _ _ (by decide)]; exact e2_0
  have e3_50 : a3.eval (.tmp 50) = .pointer (some ⟨g, 0, none⟩) := by rw [h3]; exact eval_put_eq _ _ _ (by rw [sz2]; decide)
  clear e2_0 e2_49 sz2
  refine takeH (v := rv) opWr5_3 opWr5_ns (by kernel_rfl) (by kernel_rfl) HPN (fun w hw o ho => run_ldR ho e3_50 w (mac_r hw.1)) hH ?_
  refine wpAnyH_as (l' := #[true, true, true, true, false, false, false, false, false, false]) (by kernel_rfl) ?_
  obtain ⟨a4, h4⟩ : ∃ a' : Act, a' = a3.put (some 51) (rv) := ⟨_, rfl⟩
  rw [← h4]
  have sz4 : a4.tmps.size = 103 := by rw [h4, size_put]; exact sz3
  have e4_0 : a4.eval (.tmp 0) = .pointer (some ⟨g, 0, none⟩) := by rw [h4, eval_put_ne _ _ _ _ (by decide)]; exact e3_0
  have e4_51 : a4.eval (.tmp 51) = rv := by rw [h4]; exact eval_put_eq _ _ _ (by rw [sz3]; decide)
  clear e3_0 e3_50 sz3
  refine takeH (v := .pointer (some ⟨g, 0, none⟩)) opWr5_4 opWr5_ns (by kernel_rfl) (by kernel_rfl) HPN (fun w hw o ho => run_move ho e4_0 w) hH ?_
  refine wpAnyH_as (l' := #[true, true, true, true, true, false, false, false, false, false]) (by kernel_rfl) ?_
  obtain ⟨a5, h5⟩ : ∃ a' : Act, a' = a4.put (some 52) (.pointer (some ⟨g, 0, none⟩)) := ⟨_, rfl⟩
  rw [← h5]
  have sz5 : a5.tmps.size = 103 := by rw [h5, size_put]; exact sz4
  have e5_51 : a5.eval (.tmp 51) = rv := by rw [h5, eval_put_ne _ _ _ _ (by decide)]; exact e4_51
  have e5_52 : a5.eval (.tmp 52) = .pointer (some ⟨g, 0, none⟩) := by rw [h5]; exact eval_put_eq _ _ _ (by rw [sz4]; decide)
  clear e4_0 e4_51 sz4
  refine takeH (v := .pointer (some ⟨g, 0, none⟩)) opWr5_5 opWr5_ns (by kernel_rfl) (by kernel_rfl) HPN (fun w hw o ho => run_nilCheck ho e5_52 w) hH ?_
  refine wpAnyH_as (l' := #[true, true, true, true, true, true, false, false, false, false]) (by kernel_rfl) ?_
  obtain ⟨a6, h6⟩ : ∃ a' : Act, a' = a5.put (some 53) (.pointer (some ⟨g, 0, none⟩)) := ⟨_, rfl⟩
  rw [← h6]
  have sz6 : a6.tmps.size = 103 := by rw [h6, size_put]; exact sz5
  have e6_51 : a6.eval (.tmp 51) = rv := by rw [h6, eval_put_ne _ _ _ _ (by decide)]; exact e5_51
  have e6_53 : a6.eval (.tmp 53) = .pointer (some ⟨g, 0, none⟩) := by rw [h6]; exact eval_put_eq _ _ _ (by rw [sz5]; decide)
  clear e5_51 e5_52 sz5
  refine takeH (v := .pointer (some ⟨g, 44, none⟩)) opWr5_6 opWr5_ns (by kernel_rfl) (by kernel_rfl) HPN (fun w hw o ho => run_fM5 ho e6_53 w) hH ?_
  refine wpAnyH_as (l' := #[true, true, true, true, true, true, true, false, false, false]) (by kernel_rfl) ?_
  obtain ⟨a7, h7⟩ : ∃ a' : Act, a' = a6.put (some 54) (.pointer (some ⟨g, 44, none⟩)) := ⟨_, rfl⟩
  rw [← h7]
  have sz7 : a7.tmps.size = 103 := by rw [h7, size_put]; exact sz6
  have e7_51 : a7.eval (.tmp 51) = rv := by rw [h7, eval_put_ne _ _ _ _ (by decide)]; exact e6_51
  have e7_54 : a7.eval (.tmp 54) = .pointer (some ⟨g, 44, none⟩) := by rw [h7]; exact eval_put_eq _ _ _ (by rw [sz6]; decide)
  clear e6_51 e6_53 sz6
  refine takeH (v := .int .i64 ((h : Nat) : Int)) opWr5_7 opWr5_ns (by kernel_rfl) (by kernel_rfl) HPN (fun w hw o ho => run_ldI ho e7_54 w (mac_held hM.out.r.len hM.out.m.len hM.out.s.len hM.out.b.len hw.1)) hH ?_
  refine wpAnyH_as (l' := #[true, true, true, true, true, true, true, true, false, false]) (by kernel_rfl) ?_
  obtain ⟨a8, h8⟩ : ∃ a' : Act, a' = a7.put (some 55) (.int .i64 ((h : Nat) : Int)) := ⟨_, rfl⟩
  rw [← h8]
  have sz8 : a8.tmps.size = 103 := by rw [h8, size_put]; exact sz7
  have e8_51 : a8.eval (.tmp 51) = rv := by rw [h8, eval_put_ne _ _ _ _ (by decide)]; exact e7_51
  have e8_55 : a8.eval (.tmp 55) = .int .i64 ((h : Nat) : Int) := by rw [h8]; exact eval_put_eq _ _ _ (by rw [sz7]; decide)
  clear e7_51 e7_54 sz7
  refine takeH (v := .bool (decide (h = 16))) opWr5_8 opWr5_ns (by kernel_rfl) (by kernel_rfl) HPN (fun w hw o ho => run_eq16 ho e8_55 rfl w) hH ?_
  refine wpAnyH_as (l' := #[true, true, true, true, true, true, true, true, true, false]) (by kernel_rfl) ?_
  obtain ⟨a9, h9⟩ : ∃ a' : Act, a' = a8.put (some 56) (.bool (decide (h = 16))) := ⟨_, rfl⟩
  rw [← h9]
  have sz9 : a9.tmps.size = 103 := by rw [h9, size_put]; exact sz8
  have e9_51 : a9.eval (.tmp 51) = rv := by rw [h9, eval_put_ne _ _ _ _ (by decide)]; exact e8_51
  have e9_56 : a9.eval (.tmp 56) = .bool (decide (h = 16)) := by rw [h9]; exact eval_put_eq _ _ _ (by rw [sz8]; decide)
  clear e8_51 e8_55 sz8
  refine readyH opWr5_9 (by kernel_rfl) (fun o ho hd => wpCall (v := .bool (decide (h = 16))) ho hd (args := #[rv, .bool (decide (h = 16))]) (by simp only [List.map_toArray, List.map_cons, List.map_nil, e9_51, e9_56] <;> rfl) (fun _ => rfl) (HK0.out  w0 hw0) (fun w1 hw1 => ?_))
  have hH := HS1  w1 hw1
  refine ⟨hH, ?_⟩
  refine wpAnyH_as (l' := #[true, true, true, true, true, true, true, true, true, true]) (by kernel_rfl) ?_
  obtain ⟨a10, h10⟩ : ∃ a' : Act, a' = a9.put (some 57) (.bool (decide (h = 16))) := ⟨_, rfl⟩
  rw [← h10]
  have sz10 : a10.tmps.size = 103 := by rw [h10, size_put]; exact sz9
  clear e9_51 e9_56 sz9
  refine wpAnyH_done (by kernel_rfl) ?_ _
  have hF : a10 = ⟨#[.pointer (some ⟨g, 0, none⟩), c1, c2, c3, c4, c5, c6, c7, c8, c9, c10, c11, c12, c13, c14, c15, c16, c17, c18, c19, c20, c21, c22, c23, c24, c25, c26, c27, c28, c29, c30, c31, c32, c33, c34, c35, c36, c37, c38, c39, c40, c41, c42, c43, c44, c45, c46, c47, .pointer (some ⟨g, 0, none⟩), .pointer (some ⟨g, 0, none⟩), .pointer (some ⟨g, 0, none⟩), rv, .pointer (some ⟨g, 0, none⟩), .pointer (some ⟨g, 0, none⟩), .pointer (some ⟨g, 44, none⟩), .int .i64 ((h : Nat) : Int), .bool (decide (h = 16)), .bool (decide (h = 16)), c58, c59, c60, c61, c62, c63, c64, c65, c66, c67, c68, c69, c70, c71, c72, c73, c74, c75, c76, c77, c78, c79, c80, c81, c82, c83, c84, c85, c86, c87, c88, c89, c90, c91, c92, c93, c94, c95, c96, c97, c98, c99, c100, c101, c102], []⟩ := by rw [h10, h9, h8, h7, h6, h5, h4, h3, h2, h1, ha]; kernel_rfl
  rw [hF]
  exact H  _ hw1
end Go.Proofs.Ytgfamcadgahiiaa
