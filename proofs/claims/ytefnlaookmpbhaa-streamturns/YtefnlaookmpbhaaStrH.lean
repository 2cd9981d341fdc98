import Derived.Test.YtefnlaookmpbhaaStrG
namespace Go.Proofs.Ytefnlaookmpbhaa
set_option linter.unusedSimpArgs false
set_option linter.unusedVariables false
open Go.ChangeShapes Go.WideShapes Go.ChangeAt Go.RowKit Go.Pin Go.Str
noncomputable def rgOn7 : Code := ((Try.f40.body.bind (findReg 7)).getD .skip)
noncomputable def opOn7 : Array Oper := opsOf rgOn7
theorem rgOn7_is : rgOn7 = .region 7 opOn7 true := by kernel_rfl
theorem opOn7_ns : Region.noSelect opOn7 = true := by kernel_rfl
theorem opOn7_0 : opIs opOn7 0 (.move (.tmp 4)) (some 14) := by unfold opIs; kernel_rfl
theorem opOn7_1 : opIs opOn7 1 (.indexAddr 68 (.tmp 3) (.tmp 14)) (some 15) := by unfold opIs; kernel_rfl
theorem opOn7_2 : opIs opOn7 2 (.move (.tmp 4)) (some 16) := by unfold opIs; kernel_rfl
theorem opOn7_3 : opIs opOn7 3 (.binOp .add 3 (.const (.int .i64 4)) (.tmp 16) 3) (some 17) := by unfold opIs; kernel_rfl
theorem opOn7_4 : opIs opOn7 4 (.indexAddr 68 (.tmp 3) (.tmp 17)) (some 18) := by unfold opIs; kernel_rfl
theorem opOn7_5 : opIs opOn7 5 (.move (.tmp 4)) (some 19) := by unfold opIs; kernel_rfl
theorem opOn7_6 : opIs opOn7 6 (.binOp .add 3 (.const (.int .i64 8)) (.tmp 19) 3) (some 20) := by unfold opIs; kernel_rfl
theorem opOn7_7 : opIs opOn7 7 (.indexAddr 68 (.tmp 3) (.tmp 20)) (some 21) := by unfold opIs; kernel_rfl
theorem opOn7_8 : opIs opOn7 8 (.move (.tmp 4)) (some 22) := by unfold opIs; kernel_rfl
theorem opOn7_9 : opIs opOn7 9 (.binOp .add 3 (.const (.int .i64 12)) (.tmp 22) 3) (some 23) := by unfold opIs; kernel_rfl
theorem opOn7_10 : opIs opOn7 10 (.indexAddr 68 (.tmp 3) (.tmp 23)) (some 24) := by unfold opIs; kernel_rfl
theorem opOn7_11 : opIs opOn7 11 (.call { callee := .value (.func 47), args := #[.tmp 15, .tmp 18, .tmp 21, .tmp 24], argTypes := #[95, 95, 95, 95] }) (some 25) := by unfold opIs; kernel_rfl
set_option maxRecDepth 100000 in
set_option maxHeartbeats 4000000 in
theorem On7 {Q : Exit → Act → World → Prop} {W : World} {R : World → Prop} {g i : Nat} {c0 c1 c2 c5 c6 c7 c8 c9 c10 c11 c12 c13 c14 c15 c16 c17 c18 c19 c20 c21 c22 c23 c24 c25 c26 c27 c28 c29 c30 c31 c32 c33 c34 c35 c36 c37 c38 c39 c40 c41 c42 c43 c44 c45 c46 c47 c48 c49 c50 c51 c52 c53 c54 c55 c56 c57 c58 c59 c60 c61 c62 : Value}
    (hi : Hid (i < 4))
    (HC : Hid (Calls Try.prog 47 #[.pointer (some ⟨g, i, none⟩), .pointer (some ⟨g, 4 + i, none⟩), .pointer (some ⟨g, 8 + i, none⟩), .pointer (some ⟨g, 12 + i, none⟩)] W.drew fun e w' => e = .returned (.tuple #[]) ∧ R w'))
    (HPN : ∀ c (a : Act) d v w, Q (.panic c) (a.put d v) w → Q (.panic c) a w)
    (H : ∀ W', R W' → Q .normal ⟨#[c0, c1, c2, .pointer (some ⟨g, 0, none⟩), .int .i64 ((i : Nat) : Int), c5, c6, c7, c8, c9, c10, c11, c12, c13, .int .i64 ((i : Nat) : Int), .pointer (some ⟨g, i, none⟩), .int .i64 ((i : Nat) : Int), .int .i64 ((4 + i : Nat) : Int), .pointer (some ⟨g, 4 + i, none⟩), .int .i64 ((i : Nat) : Int), .int .i64 ((8 + i : Nat) : Int), .pointer (some ⟨g, 8 + i, none⟩), .int .i64 ((i : Nat) : Int), .int .i64 ((12 + i : Nat) : Int), .pointer (some ⟨g, 12 + i, none⟩), .tuple #[], c26, c27, c28, c29, c30, c31, c32, c33, c34, c35, c36, c37, c38, c39, c40, c41, c42, c43, c44, c45, c46, c47, c48, c49, c50, c51, c52, c53, c54, c55, c56, c57, c58, c59, c60, c61, c62], []⟩ W') :
    Code.wp Try.prog rgOn7 Q ⟨#[c0, c1, c2, .pointer (some ⟨g, 0, none⟩), .int .i64 ((i : Nat) : Int), c5, c6, c7, c8, c9, c10, c11, c12, c13, c14, c15, c16, c17, c18, c19, c20, c21, c22, c23, c24, c25, c26, c27, c28, c29, c30, c31, c32, c33, c34, c35, c36, c37, c38, c39, c40, c41, c42, c43, c44, c45, c46, c47, c48, c49, c50, c51, c52, c53, c54, c55, c56, c57, c58, c59, c60, c61, c62], []⟩ W := by
  rw [rgOn7_is]
  refine wp_region_held_drew (S := fun _ => True) (by kernel_rfl) trivial (fun _ => ?_)
  obtain ⟨a0, ha⟩ : ∃ a : Act, a = ⟨#[c0, c1, c2, .pointer (some ⟨g, 0, none⟩), .int .i64 ((i : Nat) : Int), c5, c6, c7, c8, c9, c10, c11, c12, c13, c14, c15, c16, c17, c18, c19, c20, c21, c22, c23, c24, c25, c26, c27, c28, c29, c30, c31, c32, c33, c34, c35, c36, c37, c38, c39, c40, c41, c42, c43, c44, c45, c46, c47, c48, c49, c50, c51, c52, c53, c54, c55, c56, c57, c58, c59, c60, c61, c62], []⟩ := ⟨_, rfl⟩
  have sz0 : a0.tmps.size = 63 := by rw [ha]; kernel_rfl
  have e0_3 : a0.eval (.tmp 3) = .pointer (some ⟨g, 0, none⟩) := by rw [ha]; kernel_rfl
  have e0_4 : a0.eval (.tmp 4) = .int .i64 ((i : Nat) : Int) := by rw [ha]; kernel_rfl
  rw [← ha]
  refine wpAnyH_as (l' := #[false, false, false, false, false, false, false, false, false, false, false, false]) (by kernel_rfl) ?_
  refine takeH (v := .int .i64 ((i : Nat) : Int)) opOn7_0 opOn7_ns (by kernel_rfl) (by kernel_rfl) HPN (fun w _ o ho => run_move ho e0_4 w) trivial ?_
  refine wpAnyH_as (l' := #[true, false, false, false, false, false, false, false, false, false, false, false]) (by kernel_rfl) ?_
  obtain ⟨a1, h1⟩ : ∃ a' : Act, a' = a0.put (some 14) (.int .i64 ((i : Nat) : Int)) := ⟨_, rfl⟩
  rw [← h1]
  have sz1 : a1.tmps.size = 63 := by rw [h1, size_put]; exact sz0
  have e1_3 : a1.eval (.tmp 3) = .pointer (some ⟨g, 0, none⟩) := by rw [h1, eval_put_ne _ _ _ _ (by decide)]; exact e0_3
  have e1_4 : a1.eval (.tmp 4) = .int .i64 ((i : Nat) : Int) := by rw [h1, eval_put_ne _ _ _ _ (by decide)]; exact e0_4
  have e1_14 : a1.eval (.tmp 14) = .int .i64 ((i : Nat) : Int) := by rw [h1]; exact eval_put_eq _ _ _ (by rw [sz0]; decide)
  clear e0_3 e0_4 sz0
  refine takeH (v := .pointer (some ⟨g, i, none⟩)) opOn7_1 opOn7_ns (by kernel_rfl) (by kernel_rfl) HPN (fun w _ o ho => run_ixW (n := i) (by have := hi.out; omega) ho e1_3 e1_14 w) trivial ?_
  refine wpAnyH_as (l' := #[true, true, false, false, false, false, false, false, false, false, false, false]) (by kernel_rfl) ?_
  obtain ⟨a2, h2⟩ : ∃ a' : Act, a' = a1.put (some 15) (.pointer (some ⟨g, i, none⟩)) := ⟨_, rfl⟩
  rw [← h2]
  have sz2 : a2.tmps.size = 63 := by rw [h2, size_put]; exact sz1
  have e2_3 : a2.eval (.tmp 3) = .pointer (some ⟨g, 0, none⟩) := by rw [h2, eval_put_ne _ _ _ _ (by decide)]; exact e1_3
  have e2_4 : a2.eval (.tmp 4) = .int .i64 ((i : Nat) : Int) := by rw [h2, eval_put_ne _ _ _ _ (by decide)]; exact e1_4
  have e2_15 : a2.eval (.tmp 15) = .pointer (some ⟨g, i, none⟩) := by rw [h2]; exact eval_put_eq _ _ _ (by rw [sz1]; decide)
  clear e1_14 e1_3 e1_4 sz1
  refine takeH (v := .int .i64 ((i : Nat) : Int)) opOn7_2 opOn7_ns (by kernel_rfl) (by kernel_rfl) HPN (fun w _ o ho => run_move ho e2_4 w) trivial ?_
  refine wpAnyH_as (l' := #[true, true, true, false, false, false, false, false, false, false, false, false]) (by kernel_rfl) ?_
  obtain ⟨a3, h3⟩ : ∃ a' : Act, a' = a2.put (some 16) (.int .i64 ((i : Nat) : Int)) := ⟨_, rfl⟩
  rw [← h3]
  have sz3 : a3.tmps.size = 63 := by rw [h3, size_put]; exact sz2
  have e3_3 : a3.eval (.tmp 3) = .pointer (some ⟨g, 0, none⟩) := by rw [h3, eval_put_ne _ _ _ _ (by decide)]; exact e2_3
  have e3_4 : a3.eval (.tmp 4) = .int .i64 ((i : Nat) : Int) := by rw [h3, eval_put_ne _ _ _ _ (by decide)]; exact e2_4
  have e3_15 : a3.eval (.tmp 15) = .pointer (some ⟨g, i, none⟩) := by rw [h3, eval_put_ne _ _ _ _ (by decide)]; exact e2_15
  have e3_16 : a3.eval (.tmp 16) = .int .i64 ((i : Nat) : Int) := by rw [h3]; exact eval_put_eq _ _ _ (by rw [sz2]; decide)
  clear e2_15 e2_3 e2_4 sz2
  refine takeH (v := .int .i64 ((4 + i : Nat) : Int)) opOn7_3 opOn7_ns (by kernel_rfl) (by kernel_rfl) HPN (fun w _ o ho => run_addI (p := 4) (q := i) (by have := hi.out; omega) ho rfl e3_16 w) trivial ?_
  refine wpAnyH_as (l' := #[true, true, true, true, false, false, false, false, false, false, false, false]) (by kernel_rfl) ?_
  obtain ⟨a4, h4⟩ : ∃ a' : Act, a' = a3.put (some 17) (.int .i64 ((4 + i : Nat) : Int)) := ⟨_, rfl⟩
  rw [← h4]
  have sz4 : a4.tmps.size = 63 := by rw [h4, size_put]; exact sz3
  have e4_3 : a4.eval (.tmp 3) = .pointer (some ⟨g, 0, none⟩) := by rw [h4, eval_put_ne _ _ _ _ (by decide)]; exact e3_3
  have e4_4 : a4.eval (.tmp 4) = .int .i64 ((i : Nat) : Int) := by rw [h4, eval_put_ne _ _ _ _ (by decide)]; exact e3_4
  have e4_15 : a4.eval (.tmp 15) = .pointer (some ⟨g, i, none⟩) := by rw [h4, eval_put_ne _ _ _ _ (by decide)]; exact e3_15
  have e4_17 : a4.eval (.tmp 17) = .int .i64 ((4 + i : Nat) : Int) := by rw [h4]; exact eval_put_eq _ _ _ (by rw [sz3]; decide)
  clear e3_15 e3_16 e3_3 e3_4 sz3
  refine takeH (v := .pointer (some ⟨g, 4 + i, none⟩)) opOn7_4 opOn7_ns (by kernel_rfl) (by kernel_rfl) HPN (fun w _ o ho => run_ixW (n := 4 + i) (by have := hi.out; omega) ho e4_3 e4_17 w) trivial ?_
  refine wpAnyH_as (l' := #[true, true, true, true, true, false, false, false, false, false, false, false]) (by kernel_rfl) ?_
  obtain ⟨a5, h5⟩ : ∃ a' : Act, a' = a4.put (some 18) (.pointer (some ⟨g, 4 + i, none⟩)) := ⟨_, rfl⟩
  rw [← h5]
  have sz5 : a5.tmps.size = 63 := by rw [h5, size_put]; exact sz4
  have e5_3 : a5.eval (.tmp 3) = .pointer (some ⟨g, 0, none⟩) := by rw [h5, eval_put_ne _ _ _ _ (by decide)]; exact e4_3
  have e5_4 : a5.eval (.tmp 4) = .int .i64 ((i : Nat) : Int) := by rw [h5, eval_put_ne _ _ _ _ (by decide)]; exact e4_4
  have e5_15 : a5.eval (.tmp 15) = .pointer (some ⟨g, i, none⟩) := by rw [h5, eval_put_ne _ _ _ _ (by decide)]; exact e4_15
  have e5_18 : a5.eval (.tmp 18) = .pointer (some ⟨g, 4 + i, none⟩) := by rw [h5]; exact eval_put_eq _ _ _ (by rw [sz4]; decide)
  clear e4_15 e4_17 e4_3 e4_4 sz4
  refine takeH (v := .int .i64 ((i : Nat) : Int)) opOn7_5 opOn7_ns (by kernel_rfl) (by kernel_rfl) HPN (fun w _ o ho => run_move ho e5_4 w) trivial ?_
  refine wpAnyH_as (l' := #[true, true, true, true, true, true, false, false, false, false, false, false]) (by kernel_rfl) ?_
  obtain ⟨a6, h6⟩ : ∃ a' : Act, a' = a5.put (some 19) (.int .i64 ((i : Nat) : Int)) := ⟨_, rfl⟩
  rw [← h6]
  have sz6 : a6.tmps.size = 63 := by rw [h6, size_put]; exact sz5
  have e6_3 : a6.eval (.tmp 3) = .pointer (some ⟨g, 0, none⟩) := by rw [h6, eval_put_ne _ _ _ _ (by decide)]; exact e5_3
  have e6_4 : a6.eval (.tmp 4) = .int .i64 ((i : Nat) : Int) := by rw [h6, eval_put_ne _ _ _ _ (by decide)]; exact e5_4
  have e6_15 : a6.eval (.tmp 15) = .pointer (some ⟨g, i, none⟩) := by rw [h6, eval_put_ne _ _ _ _ (by decide)]; exact e5_15
  have e6_18 : a6.eval (.tmp 18) = .pointer (some ⟨g, 4 + i, none⟩) := by rw [h6, eval_put_ne _ _ _ _ (by decide)]; exact e5_18
  have e6_19 : a6.eval (.tmp 19) = .int .i64 ((i : Nat) : Int) := by rw [h6]; exact eval_put_eq _ _ _ (by rw [sz5]; decide)
  clear e5_15 e5_18 e5_3 e5_4 sz5
  refine takeH (v := .int .i64 ((8 + i : Nat) : Int)) opOn7_6 opOn7_ns (by kernel_rfl) (by kernel_rfl) HPN (fun w _ o ho => run_addI (p := 8) (q := i) (by have := hi.out; omega) ho rfl e6_19 w) trivial ?_
  refine wpAnyH_as (l' := #[true, true, true, true, true, true, true, false, false, false, false, false]) (by kernel_rfl) ?_
  obtain ⟨a7, h7⟩ : ∃ a' : Act, a' = a6.put (some 20) (.int .i64 ((8 + i : Nat) : Int)) := ⟨_, rfl⟩
  rw [← h7]
  have sz7 : a7.tmps.size = 63 := by rw [h7, size_put]; exact sz6
  have e7_3 : a7.eval (.tmp 3) = .pointer (some ⟨g, 0, none⟩) := by rw [h7, eval_put_ne _ _ _ _ (by decide)]; exact e6_3
  have e7_4 : a7.eval (.tmp 4) = .int .i64 ((i : Nat) : Int) := by rw [h7, eval_put_ne _ _ _ _ (by decide)]; exact e6_4
  have e7_15 : a7.eval (.tmp 15) = .pointer (some ⟨g, i, none⟩) := by rw [h7, eval_put_ne _ _ _ _ (by decide)]; exact e6_15
  have e7_18 : a7.eval (.tmp 18) = .pointer (some ⟨g, 4 + i, none⟩) := by rw [h7, eval_put_ne _ _ _ _ (by decide)]; exact e6_18
  have e7_20 : a7.eval (.tmp 20) = .int .i64 ((8 + i : Nat) : Int) := by rw [h7]; exact eval_put_eq _ _ _ (by rw [sz6]; decide)
  clear e6_15 e6_18 e6_19 e6_3 e6_4 sz6
  refine takeH (v := .pointer (some ⟨g, 8 + i, none⟩)) opOn7_7 opOn7_ns (by kernel_rfl) (by kernel_rfl) HPN (fun w _ o ho => run_ixW (n := 8 + i) (by have := hi.out; omega) ho e7_3 e7_20 w) trivial ?_
  refine wpAnyH_as (l' := #[true, true, true, true, true, true, true, true, false, false, false, false]) (by kernel_rfl) ?_
  obtain ⟨a8, h8⟩ : ∃ a' : Act, a' = a7.put (some 21) (.pointer (some ⟨g, 8 + i, none⟩)) := ⟨_, rfl⟩
  rw [← h8]
  have sz8 : a8.tmps.size = 63 := by rw [h8, size_put]; exact sz7
  have e8_3 : a8.eval (.tmp 3) = .pointer (some ⟨g, 0, none⟩) := by rw [h8, eval_put_ne _ _ _ _ (by decide)]; exact e7_3
  have e8_4 : a8.eval (.tmp 4) = .int .i64 ((i : Nat) : Int) := by rw [h8, eval_put_ne _ _ _ _ (by decide)]; exact e7_4
  have e8_15 : a8.eval (.tmp 15) = .pointer (some ⟨g, i, none⟩) := by rw [h8, eval_put_ne _ _ _ _ (by decide)]; exact e7_15
  have e8_18 : a8.eval (.tmp 18) = .pointer (some ⟨g, 4 + i, none⟩) := by rw [h8, eval_put_ne _ _ _ _ (by decide)]; exact e7_18
  have e8_21 : a8.eval (.tmp 21) = .pointer (some ⟨g, 8 + i, none⟩) := by rw [h8]; exact eval_put_eq _ _ _ (by rw [sz7]; decide)
  clear e7_15 e7_18 e7_20 e7_3 e7_4 sz7
  refine takeH (v := .int .i64 ((i : Nat) : Int)) opOn7_8 opOn7_ns (by kernel_rfl) (by kernel_rfl) HPN (fun w _ o ho => run_move ho e8_4 w) trivial ?_
  refine wpAnyH_as (l' := #[true, true, true, true, true, true, true, true, true, false, false, false]) (by kernel_rfl) ?_
  obtain ⟨a9, h9⟩ : ∃ a' : Act, a' = a8.put (some 22) (.int .i64 ((i : Nat) : Int)) := ⟨_, rfl⟩
  rw [← h9]
  have sz9 : a9.tmps.size = 63 := by rw [h9, size_put]; exact sz8
  have e9_3 : a9.eval (.tmp 3) = .pointer (some ⟨g, 0, none⟩) := by rw [h9, eval_put_ne _ _ _ _ (by decide)]; exact e8_3
  have e9_15 : a9.eval (.tmp 15) = .pointer (some ⟨g, i, none⟩) := by rw [h9, eval_put_ne _ _ _ _ (by decide)]; exact e8_15
  have e9_18 : a9.eval (.tmp 18) = .pointer (some ⟨g, 4 + i, none⟩) := by rw [h9, eval_put_ne _ _ _ _ (by decide)]; exact e8_18
  have e9_21 : a9.eval (.tmp 21) = .pointer (some ⟨g, 8 + i, none⟩) := by rw [h9, eval_put_ne _ _ _ _ (by decide)]; exact e8_21
  have e9_22 : a9.eval (.tmp 22) = .int .i64 ((i : Nat) : Int) := by rw [h9]; exact eval_put_eq _ _ _ (by rw [sz8]; decide)
  clear e8_15 e8_18 e8_21 e8_3 e8_4 sz8
  refine takeH (v := .int .i64 ((12 + i : Nat) : Int)) opOn7_9 opOn7_ns (by kernel_rfl) (by kernel_rfl) HPN (fun w _ o ho => run_addI (p := 12) (q := i) (by have := hi.out; omega) ho rfl e9_22 w) trivial ?_
  refine wpAnyH_as (l' := #[true, true, true, true, true, true, true, true, true, true, false, false]) (by kernel_rfl) ?_
  obtain ⟨a10, h10⟩ : ∃ a' : Act, a' = a9.put (some 23) (.int .i64 ((12 + i : Nat) : Int)) := ⟨_, rfl⟩
  rw [← h10]
  have sz10 : a10.tmps.size = 63 := by rw [h10, size_put]; exact sz9
  have e10_3 : a10.eval (.tmp 3) = .pointer (some ⟨g, 0, none⟩) := by rw [h10, eval_put_ne _ _ _ _ (by decide)]; exact e9_3
  have e10_15 : a10.eval (.tmp 15) = .pointer (some ⟨g, i, none⟩) := by rw [h10, eval_put_ne _ _ _ _ (by decide)]; exact e9_15
  have e10_18 : a10.eval (.tmp 18) = .pointer (some ⟨g, 4 + i, none⟩) := by rw [h10, eval_put_ne _ _ _ _ (by decide)]; exact e9_18
  have e10_21 : a10.eval (.tmp 21) = .pointer (some ⟨g, 8 + i, none⟩) := by rw [h10, eval_put_ne _ _ _ _ (by decide)]; exact e9_21
  have e10_23 : a10.eval (.tmp 23) = .int .i64 ((12 + i : Nat) : Int) := by rw [h10]; exact eval_put_eq _ _ _ (by rw [sz9]; decide)
  clear e9_15 e9_18 e9_21 e9_22 e9_3 sz9
  refine takeH (v := .pointer (some ⟨g, 12 + i, none⟩)) opOn7_10 opOn7_ns (by kernel_rfl) (by kernel_rfl) HPN (fun w _ o ho => run_ixW (n := 12 + i) (by have := hi.out; omega) ho e10_3 e10_23 w) trivial ?_
  refine wpAnyH_as (l' := #[true, true, true, true, true, true, true, true, true, true, true, false]) (by kernel_rfl) ?_
  obtain ⟨a11, h11⟩ : ∃ a' : Act, a' = a10.put (some 24) (.pointer (some ⟨g, 12 + i, none⟩)) := ⟨_, rfl⟩
  rw [← h11]
  have sz11 : a11.tmps.size = 63 := by rw [h11, size_put]; exact sz10
  have e11_15 : a11.eval (.tmp 15) = .pointer (some ⟨g, i, none⟩) := by rw [h11, eval_put_ne _ _ _ _ (by decide)]; exact e10_15
  have e11_18 : a11.eval (.tmp 18) = .pointer (some ⟨g, 4 + i, none⟩) := by rw [h11, eval_put_ne _ _ _ _ (by decide)]; exact e10_18
  have e11_21 : a11.eval (.tmp 21) = .pointer (some ⟨g, 8 + i, none⟩) := by rw [h11, eval_put_ne _ _ _ _ (by decide)]; exact e10_21
  have e11_24 : a11.eval (.tmp 24) = .pointer (some ⟨g, 12 + i, none⟩) := by rw [h11]; exact eval_put_eq _ _ _ (by rw [sz10]; decide)
  clear e10_15 e10_18 e10_21 e10_23 e10_3 sz10
  refine readyH opOn7_11 (by kernel_rfl) (fun o ho hd => wpCall (v := .tuple #[]) ho hd (args := #[.pointer (some ⟨g, i, none⟩), .pointer (some ⟨g, 4 + i, none⟩), .pointer (some ⟨g, 8 + i, none⟩), .pointer (some ⟨g, 12 + i, none⟩)]) (by simp only [List.map_toArray, List.map_cons, List.map_nil, e11_15, e11_18, e11_21, e11_24] <;> rfl) (fun _ => rfl) HC.out (fun w1 hw1 => ?_))
  refine ⟨trivial, ?_⟩
  refine wpAnyH_as (l' := #[true, true, true, true, true, true, true, true, true, true, true, true]) (by kernel_rfl) ?_
  obtain ⟨a12, h12⟩ : ∃ a' : Act, a' = a11.put (some 25) (.tuple #[]) := ⟨_, rfl⟩
  rw [← h12]
  have sz12 : a12.tmps.size = 63 := by rw [h12, size_put]; exact sz11
  clear e11_15 e11_18 e11_21 e11_24 sz11
  refine wpAnyH_done (by kernel_rfl) ?_ _
  have hF : a12 = ⟨#[c0, c1, c2, .pointer (some ⟨g, 0, none⟩), .int .i64 ((i : Nat) : Int), c5, c6, c7, c8, c9, c10, c11, c12, c13, .int .i64 ((i : Nat) : Int), .pointer (some ⟨g, i, none⟩), .int .i64 ((i : Nat) : Int), .int .i64 ((4 + i : Nat) : Int), .pointer (some ⟨g, 4 + i, none⟩), .int .i64 ((i : Nat) : Int), .int .i64 ((8 + i : Nat) : Int), .pointer (some ⟨g, 8 + i, none⟩), .int .i64 ((i : Nat) : Int), .int .i64 ((12 + i : Nat) : Int), .pointer (some ⟨g, 12 + i, none⟩), .tuple #[], c26, c27, c28, c29, c30, c31, c32, c33, c34, c35, c36, c37, c38, c39, c40, c41, c42, c43, c44, c45, c46, c47, c48, c49, c50, c51, c52, c53, c54, c55, c56, c57, c58, c59, c60, c61, c62], []⟩ := by rw [h12, h11, h10, h9, h8, h7, h6, h5, h4, h3, h2, h1, ha]; kernel_rfl
  rw [hF]
  exact H _ hw1
noncomputable def rgOn12 : Code := ((Try.f40.body.bind (findReg 12)).getD .skip)
noncomputable def opOn12 : Array Oper := opsOf rgOn12
theorem rgOn12_is : rgOn12 = .region 12 opOn12 true := by kernel_rfl
theorem opOn12_ns : Region.noSelect opOn12 = true := by kernel_rfl
theorem opOn12_0 : opIs opOn12 0 (.move (.tmp 5)) (some 30) := by unfold opIs; kernel_rfl
theorem opOn12_1 : opIs opOn12 1 (.indexAddr 68 (.tmp 3) (.tmp 30)) (some 31) := by unfold opIs; kernel_rfl
theorem opOn12_2 : opIs opOn12 2 (.move (.tmp 5)) (some 32) := by unfold opIs; kernel_rfl
theorem opOn12_3 : opIs opOn12 3 (.binOp .add 3 (.tmp 32) (.const (.int .i64 1)) 3) (some 33) := by unfold opIs; kernel_rfl
theorem opOn12_4 : opIs opOn12 4 (.binOp .rem 3 (.tmp 33) (.const (.int .i64 4)) 3) (some 34) := by unfold opIs; kernel_rfl
theorem opOn12_5 : opIs opOn12 5 (.binOp .add 3 (.const (.int .i64 4)) (.tmp 34) 3) (some 35) := by unfold opIs; kernel_rfl
theorem opOn12_6 : opIs opOn12 6 (.indexAddr 68 (.tmp 3) (.tmp 35)) (some 36) := by unfold opIs; kernel_rfl
theorem opOn12_7 : opIs opOn12 7 (.move (.tmp 5)) (some 37) := by unfold opIs; kernel_rfl
theorem opOn12_8 : opIs opOn12 8 (.binOp .add 3 (.tmp 37) (.const (.int .i64 2)) 3) (some 38) := by unfold opIs; kernel_rfl
theorem opOn12_9 : opIs opOn12 9 (.binOp .rem 3 (.tmp 38) (.const (.int .i64 4)) 3) (some 39) := by unfold opIs; kernel_rfl
theorem opOn12_10 : opIs opOn12 10 (.binOp .add 3 (.const (.int .i64 8)) (.tmp 39) 3) (some 40) := by unfold opIs; kernel_rfl
theorem opOn12_11 : opIs opOn12 11 (.indexAddr 68 (.tmp 3) (.tmp 40)) (some 41) := by unfold opIs; kernel_rfl
theorem opOn12_12 : opIs opOn12 12 (.move (.tmp 5)) (some 42) := by unfold opIs; kernel_rfl
theorem opOn12_13 : opIs opOn12 13 (.binOp .add 3 (.tmp 42) (.const (.int .i64 3)) 3) (some 43) := by unfold opIs; kernel_rfl
theorem opOn12_14 : opIs opOn12 14 (.binOp .rem 3 (.tmp 43) (.const (.int .i64 4)) 3) (some 44) := by unfold opIs; kernel_rfl
theorem opOn12_15 : opIs opOn12 15 (.binOp .add 3 (.const (.int .i64 12)) (.tmp 44) 3) (some 45) := by unfold opIs; kernel_rfl
theorem opOn12_16 : opIs opOn12 16 (.indexAddr 68 (.tmp 3) (.tmp 45)) (some 46) := by unfold opIs; kernel_rfl
theorem opOn12_17 : opIs opOn12 17 (.call { callee := .value (.func 47), args := #[.tmp 31, .tmp 36, .tmp 41, .tmp 46], argTypes := #[95, 95, 95, 95] }) (some 47) := by unfold opIs; kernel_rfl
set_option maxRecDepth 100000 in
set_option maxHeartbeats 4000000 in
theorem On12 {Q : Exit → Act → World → Prop} {W : World} {R : World → Prop} {g i : Nat} {c0 c1 c2 c4 c6 c7 c8 c9 c10 c11 c12 c13 c14 c15 c16 c17 c18 c19 c20 c21 c22 c23 c24 c25 c26 c27 c28 c29 c30 c31 c32 c33 c34 c35 c36 c37 c38 c39 c40 c41 c42 c43 c44 c45 c46 c47 c48 c49 c50 c51 c52 c53 c54 c55 c56 c57 c58 c59 c60 c61 c62 : Value}
    (hi : Hid (i < 4))
    (HC : Hid (Calls Try.prog 47 #[.pointer (some ⟨g, i, none⟩), .pointer (some ⟨g, 4 + ((i + 1) % 4), none⟩), .pointer (some ⟨g, 8 + ((i + 2) % 4), none⟩), .pointer (some ⟨g, 12 + ((i + 3) % 4), none⟩)] W.drew fun e w' => e = .returned (.tuple #[]) ∧ R w'))
    (HPN : ∀ c (a : Act) d v w, Q (.panic c) (a.put d v) w → Q (.panic c) a w)
    (H : ∀ W', R W' → Q .normal ⟨#[c0, c1, c2, .pointer (some ⟨g, 0, none⟩), c4, .int .i64 ((i : Nat) : Int), c6, c7, c8, c9, c10, c11, c12, c13, c14, c15, c16, c17, c18, c19, c20, c21, c22, c23, c24, c25, c26, c27, c28, c29, .int .i64 ((i : Nat) : Int), .pointer (some ⟨g, i, none⟩), .int .i64 ((i : Nat) : Int), .int .i64 ((i + 1 : Nat) : Int), .int .i64 (((i + 1) % 4 : Nat) : Int), .int .i64 ((4 + ((i + 1) % 4) : Nat) : Int), .pointer (some ⟨g, 4 + ((i + 1) % 4), none⟩), .int .i64 ((i : Nat) : Int), .int .i64 ((i + 2 : Nat) : Int), .int .i64 (((i + 2) % 4 : Nat) : Int), .int .i64 ((8 + ((i + 2) % 4) : Nat) : Int), .pointer (some ⟨g, 8 + ((i + 2) % 4), none⟩), .int .i64 ((i : Nat) : Int), .int .i64 ((i + 3 : Nat) : Int), .int .i64 (((i + 3) % 4 : Nat) : Int), .int .i64 ((12 + ((i + 3) % 4) : Nat) : Int), .pointer (some ⟨g, 12 + ((i + 3) % 4), none⟩), .tuple #[], c48, c49, c50, c51, c52, c53, c54, c55, c56, c57, c58, c59, c60, c61, c62], []⟩ W') :
    Code.wp Try.prog rgOn12 Q ⟨#[c0, c1, c2, .pointer (some ⟨g, 0, none⟩), c4, .int .i64 ((i : Nat) : Int), c6, c7, c8, c9, c10, c11, c12, c13, c14, c15, c16, c17, c18, c19, c20, c21, c22, c23, c24, c25, c26, c27, c28, c29, c30, c31, c32, c33, c34, c35, c36, c37, c38, c39, c40, c41, c42, c43, c44, c45, c46, c47, c48, c49, c50, c51, c52, c53, c54, c55, c56, c57, c58, c59, c60, c61, c62], []⟩ W := by
  rw [rgOn12_is]
  refine wp_region_held_drew (S := fun _ => True) (by kernel_rfl) trivial (fun _ => ?_)
  obtain ⟨a0, ha⟩ : ∃ a : Act, a = ⟨#[c0, c1, c2, .pointer (some ⟨g, 0, none⟩), c4, .int .i64 ((i : Nat) : Int), c6, c7, c8, c9, c10, c11, c12, c13, c14, c15, c16, c17, c18, c19, c20, c21, c22, c23, c24, c25, c26, c27, c28, c29, c30, c31, c32, c33, c34, c35, c36, c37, c38, c39, c40, c41, c42, c43, c44, c45, c46, c47, c48, c49, c50, c51, c52, c53, c54, c55, c56, c57, c58, c59, c60, c61, c62], []⟩ := ⟨_, rfl⟩
  have sz0 : a0.tmps.size = 63 := by rw [ha]; kernel_rfl
  have e0_3 : a0.eval (.tmp 3) = .pointer (some ⟨g, 0, none⟩) := by rw [ha]; kernel_rfl
  have e0_5 : a0.eval (.tmp 5) = .int .i64 ((i : Nat) : Int) := by rw [ha]; kernel_rfl
  rw [← ha]
  refine wpAnyH_as (l' := #[false, false, false, false, false, false, false, false, false, false, false, false, false, false, false, false, false, false]) (by kernel_rfl) ?_
  refine takeH (v := .int .i64 ((i : Nat) : Int)) opOn12_0 opOn12_ns (by kernel_rfl) (by kernel_rfl) HPN (fun w _ o ho => run_move ho e0_5 w) trivial ?_
  refine wpAnyH_as (l' := #[true, false, false, false, false, false, false, false, false, false, false, false, false, false, false, false, false, false]) (by kernel_rfl) ?_
  obtain ⟨a1, h1⟩ : ∃ a' : Act, a' = a0.put (some 30) (.int .i64 ((i : Nat) : Int)) := ⟨_, rfl⟩
  rw [← h1]
  have sz1 : a1.tmps.size = 63 := by rw [h1, size_put]; exact sz0
  have e1_3 : a1.eval (.tmp 3) = .pointer (some ⟨g, 0, none⟩) := by rw [h1, eval_put_ne _ _ _ _ (by decide)]; exact e0_3
  have e1_5 : a1.eval (.tmp 5) = .int .i64 ((i : Nat) : Int) := by rw [h1, eval_put_ne _ _ _ _ (by decide)]; exact e0_5
  have e1_30 : a1.eval (.tmp 30) = .int .i64 ((i : Nat) : Int) := by rw [h1]; exact eval_put_eq _ _ _ (by rw [sz0]; decide)
  clear e0_3 e0_5 sz0
  refine takeH (v := .pointer (some ⟨g, i, none⟩)) opOn12_1 opOn12_ns (by kernel_rfl) (by kernel_rfl) HPN (fun w _ o ho => run_ixW (n := i) (by have := hi.out; omega) ho e1_3 e1_30 w) trivial ?_
  refine wpAnyH_as (l' := #[true, true, false, false, false, false, false, false, false, false, false, false, false, false, false, false, false, false]) (by kernel_rfl) ?_
  obtain ⟨a2, h2⟩ : ∃ a' : Act, a' = a1.put (some 31) (.pointer (some ⟨g, i, none⟩)) := ⟨_, rfl⟩
  rw [← h2]
  have sz2 : a2.tmps.size = 63 := by rw [h2, size_put]; exact sz1
  have e2_3 : a2.eval (.tmp 3) = .pointer (some ⟨g, 0, none⟩) := by rw [h2, eval_put_ne _ _ _ _ (by decide)]; exact e1_3
  have e2_5 : a2.eval (.tmp 5) = .int .i64 ((i : Nat) : Int) := by rw [h2, eval_put_ne _ _ _ _ (by decide)]; exact e1_5
  have e2_31 : a2.eval (.tmp 31) = .pointer (some ⟨g, i, none⟩) := by rw [h2]; exact eval_put_eq _ _ _ (by rw [sz1]; decide)
  clear e1_3 e1_30 e1_5 sz1
  refine takeH (v := .int .i64 ((i : Nat) : Int)) opOn12_2 opOn12_ns (by kernel_rfl) (by kernel_rfl) HPN (fun w _ o ho => run_move ho e2_5 w) trivial ?_
  refine wpAnyH_as (l' := #[true, true, true, false, false, false, false, false, false, false, false, false, false, false, false, false, false, false]) (by kernel_rfl) ?_
  obtain ⟨a3, h3⟩ : ∃ a' : Act, a' = a2.put (some 32) (.int .i64 ((i : Nat) : Int)) := ⟨_, rfl⟩
  rw [← h3]
  have sz3 : a3.tmps.size = 63 := by rw [h3, size_put]; exact sz2
  have e3_3 : a3.eval (.tmp 3) = .pointer (some ⟨g, 0, none⟩) := by rw [h3, eval_put_ne _ _ _ _ (by decide)]; exact e2_3
  have e3_5 : a3.eval (.tmp 5) = .int .i64 ((i : Nat) : Int) := by rw [h3, eval_put_ne _ _ _ _ (by decide)]; exact e2_5
  have e3_31 : a3.eval (.tmp 31) = .pointer (some ⟨g, i, none⟩) := by rw [h3, eval_put_ne _ _ _ _ (by decide)]; exact e2_31
  have e3_32 : a3.eval (.tmp 32) = .int .i64 ((i : Nat) : Int) := by rw [h3]; exact eval_put_eq _ _ _ (by rw [sz2]; decide)
  clear e2_3 e2_31 e2_5 sz2
  refine takeH (v := .int .i64 ((i + 1 : Nat) : Int)) opOn12_3 opOn12_ns (by kernel_rfl) (by kernel_rfl) HPN (fun w _ o ho => run_addI (p := i) (q := 1) (by have := hi.out; omega) ho e3_32 rfl w) trivial ?_
  refine wpAnyH_as (l' := #[true, true, true, true, false, false, false, false, false, false, false, false, false, false, false, false, false, false]) (by kernel_rfl) ?_
  obtain ⟨a4, h4⟩ : ∃ a' : Act, a' = a3.put (some 33) (.int .i64 ((i + 1 : Nat) : Int)) := ⟨_, rfl⟩
  rw [← h4]
  have sz4 : a4.tmps.size = 63 := by rw [h4, size_put]; exact sz3
  have e4_3 : a4.eval (.tmp 3) = .pointer (some ⟨g, 0, none⟩) := by rw [h4, eval_put_ne _ _ _ _ (by decide)]; exact e3_3
  have e4_5 : a4.eval (.tmp 5) = .int .i64 ((i : Nat) : Int) := by rw [h4, eval_put_ne _ _ _ _ (by decide)]; exact e3_5
  have e4_31 : a4.eval (.tmp 31) = .pointer (some ⟨g, i, none⟩) := by rw [h4, eval_put_ne _ _ _ _ (by decide)]; exact e3_31
  have e4_33 : a4.eval (.tmp 33) = .int .i64 ((i + 1 : Nat) : Int) := by rw [h4]; exact eval_put_eq _ _ _ (by rw [sz3]; decide)
  clear e3_3 e3_31 e3_32 e3_5 sz3
  refine takeH (v := .int .i64 (((i + 1) % 4 : Nat) : Int)) opOn12_4 opOn12_ns (by kernel_rfl) (by kernel_rfl) HPN (fun w _ o ho => run_remI (p := i + 1) (q := 4) (by decide) (by have := hi.out; omega) ho e4_33 rfl w) trivial ?_
  refine wpAnyH_as (l' := #[true, true, true, true, true, false, false, false, false, false, false, false, false, false, false, false, false, false]) (by kernel_rfl) ?_
  obtain ⟨a5, h5⟩ : ∃ a' : Act, a' = a4.put (some 34) (.int .i64 (((i + 1) % 4 : Nat) : Int)) := ⟨_, rfl⟩
  rw [← h5]
  have sz5 : a5.tmps.size = 63 := by rw [h5, size_put]; exact sz4
  have e5_3 : a5.eval (.tmp 3) = .pointer (some ⟨g, 0, none⟩) := by rw [h5, eval_put_ne _ _ _ _ (by decide)]; exact e4_3
  have e5_5 : a5.eval (.tmp 5) = .int .i64 ((i : Nat) : Int) := by rw [h5, eval_put_ne _ _ _ _ (by decide)]; exact e4_5
  have e5_31 : a5.eval (.tmp 31) = .pointer (some ⟨g, i, none⟩) := by rw [h5, eval_put_ne _ _ _ _ (by decide)]; exact e4_31
  have e5_34 : a5.eval (.tmp 34) = .int .i64 (((i + 1) % 4 : Nat) : Int) := by rw [h5]; exact eval_put_eq _ _ _ (by rw [sz4]; decide)
  clear e4_3 e4_31 e4_33 e4_5 sz4
  refine takeH (v := .int .i64 ((4 + ((i + 1) % 4) : Nat) : Int)) opOn12_5 opOn12_ns (by kernel_rfl) (by kernel_rfl) HPN (fun w _ o ho => run_addI (p := 4) (q := (i + 1) % 4) (by have := hi.out; omega) ho rfl e5_34 w) trivial ?_
  refine wpAnyH_as (l' := #[true, true, true, true, true, true, false, false, false, false, false, false, false, false, false, false, false, false]) (by kernel_rfl) ?_
  obtain ⟨a6, h6⟩ : ∃ a' : Act, a' = a5.put (some 35) (.int .i64 ((4 + ((i + 1) % 4) : Nat) : Int)) := ⟨_, rfl⟩
  rw [← h6]
  have sz6 : a6.tmps.size = 63 := by rw [h6, size_put]; exact sz5
  have e6_3 : a6.eval (.tmp 3) = .pointer (some ⟨g, 0, none⟩) := by rw [h6, eval_put_ne _ _ _ _ (by decide)]; exact e5_3
  have e6_5 : a6.eval (.tmp 5) = .int .i64 ((i : Nat) : Int) := by rw [h6, eval_put_ne _ _ _ _ (by decide)]; exact e5_5
  have e6_31 : a6.eval (.tmp 31) = .pointer (some ⟨g, i, none⟩) := by rw [h6, eval_put_ne _ _ _ _ (by decide)]; exact e5_31
  have e6_35 : a6.eval (.tmp 35) = .int .i64 ((4 + ((i + 1) % 4) : Nat) : Int) := by rw [h6]; exact eval_put_eq _ _ _ (by rw [sz5]; decide)
  clear e5_3 e5_31 e5_34 e5_5 sz5
  refine takeH (v := .pointer (some ⟨g, 4 + ((i + 1) % 4), none⟩)) opOn12_6 opOn12_ns (by kernel_rfl) (by kernel_rfl) HPN (fun w _ o ho => run_ixW (n := 4 + ((i + 1) % 4)) (by have := hi.out; omega) ho e6_3 e6_35 w) trivial ?_
  refine wpAnyH_as (l' := #[true, true, true, true, true, true, true, false, false, false, false, false, false, false, false, false, false, false]) (by kernel_rfl) ?_
  obtain ⟨a7, h7⟩ : ∃ a' : Act, a' = a6.put (some 36) (.pointer (some ⟨g, 4 + ((i + 1) % 4), none⟩)) := ⟨_, rfl⟩
  rw [← h7]
  have sz7 : a7.tmps.size = 63 := by rw [h7, size_put]; exact sz6
  have e7_3 : a7.eval (.tmp 3) = .pointer (some ⟨g, 0, none⟩) := by rw [h7, eval_put_ne _ _ _ _ (by decide)]; exact e6_3
  have e7_5 : a7.eval (.tmp 5) = .int .i64 ((i : Nat) : Int) := by rw [h7, eval_put_ne _ _ _ _ (by decide)]; exact e6_5
  have e7_31 : a7.eval (.tmp 31) = .pointer (some ⟨g, i, none⟩) := by rw [h7, eval_put_ne _ _ _ _ (by decide)]; exact e6_31
  have e7_36 : a7.eval (.tmp 36) = .pointer (some ⟨g, 4 + ((i + 1) % 4), none⟩) := by rw [h7]; exact eval_put_eq _ _ _ (by rw [sz6]; decide)
  clear e6_3 e6_31 e6_35 e6_5 sz6
  refine takeH (v := .int .i64 ((i : Nat) : Int)) opOn12_7 opOn12_ns (by kernel_rfl) (by kernel_rfl) HPN (fun w _ o ho => run_move ho e7_5 w) trivial ?_
  refine wpAnyH_as (l' := #[true, true, true, true, true, true, true, true, false, false, false, false, false, false, false, false, false, false]) (by kernel_rfl) ?_
  obtain ⟨a8, h8⟩ : ∃ a' : Act, a' = a7.put (some 37) (.int .i64 ((i : Nat) : Int)) := ⟨_, rfl⟩
  rw [← h8]
  have sz8 : a8.tmps.size = 63 := by rw [h8, size_put]; exact sz7
  have e8_3 : a8.eval (.tmp 3) = .pointer (some ⟨g, 0, none⟩) := by rw [h8, eval_put_ne _ _ _ _ (by decide)]; exact e7_3
  have e8_5 : a8.eval (.tmp 5) = .int .i64 ((i : Nat) : Int) := by rw [h8, eval_put_ne _ _ _ _ (by decide)]; exact e7_5
  have e8_31 : a8.eval (.tmp 31) = .pointer (some ⟨g, i, none⟩) := by rw [h8, eval_put_ne _ _ _ _ (by decide)]; exact e7_31
  have e8_36 : a8.eval (.tmp 36) = .pointer (some ⟨g, 4 + ((i + 1) % 4), none⟩) := by rw [h8, eval_put_ne _ _ _ _ (by decide)]; exact e7_36
  have e8_37 : a8.eval (.tmp 37) = .int .i64 ((i : Nat) : Int) := by rw [h8]; exact eval_put_eq _ _ _ (by rw [sz7]; decide)
  clear e7_3 e7_31 e7_36 e7_5 sz7
  refine takeH (v := .int .i64 ((i + 2 : Nat) : Int)) opOn12_8 opOn12_ns (by kernel_rfl) (by kernel_rfl) HPN (fun w _ o ho => run_addI (p := i) (q := 2) (by have := hi.out; omega) ho e8_37 rfl w) trivial ?_
  refine wpAnyH_as (l' := #[true, true, true, true, true, true, true, true, true, false, false, false, false, false, false, false, false, false]) (by kernel_rfl) ?_
  obtain ⟨a9, h9⟩ : ∃ a' : Act, a' = a8.put (some 38) (.int .i64 ((i + 2 : Nat) : Int)) := ⟨_, rfl⟩
  rw [← h9]
  have sz9 : a9.tmps.size = 63 := by rw [h9, size_put]; exact sz8
  have e9_3 : a9.eval (.tmp 3) = .pointer (some ⟨g, 0, none⟩) := by rw [h9, eval_put_ne _ _ _ _ (by decide)]; exact e8_3
  have e9_5 : a9.eval (.tmp 5) = .int .i64 ((i : Nat) : Int) := by rw [h9, eval_put_ne _ _ _ _ (by decide)]; exact e8_5
  have e9_31 : a9.eval (.tmp 31) = .pointer (some ⟨g, i, none⟩) := by rw [h9, eval_put_ne _ _ _ _ (by decide)]; exact e8_31
  have e9_36 : a9.eval (.tmp 36) = .pointer (some ⟨g, 4 + ((i + 1) % 4), none⟩) := by rw [h9, eval_put_ne _ _ _ _ (by decide)]; exact e8_36
  have e9_38 : a9.eval (.tmp 38) = .int .i64 ((i + 2 : Nat) : Int) := by rw [h9]; exact eval_put_eq _ _ _ (by rw [sz8]; decide)
  clear e8_3 e8_31 e8_36 e8_37 e8_5 sz8
  refine takeH (v := .int .i64 (((i + 2) % 4 : Nat) : Int)) opOn12_9 opOn12_ns (by kernel_rfl) (by kernel_rfl) HPN (fun w _ o ho => run_remI (p := i + 2) (q := 4) (by decide) (by have := hi.out; omega) ho e9_38 rfl w) trivial ?_
  refine wpAnyH_as (l' := #[true, true, true, true, true, true, true, true, true, true, false, false, false, false, false, false, false, false]) (by kernel_rfl) ?_
  obtain ⟨a10, h10⟩ : ∃ a' : Act, a' = a9.put (some 39) (.int .i64 (((i + 2) % 4 : Nat) : Int)) := ⟨_, rfl⟩
  rw [← h10]
  have sz10 : a10.tmps.size = 63 := by rw [h10, size_put]; exact sz9
  have e10_3 : a10.eval (.tmp 3) = .pointer (some ⟨g, 0, none⟩) := by rw [h10, eval_put_ne _ _ _ _ (by decide)]; exact e9_3
  have e10_5 : a10.eval (.tmp 5) = .int .i64 ((i : Nat) : Int) := by rw [h10, eval_put_ne _ _ _ _ (by decide)]; exact e9_5
  have e10_31 : a10.eval (.tmp 31) = .pointer (some ⟨g, i, none⟩) := by rw [h10, eval_put_ne _ _ _ _ (by decide)]; exact e9_31
  have e10_36 : a10.eval (.tmp 36) = .pointer (some ⟨g, 4 + ((i + 1) % 4), none⟩) := by rw [h10, eval_put_ne _ _ _ _ (by decide)]; exact e9_36
  have e10_39 : a10.eval (.tmp 39) = .int .i64 (((i + 2) % 4 : Nat) : Int) := by rw [h10]; exact eval_put_eq _ _ _ (by rw [sz9]; decide)
  clear e9_3 e9_31 e9_36 e9_38 e9_5 sz9
  refine takeH (v := .int .i64 ((8 + ((i + 2) % 4) : Nat) : Int)) opOn12_10 opOn12_ns (by kernel_rfl) (by kernel_rfl) HPN (fun w _ o ho => run_addI (p := 8) (q := (i + 2) % 4) (by have := hi.out; omega) ho rfl e10_39 w) trivial ?_
  refine wpAnyH_as (l' := #[true, true, true, true, true, true, true, true, true, true, true, false, false, false, false, false, false, false]) (by kernel_rfl) ?_
  obtain ⟨a11, h11⟩ : ∃ a' : Act, a' = a10.put (some 40) (.int .i64 ((8 + ((i + 2) % 4) : Nat) : Int)) := ⟨_, rfl⟩
  rw [← h11]
  have sz11 : a11.tmps.size = 63 := by rw [h11, size_put]; exact sz10
  have e11_3 : a11.eval (.tmp 3) = .pointer (some ⟨g, 0, none⟩) := by rw [h11, eval_put_ne _ _ _ _ (by decide)]; exact e10_3
  have e11_5 : a11.eval (.tmp 5) = .int .i64 ((i : Nat) : Int) := by rw [h11, eval_put_ne _ _ _ _ (by decide)]; exact e10_5
  have e11_31 : a11.eval (.tmp 31) = .pointer (some ⟨g, i, none⟩) := by rw [h11, eval_put_ne _ _ _ _ (by decide)]; exact e10_31
  have e11_36 : a11.eval (.tmp 36) = .pointer (some ⟨g, 4 + ((i + 1) % 4), none⟩) := by rw [h11, eval_put_ne _ _ _ _ (by decide)]; exact e10_36
  have e11_40 : a11.eval (.tmp 40) = .int .i64 ((8 + ((i + 2) % 4) : Nat) : Int) := by rw [h11]; exact eval_put_eq _ _ _ (by rw [sz10]; decide)
  clear e10_3 e10_31 e10_36 e10_39 e10_5 sz10
  refine takeH (v := .pointer (some ⟨g, 8 + ((i + 2) % 4), none⟩)) opOn12_11 opOn12_ns (by kernel_rfl) (by kernel_rfl) HPN (fun w _ o ho => run_ixW (n := 8 + ((i + 2) % 4)) (by have := hi.out; omega) ho e11_3 e11_40 w) trivial ?_
  refine wpAnyH_as (l' := #[true, true, true, true, true, true, true, true, true, true, true, true, false, false, false, false, false, false]) (by kernel_rfl) ?_
  obtain ⟨a12, h12⟩ : ∃ a' : Act, a' = a11.put (some 41) (.pointer (some ⟨g, 8 + ((i + 2) % 4), none⟩)) := ⟨_, rfl⟩
  rw [← h12]
  have sz12 : a12.tmps.size = 63 := by rw [h12, size_put]; exact sz11
  have e12_3 : a12.eval (.tmp 3) = .pointer (some ⟨g, 0, none⟩) := by rw [h12, eval_put_ne _ _ _ _ (by decide)]; exact e11_3
  have e12_5 : a12.eval (.tmp 5) = .int .i64 ((i : Nat) : Int) := by rw [h12, eval_put_ne _ _ _ _ (by decide)]; exact e11_5
  have e12_31 : a12.eval (.tmp 31) = .pointer (some ⟨g, i, none⟩) := by rw [h12, eval_put_ne _ _ _ _ (by decide)]; exact e11_31
  have e12_36 : a12.eval (.tmp 36) = .pointer (some ⟨g, 4 + ((i + 1) % 4), none⟩) := by rw [h12, eval_put_ne _ _ _ _ (by decide)]; exact e11_36
  have e12_41 : a12.eval (.tmp 41) = .pointer (some ⟨g, 8 + ((i + 2) % 4), none⟩) := by rw [h12]; exact eval_put_eq _ _ _ (by rw [sz11]; decide)
  clear e11_3 e11_31 e11_36 e11_40 e11_5 sz11
  refine takeH (v := .int .i64 ((i : Nat) : Int)) opOn12_12 opOn12_ns (by kernel_rfl) (by kernel_rfl) HPN (fun w _ o ho => run_move ho e12_5 w) trivial ?_
  refine wpAnyH_as (l' := #[true, true, true, true, true, true, true, true, true, true, true, true, true, false, false, false, false, false]) (by kernel_rfl) ?_
  obtain ⟨a13, h13⟩ : ∃ a' : Act, a' = a12.put (some 42) (.int .i64 ((i : Nat) : Int)) := ⟨_, rfl⟩
  rw [← h13]
  have sz13 : a13.tmps.size = 63 := by rw [h13, size_put]; exact sz12
  have e13_3 : a13.eval (.tmp 3) = .pointer (some ⟨g, 0, none⟩) := by rw [h13, eval_put_ne _ _ _ _ (by decide)]; exact e12_3
  have e13_31 : a13.eval (.tmp 31) = .pointer (some ⟨g, i, none⟩) := by rw [h13, eval_put_ne _ _ _ _ (by decide)]; exact e12_31
  have e13_36 : a13.eval (.tmp 36) = .pointer (some ⟨g, 4 + ((i + 1) % 4), none⟩) := by rw [h13, eval_put_ne _ _ _ _ (by decide)]; exact e12_36
  have e13_41 : a13.eval (.tmp 41) = .pointer (some ⟨g, 8 + ((i + 2) % 4), none⟩) := by rw [h13, eval_put_ne _ _ _ _ (by decide)]; exact e12_41
  have e13_42 : a13.eval (.tmp 42) = .int .i64 ((i : Nat) : Int) := by rw [h13]; exact eval_put_eq _ _ _ (by rw [sz12]; decide)
  clear e12_3 e12_31 e12_36 e12_41 e12_5 sz12
  refine takeH (v := .int .i64 ((i + 3 : Nat) : Int)) opOn12_13 opOn12_ns (by kernel_rfl) (by kernel_rfl) HPN (fun w _ o ho => run_addI (p := i) (q := 3) (by have := hi.out; omega) ho e13_42 rfl w) trivial ?_
  refine wpAnyH_as (l' := #[true, true, true, true, true, true, true, true, true, true, true, true, true, true, false, false, false, false]) (by kernel_rfl) ?_
  obtain ⟨a14, h14⟩ : ∃ a' : Act, a' = a13.put (some 43) (.int .i64 ((i + 3 : Nat) : Int)) := ⟨_, rfl⟩
  rw [← h14]
  have sz14 : a14.tmps.size = 63 := by rw [h14, size_put]; exact sz13
  have e14_3 : a14.eval (.tmp 3) = .pointer (some ⟨g, 0, none⟩) := by rw [h14, eval_put_ne _ _ _ _ (by decide)]; exact e13_3
  have e14_31 : a14.eval (.tmp 31) = .pointer (some ⟨g, i, none⟩) := by rw [h14, eval_put_ne _ _ _ _ (by decide)]; exact e13_31
  have e14_36 : a14.eval (.tmp 36) = .pointer (some ⟨g, 4 + ((i + 1) % 4), none⟩) := by rw [h14, eval_put_ne _ _ _ _ (by decide)]; exact e13_36
  have e14_41 : a14.eval (.tmp 41) = .pointer (some ⟨g, 8 + ((i + 2) % 4), none⟩) := by rw [h14, eval_put_ne _ _ _ _ (by decide)]; exact e13_41
  have e14_43 : a14.eval (.tmp 43) = .int .i64 ((i + 3 : Nat) : Int) := by rw [h14]; exact eval_put_eq _ _ _ (by rw [sz13]; decide)
  clear e13_3 e13_31 e13_36 e13_41 e13_42 sz13
  refine takeH (v := .int .i64 (((i + 3) % 4 : Nat) : Int)) opOn12_14 opOn12_ns (by kernel_rfl) (by kernel_rfl) HPN (fun w _ o ho => run_remI (p := i + 3) (q := 4) (by decide) (by have := hi.out; omega) ho e14_43 rfl w) trivial ?_
  refine wpAnyH_as (l' := #[true, true, true, true, true, true, true, true, true, true, true, true, true, true, true, false, false, false]) (by kernel_rfl) ?_
  obtain ⟨a15, h15⟩ : ∃ a' : Act, a' = a14.put (some 44) (.int .i64 (((i + 3) % 4 : Nat) : Int)) := ⟨_, rfl⟩
  rw [← h15]
  have sz15 : a15.tmps.size = 63 := by rw [h15, size_put]; exact sz14
  have e15_3 : a15.eval (.tmp 3) = .pointer (some ⟨g, 0, none⟩) := by rw [h15, eval_put_ne _ _ _ _ (by decide)]; exact e14_3
  have e15_31 : a15.eval (.tmp 31) = .pointer (some ⟨g, i, none⟩) := by rw [h15, eval_put_ne _ _ _ _ (by decide)]; exact e14_31
  have e15_36 : a15.eval (.tmp 36) = .pointer (some ⟨g, 4 + ((i + 1) % 4), none⟩) := by rw [h15, eval_put_ne _ _ _ _ (by decide)]; exact e14_36
  have e15_41 : a15.eval (.tmp 41) = .pointer (some ⟨g, 8 + ((i + 2) % 4), none⟩) := by rw [h15, eval_put_ne _ _ _ _ (by decide)]; exact e14_41
  have e15_44 : a15.eval (.tmp 44) = .int .i64 (((i + 3) % 4 : Nat) : Int) := by rw [h15]; exact eval_put_eq _ _ _ (by rw [sz14]; decide)
  clear e14_3 e14_31 e14_36 e14_41 e14_43 sz14
  refine takeH (v := .int .i64 ((12 + ((i + 3) % 4) : Nat) : Int)) opOn12_15 opOn12_ns (by kernel_rfl) (by kernel_rfl) HPN (fun w _ o ho => run_addI (p := 12) (q := (i + 3) % 4) (by have := hi.out; omega) ho rfl e15_44 w) trivial ?_
  refine wpAnyH_as (l' := #[true, true, true, true, true, true, true, true, true, true, true, true, true, true, true, true, false, false]) (by kernel_rfl) ?_
  obtain ⟨a16, h16⟩ : ∃ a' : Act, a' = a15.put (some 45) (.int .i64 ((12 + ((i + 3) % 4) : Nat) : Int)) := ⟨_, rfl⟩
  rw [← h16]
  have sz16 : a16.tmps.size = 63 := by rw [h16, size_put]; exact sz15
  have e16_3 : a16.eval (.tmp 3) = .pointer (some ⟨g, 0, none⟩) := by rw [h16, eval_put_ne _ _ _ _ (by decide)]; exact e15_3
  have e16_31 : a16.eval (.tmp 31) = .pointer (some ⟨g, i, none⟩) := by rw [h16, eval_put_ne _ _ _ _ (by decide)]; exact e15_31
  have e16_36 : a16.eval (.tmp 36) = .pointer (some ⟨g, 4 + ((i + 1) % 4), none⟩) := by rw [h16, eval_put_ne _ _ _ _ (by decide)]; exact e15_36
  have e16_41 : a16.eval (.tmp 41) = .pointer (some ⟨g, 8 + ((i + 2) % 4), none⟩) := by rw [h16, eval_put_ne _ _ _ _ (by decide)]; exact e15_41
  have e16_45 : a16.eval (.tmp 45) = .int .i64 ((12 + ((i + 3) % 4) : Nat) : Int) := by rw [h16]; exact eval_put_eq _ _ _ (by rw [sz15]; decide)
  clear e15_3 e15_31 e15_36 e15_41 e15_44 sz15
  refine takeH (v := .pointer (some ⟨g, 12 + ((i + 3) % 4), none⟩)) opOn12_16 opOn12_ns (by kernel_rfl) (by kernel_rfl) HPN (fun w _ o ho => run_ixW (n := 12 + ((i + 3) % 4)) (by have := hi.out; omega) ho e16_3 e16_45 w) trivial ?_
  refine wpAnyH_as (l' := #[true, true, true, true, true, true, true, true, true, true, true, true, true, true, true, true, true, false]) (by kernel_rfl) ?_
  obtain ⟨a17, h17⟩ : ∃ a' : Act, a' = a16.put (some 46) (.pointer (some ⟨g, 12 + ((i + 3) % 4), none⟩)) := ⟨_, rfl⟩
  rw [← h17]
  have sz17 : a17.tmps.size = 63 := by rw [h17, size_put]; exact sz16
  have e17_31 : a17.eval (.tmp 31) = .pointer (some ⟨g, i, none⟩) := by rw [h17, eval_put_ne _ _ _ _ (by decide)]; exact e16_31
  have e17_36 : a17.eval (.tmp 36) = .pointer (some ⟨g, 4 + ((i + 1) % 4), none⟩) := by rw [h17, eval_put_ne _ _ _ _ (by decide)]; exact e16_36
  have e17_41 : a17.eval (.tmp 41) = .pointer (some ⟨g, 8 + ((i + 2) % 4), none⟩) := by rw [h17, eval_put_ne _ _ _ _ (by decide)]; exact e16_41
  have e17_46 : a17.eval (.tmp 46) = .pointer (some ⟨g, 12 + ((i + 3) % 4), none⟩) := by rw [h17]; exact eval_put_eq _ _ _ (by rw [sz16]; decide)
  clear e16_3 e16_31 e16_36 e16_41 e16_45 sz16
  refine readyH opOn12_17 (by kernel_rfl) (fun o ho hd => wpCall (v := .tuple #[]) ho hd (args := #[.pointer (some ⟨g, i, none⟩), .pointer (some ⟨g, 4 + ((i + 1) % 4), none⟩), .pointer (some ⟨g, 8 + ((i + 2) % 4), none⟩), .pointer (some ⟨g, 12 + ((i + 3) % 4), none⟩)]) (by simp only [List.map_toArray, List.map_cons, List.map_nil, e17_31, e17_36, e17_41, e17_46] <;> rfl) (fun _ => rfl) HC.out (fun w1 hw1 => ?_))
  refine ⟨trivial, ?_⟩
  refine wpAnyH_as (l' := #[true, true, true, true, true, true, true, true, true, true, true, true, true, true, true, true, true, true]) (by kernel_rfl) ?_
  obtain ⟨a18, h18⟩ : ∃ a' : Act, a' = a17.put (some 47) (.tuple #[]) := ⟨_, rfl⟩
  rw [← h18]
  have sz18 : a18.tmps.size = 63 := by rw [h18, size_put]; exact sz17
  clear e17_31 e17_36 e17_41 e17_46 sz17
  refine wpAnyH_done (by kernel_rfl) ?_ _
  have hF : a18 = ⟨#[c0, c1, c2, .pointer (some ⟨g, 0, none⟩), c4, .int .i64 ((i : Nat) : Int), c6, c7, c8, c9, c10, c11, c12, c13, c14, c15, c16, c17, c18, c19, c20, c21, c22, c23, c24, c25, c26, c27, c28, c29, .int .i64 ((i : Nat) : Int), .pointer (some ⟨g, i, none⟩), .int .i64 ((i : Nat) : Int), .int .i64 ((i + 1 : Nat) : Int), .int .i64 (((i + 1) % 4 : Nat) : Int), .int .i64 ((4 + ((i + 1) % 4) : Nat) : Int), .pointer (some ⟨g, 4 + ((i + 1) % 4), none⟩), .int .i64 ((i : Nat) : Int), .int .i64 ((i + 2 : Nat) : Int), .int .i64 (((i + 2) % 4 : Nat) : Int), .int .i64 ((8 + ((i + 2) % 4) : Nat) : Int), .pointer (some ⟨g, 8 + ((i + 2) % 4), none⟩), .int .i64 ((i : Nat) : Int), .int .i64 ((i + 3 : Nat) : Int), .int .i64 (((i + 3) % 4 : Nat) : Int), .int .i64 ((12 + ((i + 3) % 4) : Nat) : Int), .pointer (some ⟨g, 12 + ((i + 3) % 4), none⟩), .tuple #[], c48, c49, c50, c51, c52, c53, c54, c55, c56, c57, c58, c59, c60, c61, c62], []⟩ := by rw [h18, h17, h16, h15, h14, h13, h12, h11, h10, h9, h8, h7, h6, h5, h4, h3, h2, h1, ha]; kernel_rfl
  rw [hF]
  exact H _ hw1
end Go.Proofs.Ytefnlaookmpbhaa
