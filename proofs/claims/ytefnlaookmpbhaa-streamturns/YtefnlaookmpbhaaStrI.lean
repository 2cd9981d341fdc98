import Derived.Test.YtefnlaookmpbhaaStrG
namespace Go.Proofs.Ytefnlaookmpbhaa
set_option linter.unusedSimpArgs false
set_option linter.unusedVariables false
open Go.ChangeShapes Go.WideShapes Go.ChangeAt Go.RowKit Go.Pin Go.Str
noncomputable def rgFo8 : Code := ((Try.f44.body.bind (findReg 8)).getD .skip)
noncomputable def opFo8 : Array Oper := opsOf rgFo8
theorem rgFo8_is : rgFo8 = .region 8 opFo8 true := by kernel_rfl
theorem opFo8_ns : Region.noSelect opFo8 = true := by kernel_rfl
theorem opFo8_0 : opIs opFo8 0 (.move (.tmp 5)) (some 19) := by unfold opIs; kernel_rfl
theorem opFo8_1 : opIs opFo8 1 (.indexAddr 88 (.tmp 4) (.tmp 19)) (some 20) := by unfold opIs; kernel_rfl
theorem opFo8_2 : opIs opFo8 2 (.move (.tmp 5)) (some 21) := by unfold opIs; kernel_rfl
theorem opFo8_3 : opIs opFo8 3 (.binOp .add 3 (.const (.int .i64 4)) (.tmp 21) 3) (some 22) := by unfold opIs; kernel_rfl
theorem opFo8_4 : opIs opFo8 4 (.indexAddr 88 (.tmp 4) (.tmp 22)) (some 23) := by unfold opIs; kernel_rfl
theorem opFo8_5 : opIs opFo8 5 (.move (.tmp 5)) (some 24) := by unfold opIs; kernel_rfl
theorem opFo8_6 : opIs opFo8 6 (.binOp .add 3 (.const (.int .i64 8)) (.tmp 24) 3) (some 25) := by unfold opIs; kernel_rfl
theorem opFo8_7 : opIs opFo8 7 (.indexAddr 88 (.tmp 4) (.tmp 25)) (some 26) := by unfold opIs; kernel_rfl
theorem opFo8_8 : opIs opFo8 8 (.move (.tmp 5)) (some 27) := by unfold opIs; kernel_rfl
theorem opFo8_9 : opIs opFo8 9 (.binOp .add 3 (.const (.int .i64 12)) (.tmp 27) 3) (some 28) := by unfold opIs; kernel_rfl
theorem opFo8_10 : opIs opFo8 10 (.indexAddr 88 (.tmp 4) (.tmp 28)) (some 29) := by unfold opIs; kernel_rfl
theorem opFo8_11 : opIs opFo8 11 (.call { callee := .value (.func 49), args := #[.tmp 20, .tmp 23, .tmp 26, .tmp 29], argTypes := #[98, 98, 98, 98] }) (some 30) := by unfold opIs; kernel_rfl
set_option maxRecDepth 100000 in
set_option maxHeartbeats 4000000 in
theorem Fo8 {Q : Exit → Act → World → Prop} {W : World} {R : World → Prop} {g i : Nat} {c0 c1 c2 c3 c6 c7 c8 c9 c10 c11 c12 c13 c14 c15 c16 c17 c18 c19 c20 c21 c22 c23 c24 c25 c26 c27 c28 c29 c30 c31 c32 c33 c34 c35 c36 c37 c38 c39 c40 c41 c42 c43 c44 c45 c46 c47 c48 c49 c50 c51 c52 c53 c54 c55 c56 c57 c58 c59 c60 c61 c62 c63 c64 c65 c66 c67 c68 c69 c70 c71 c72 c73 c74 c75 c76 : Value}
    (hi : Hid (i < 4))
    (HC : Hid (Calls Try.prog 49 #[.pointer (some ⟨g, 4 * i, none⟩), .pointer (some ⟨g, 4 * (4 + i), none⟩), .pointer (some ⟨g, 4 * (8 + i), none⟩), .pointer (some ⟨g, 4 * (12 + i), none⟩)] W.drew fun e w' => e = .returned (.tuple #[]) ∧ R w'))
    (HPN : ∀ c (a : Act) d v w, Q (.panic c) (a.put d v) w → Q (.panic c) a w)
    (H : ∀ W', R W' → Q .normal ⟨#[c0, c1, c2, c3, .pointer (some ⟨g, 0, none⟩), .int .i64 ((i : Nat) : Int), c6, c7, c8, c9, c10, c11, c12, c13, c14, c15, c16, c17, c18, .int .i64 ((i : Nat) : Int), .pointer (some ⟨g, 4 * i, none⟩), .int .i64 ((i : Nat) : Int), .int .i64 ((4 + i : Nat) : Int), .pointer (some ⟨g, 4 * (4 + i), none⟩), .int .i64 ((i : Nat) : Int), .int .i64 ((8 + i : Nat) : Int), .pointer (some ⟨g, 4 * (8 + i), none⟩), .int .i64 ((i : Nat) : Int), .int .i64 ((12 + i : Nat) : Int), .pointer (some ⟨g, 4 * (12 + i), none⟩), .tuple #[], c31, c32, c33, c34, c35, c36, c37, c38, c39, c40, c41, c42, c43, c44, c45, c46, c47, c48, c49, c50, c51, c52, c53, c54, c55, c56, c57, c58, c59, c60, c61, c62, c63, c64, c65, c66, c67, c68, c69, c70, c71, c72, c73, c74, c75, c76], []⟩ W') :
    Code.wp Try.prog rgFo8 Q ⟨#[c0, c1, c2, c3, .pointer (some ⟨g, 0, none⟩), .int .i64 ((i : Nat) : Int), c6, c7, c8, c9, c10, c11, c12, c13, c14, c15, c16, c17, c18, c19, c20, c21, c22, c23, c24, c25, c26, c27, c28, c29, c30, c31, c32, c33, c34, c35, c36, c37, c38, c39, c40, c41, c42, c43, c44, c45, c46, c47, c48, c49, c50, c51, c52, c53, c54, c55, c56, c57, c58, c59, c60, c61, c62, c63, c64, c65, c66, c67, c68, c69, c70, c71, c72, c73, c74, c75, c76], []⟩ W := by
  rw [rgFo8_is]
  refine wp_region_held_drew (S := fun _ => True) (by kernel_rfl) trivial (fun _ => ?_)
  obtain ⟨a0, ha⟩ : ∃ a : Act, a = ⟨#[c0, c1, c2, c3, .pointer (some ⟨g, 0, none⟩), .int .i64 ((i : Nat) : Int), c6, c7, c8, c9, c10, c11, c12, c13, c14, c15, c16, c17, c18, c19, c20, c21, c22, c23, c24, c25, c26, c27, c28, c29, c30, c31, c32, c33, c34, c35, c36, c37, c38, c39, c40, c41, c42, c43, c44, c45, c46, c47, c48, c49, c50, c51, c52, c53, c54, c55, c56, c57, c58, c59, c60, c61, c62, c63, c64, c65, c66, c67, c68, c69, c70, c71, c72, c73, c74, c75, c76], []⟩ := ⟨_, rfl⟩
  have sz0 : a0.tmps.size = 77 := by rw [ha]; kernel_rfl
  have e0_4 : a0.eval (.tmp 4) = .pointer (some ⟨g, 0, none⟩) := by rw [ha]; kernel_rfl
  have e0_5 : a0.eval (.tmp 5) = .int .i64 ((i : Nat) : Int) := by rw [ha]; kernel_rfl
  rw [← ha]
  refine wpAnyH_as (l' := #[false, false, false, false, false, false, false, false, false, false, false, false]) (by kernel_rfl) ?_
  refine takeH (v := .int .i64 ((i : Nat) : Int)) opFo8_0 opFo8_ns (by kernel_rfl) (by kernel_rfl) HPN (fun w _ o ho => run_move ho e0_5 w) trivial ?_
  refine wpAnyH_as (l' := #[true, false, false, false, false, false, false, false, false, false, false, false]) (by kernel_rfl) ?_
  obtain ⟨a1, h1⟩ : ∃ a' : Act, a' = a0.put (some 19) (.int .i64 ((i : Nat) : Int)) := ⟨_, rfl⟩
  rw [← h1]
  have sz1 : a1.tmps.size = 77 := by rw [h1, size_put]; exact sz0
  have e1_4 : a1.eval (.tmp 4) = .pointer (some ⟨g, 0, none⟩) := by rw [h1, eval_put_ne _ _ _ _ (by decide)]; exact e0_4
  have e1_5 : a1.eval (.tmp 5) = .int .i64 ((i : Nat) : Int) := by rw [h1, eval_put_ne _ _ _ _ (by decide)]; exact e0_5
  have e1_19 : a1.eval (.tmp 19) = .int .i64 ((i : Nat) : Int) := by rw [h1]; exact eval_put_eq _ _ _ (by rw [sz0]; decide)
  clear e0_4 e0_5 sz0
  refine takeH (v := .pointer (some ⟨g, 4 * i, none⟩)) opFo8_1 opFo8_ns (by kernel_rfl) (by kernel_rfl) HPN (fun w _ o ho => run_ixF (n := i) (by have := hi.out; omega) ho e1_4 e1_19 w) trivial ?_
  refine wpAnyH_as (l' := #[true, true, false, false, false, false, false, false, false, false, false, false]) (by kernel_rfl) ?_
  obtain ⟨a2, h2⟩ : ∃ a' : Act, a' = a1.put (some 20) (.pointer (some ⟨g, 4 * i, none⟩)) := ⟨_, rfl⟩
  rw [← h2]
  have sz2 : a2.tmps.size = 77 := by rw [h2, size_put]; exact sz1
  have e2_4 : a2.eval (.tmp 4) = .pointer (some ⟨g, 0, none⟩) := by rw [h2, eval_put_ne _ _ _ _ (by decide)]; exact e1_4
  have e2_5 : a2.eval (.tmp 5) = .int .i64 ((i : Nat) : Int) := by rw [h2, eval_put_ne _ _ _ _ (by decide)]; exact e1_5
  have e2_20 : a2.eval (.tmp 20) = .pointer (some ⟨g, 4 * i, none⟩) := by rw [h2]; exact eval_put_eq _ _ _ (by rw [sz1]; decide)
  clear e1_19 e1_4 e1_5 sz1
  refine takeH (v := .int .i64 ((i : Nat) : Int)) opFo8_2 opFo8_ns (by kernel_rfl) (by kernel_rfl) HPN (fun w _ o ho => run_move ho e2_5 w) trivial ?_
  refine wpAnyH_as (l' := #[true, true, true, false, false, false, false, false, false, false, false, false]) (by kernel_rfl) ?_
  obtain ⟨a3, h3⟩ : ∃ a' : Act, a' = a2.put (some 21) (.int .i64 ((i : Nat) : Int)) := ⟨_, rfl⟩
  rw [← h3]
  have sz3 : a3.tmps.size = 77 := by rw [h3, size_put]; exact sz2
  have e3_4 : a3.eval (.tmp 4) = .pointer (some ⟨g, 0, none⟩) := by rw [h3, eval_put_ne _ _ _ _ (by decide)]; exact e2_4
  have e3_5 : a3.eval (.tmp 5) = .int .i64 ((i : Nat) : Int) := by rw [h3, eval_put_ne _ _ _ _ (by decide)]; exact e2_5
  have e3_20 : a3.eval (.tmp 20) = .pointer (some ⟨g, 4 * i, none⟩) := by rw [h3, eval_put_ne _ _ _ _ (by decide)]; exact e2_20
  have e3_21 : a3.eval (.tmp 21) = .int .i64 ((i : Nat) : Int) := by rw [h3]; exact eval_put_eq _ _ _ (by rw [sz2]; decide)
  clear e2_20 e2_4 e2_5 sz2
  refine takeH (v := .int .i64 ((4 + i : Nat) : Int)) opFo8_3 opFo8_ns (by kernel_rfl) (by kernel_rfl) HPN (fun w _ o ho => run_addI (p := 4) (q := i) (by have := hi.out; omega) ho rfl e3_21 w) trivial ?_
  refine wpAnyH_as (l' := #[true, true, true, true, false, false, false, false, false, false, false, false]) (by kernel_rfl) ?_
  obtain ⟨a4, h4⟩ : ∃ a' : Act, a' = a3.put (some 22) (.int .i64 ((4 + i : Nat) : Int)) := ⟨_, rfl⟩
  rw [← h4]
  have sz4 : a4.tmps.size = 77 := by rw [h4, size_put]; exact sz3
  have e4_4 : a4.eval (.tmp 4) = .pointer (some ⟨g, 0, none⟩) := by rw [h4, eval_put_ne _ _ _ _ (by decide)]; exact e3_4
  have e4_5 : a4.eval (.tmp 5) = .int .i64 ((i : Nat) : Int) := by rw [h4, eval_put_ne _ _ _ _ (by decide)]; exact e3_5
  have e4_20 : a4.eval (.tmp 20) = .pointer (some ⟨g, 4 * i, none⟩) := by rw [h4, eval_put_ne _ _ _ _ (by decide)]; exact e3_20
  have e4_22 : a4.eval (.tmp 22) = .int .i64 ((4 + i : Nat) : Int) := by rw [h4]; exact eval_put_eq _ _ _ (by rw [sz3]; decide)
  clear e3_20 e3_21 e3_4 e3_5 sz3
  refine takeH (v := .pointer (some ⟨g, 4 * (4 + i), none⟩)) opFo8_4 opFo8_ns (by kernel_rfl) (by kernel_rfl) HPN (fun w _ o ho => run_ixF (n := 4 + i) (by have := hi.out; omega) ho e4_4 e4_22 w) trivial ?_
  refine wpAnyH_as (l' := #[true, true, true, true, true, false, false, false, false, false, false, false]) (by kernel_rfl) ?_
  obtain ⟨a5, h5⟩ : ∃ a' : Act, a' = a4.put (some 23) (.pointer (some ⟨g, 4 * (4 + i), none⟩)) := ⟨_, rfl⟩
  rw [← h5]
  have sz5 : a5.tmps.size = 77 := by rw [h5, size_put]; exact sz4
  have e5_4 : a5.eval (.tmp 4) = .pointer (some ⟨g, 0, none⟩) := by rw [h5, eval_put_ne _ _ _ _ (by decide)]; exact e4_4
  have e5_5 : a5.eval (.tmp 5) = .int .i64 ((i : Nat) : Int) := by rw [h5, eval_put_ne _ _ _ _ (by decide)]; exact e4_5
  have e5_20 : a5.eval (.tmp 20) = .pointer (some ⟨g, 4 * i, none⟩) := by rw [h5, eval_put_ne _ _ _ _ (by decide)]; exact e4_20
  have e5_23 : a5.eval (.tmp 23) = .pointer (some ⟨g, 4 * (4 + i), none⟩) := by rw [h5]; exact eval_put_eq _ _ _ (by rw [sz4]; decide)
  clear e4_20 e4_22 e4_4 e4_5 sz4
  refine takeH (v := .int .i64 ((i : Nat) : Int)) opFo8_5 opFo8_ns (by kernel_rfl) (by kernel_rfl) HPN (fun w _ o ho => run_move ho e5_5 w) trivial ?_
  refine wpAnyH_as (l' := #[true, true, true, true, true, true, false, false, false, false, false, false]) (by kernel_rfl) ?_
  obtain ⟨a6, h6⟩ : ∃ a' : Act, a' = a5.put (some 24) (.int .i64 ((i : Nat) : Int)) := ⟨_, rfl⟩
  rw [← h6]
  have sz6 : a6.tmps.size = 77 := by rw [h6, size_put]; exact sz5
  have e6_4 : a6.eval (.tmp 4) = .pointer (some ⟨g, 0, none⟩) := by rw [h6, eval_put_ne _ _ _ _ (by decide)]; exact e5_4
  have e6_5 : a6.eval (.tmp 5) = .int .i64 ((i : Nat) : Int) := by rw [h6, eval_put_ne _ _ _ _ (by decide)]; exact e5_5
  have e6_20 : a6.eval (.tmp 20) = .pointer (some ⟨g, 4 * i, none⟩) := by rw [h6, eval_put_ne _ _ _ _ (by decide)]; exact e5_20
  have e6_23 : a6.eval (.tmp 23) = .pointer (some ⟨g, 4 * (4 + i), none⟩) := by rw [h6, eval_put_ne _ _ _ _ (by decide)]; exact e5_23
  have e6_24 : a6.eval (.tmp 24) = .int .i64 ((i : Nat) : Int) := by rw [h6]; exact eval_put_eq _ _ _ (by rw [sz5]; decide)
  clear e5_20 e5_23 e5_4 e5_5 sz5
  refine takeH (v := .int .i64 ((8 + i : Nat) : Int)) opFo8_6 opFo8_ns (by kernel_rfl) (by kernel_rfl) HPN (fun w _ o ho => run_addI (p := 8) (q := i) (by have := hi.out; omega) ho rfl e6_24 w) trivial ?_
  refine wpAnyH_as (l' := #[true, true, true, true, true, true, true, false, false, false, false, false]) (by kernel_rfl) ?_
  obtain ⟨a7, h7⟩ : ∃ a' : Act, a' = a6.put (some 25) (.int .i64 ((8 + i : Nat) : Int)) := ⟨_, rfl⟩
  rw [← h7]
  have sz7 : a7.tmps.size = 77 := by rw [h7, size_put]; exact sz6
  have e7_4 : a7.eval (.tmp 4) = .pointer (some ⟨g, 0, none⟩) := by rw [h7, eval_put_ne _ _ _ _ (by decide)]; exact e6_4
  have e7_5 : a7.eval (.tmp 5) = .int .i64 ((i : Nat) : Int) := by rw [h7, eval_put_ne _ _ _ _ (by decide)]; exact e6_5
  have e7_20 : a7.eval (.tmp 20) = .pointer (some ⟨g, 4 * i, none⟩) := by rw [h7, eval_put_ne _ _ _ _ (by decide)]; exact e6_20
  have e7_23 : a7.eval (.tmp 23) = .pointer (some ⟨g, 4 * (4 + i), none⟩) := by rw [h7, eval_put_ne _ _ _ _ (by decide)]; exact e6_23
  have e7_25 : a7.eval (.tmp 25) = .int .i64 ((8 + i : Nat) : Int) := by rw [h7]; exact eval_put_eq _ _ _ (by rw [sz6]; decide)
  clear e6_20 e6_23 e6_24 e6_4 e6_5 sz6
  refine takeH (v := .pointer (some ⟨g, 4 * (8 + i), none⟩)) opFo8_7 opFo8_ns (by kernel_rfl) (by kernel_rfl) HPN (fun w _ o ho => run_ixF (n := 8 + i) (by have := hi.out; omega) ho e7_4 e7_25 w) trivial ?_
  refine wpAnyH_as (l' := #[true, true, true, true, true, true, true, true, false, false, false, false]) (by kernel_rfl) ?_
  obtain ⟨a8, h8⟩ : ∃ a' : Act, a' = a7.put (some 26) (.pointer (some ⟨g, 4 * (8 + i), none⟩)) := ⟨_, rfl⟩
  rw [← h8]
  have sz8 : a8.tmps.size = 77 := by rw [h8, size_put]; exact sz7
  have e8_4 : a8.eval (.tmp 4) = .pointer (some ⟨g, 0, none⟩) := by rw [h8, eval_put_ne _ _ _ _ (by decide)]; exact e7_4
  have e8_5 : a8.eval (.tmp 5) = .int .i64 ((i : Nat) : Int) := by rw [h8, eval_put_ne _ _ _ _ (by decide)]; exact e7_5
  have e8_20 : a8.eval (.tmp 20) = .pointer (some ⟨g, 4 * i, none⟩) := by rw [h8, eval_put_ne _ _ _ _ (by decide)]; exact e7_20
  have e8_23 : a8.eval (.tmp 23) = .pointer (some ⟨g, 4 * (4 + i), none⟩) := by rw [h8, eval_put_ne _ _ _ _ (by decide)]; exact e7_23
  have e8_26 : a8.eval (.tmp 26) = .pointer (some ⟨g, 4 * (8 + i), none⟩) := by rw [h8]; exact eval_put_eq _ _ _ (by rw [sz7]; decide)
  clear e7_20 e7_23 e7_25 e7_4 e7_5 sz7
  refine takeH (v := .int .i64 ((i : Nat) : Int)) opFo8_8 opFo8_ns (by kernel_rfl) (by kernel_rfl) HPN (fun w _ o ho => run_move ho e8_5 w) trivial ?_
  refine wpAnyH_as (l' := #[true, true, true, true, true, true, true, true, true, false, false, false]) (by kernel_rfl) ?_
  obtain ⟨a9, h9⟩ : ∃ a' : Act, a' = a8.put (some 27) (.int .i64 ((i : Nat) : Int)) := ⟨_, rfl⟩
  rw [← h9]
  have sz9 : a9.tmps.size = 77 := by rw [h9, size_put]; exact sz8
  have e9_4 : a9.eval (.tmp 4) = .pointer (some ⟨g, 0, none⟩) := by rw [h9, eval_put_ne _ _ _ _ (by decide)]; exact e8_4
  have e9_20 : a9.eval (.tmp 20) = .pointer (some ⟨g, 4 * i, none⟩) := by rw [h9, eval_put_ne _ _ _ _ (by decide)]; exact e8_20
  have e9_23 : a9.eval (.tmp 23) = .pointer (some ⟨g, 4 * (4 + i), none⟩) := by rw [h9, eval_put_ne _ _ _ _ (by decide)]; exact e8_23
  have e9_26 : a9.eval (.tmp 26) = .pointer (some ⟨g, 4 * (8 + i), none⟩) := by rw [h9, eval_put_ne _ _ _ _ (by decide)]; exact e8_26
  have e9_27 : a9.eval (.tmp 27) = .int .i64 ((i : Nat) : Int) := by rw [h9]; exact eval_put_eq _ _ _ (by rw [sz8]; decide)
  clear e8_20 e8_23 e8_26 e8_4 e8_5 sz8
  refine takeH (v := .int .i64 ((12 + i : Nat) : Int)) opFo8_9 opFo8_ns (by kernel_rfl) (by kernel_rfl) HPN (fun w _ o ho => run_addI (p := 12) (q := i) (by have := hi.out; omega) ho rfl e9_27 w) trivial ?_
  refine wpAnyH_as (l' := #[true, true, true, true, true, true, true, true, true, true, false, false]) (by kernel_rfl) ?_
  obtain ⟨a10, h10⟩ : ∃ a' : Act, a' = a9.put (some 28) (.int .i64 ((12 + i : Nat) : Int)) := ⟨_, rfl⟩
  rw [← h10]
  have sz10 : a10.tmps.size = 77 := by rw [h10, size_put]; exact sz9
  have e10_4 : a10.eval (.tmp 4) = .pointer (some ⟨g, 0, none⟩) := by rw [h10, eval_put_ne _ _ _ _ (by decide)]; exact e9_4
  have e10_20 : a10.eval (.tmp 20) = .pointer (some ⟨g, 4 * i, none⟩) := by rw [h10, eval_put_ne _ _ _ _ (by decide)]; exact e9_20
  have e10_23 : a10.eval (.tmp 23) = .pointer (some ⟨g, 4 * (4 + i), none⟩) := by rw [h10, eval_put_ne _ _ _ _ (by decide)]; exact e9_23
  have e10_26 : a10.eval (.tmp 26) = .pointer (some ⟨g, 4 * (8 + i), none⟩) := by rw [h10, eval_put_ne _ _ _ _ (by decide)]; exact e9_26
  have e10_28 : a10.eval (.tmp 28) = .int .i64 ((12 + i : Nat) : Int) := by rw [h10]; exact eval_put_eq _ _ _ (by rw [sz9]; decide)
  clear e9_20 e9_23 e9_26 e9_27 e9_4 sz9
  refine takeH (v := .pointer (some ⟨g, 4 * (12 + i), none⟩)) opFo8_10 opFo8_ns (by kernel_rfl) (by kernel_rfl) HPN (fun w _ o ho => run_ixF (n := 12 + i) (by have := hi.out; omega) ho e10_4 e10_28 w) trivial ?_
  refine wpAnyH_as (l' := #[true, true, true, true, true, true, true, true, true, true, true, false]) (by kernel_rfl) ?_
  obtain ⟨a11, h11⟩ : ∃ a' : Act, a' = a10.put (some 29) (.pointer (some ⟨g, 4 * (12 + i), none⟩)) := ⟨_, rfl⟩
  rw [← h11]
  have sz11 : a11.tmps.size = 77 := by rw [h11, size_put]; exact sz10
  have e11_20 : a11.eval (.tmp 20) = .pointer (some ⟨g, 4 * i, none⟩) := by rw [h11, eval_put_ne _ _ _ _ (by decide)]; exact e10_20
  have e11_23 : a11.eval (.tmp 23) = .pointer (some ⟨g, 4 * (4 + i), none⟩) := by rw [h11, eval_put_ne _ _ _ _ (by decide)]; exact e10_23
  have e11_26 : a11.eval (.tmp 26) = .pointer (some ⟨g, 4 * (8 + i), none⟩) := by rw [h11, eval_put_ne _ _ _ _ (by decide)]; exact e10_26
  have e11_29 : a11.eval (.tmp 29) = .pointer (some ⟨g, 4 * (12 + i), none⟩) := by rw [h11]; exact eval_put_eq _ _ _ (by rw [sz10]; decide)
  clear e10_20 e10_23 e10_26 e10_28 e10_4 sz10
  refine readyH opFo8_11 (by kernel_rfl) (fun o ho hd => wpCall (v := .tuple #[]) ho hd (args := #[.pointer (some ⟨g, 4 * i, none⟩), .pointer (some ⟨g, 4 * (4 + i), none⟩), .pointer (some ⟨g, 4 * (8 + i), none⟩), .pointer (some ⟨g, 4 * (12 + i), none⟩)]) (by simp only [List.map_toArray, List.map_cons, List.map_nil, e11_20, e11_23, e11_26, e11_29] <;> rfl) (fun _ => rfl) HC.out (fun w1 hw1 => ?_))
  refine ⟨trivial, ?_⟩
  refine wpAnyH_as (l' := #[true, true, true, true, true, true, true, true, true, true, true, true]) (by kernel_rfl) ?_
  obtain ⟨a12, h12⟩ : ∃ a' : Act, a' = a11.put (some 30) (.tuple #[]) := ⟨_, rfl⟩
  rw [← h12]
  have sz12 : a12.tmps.size = 77 := by rw [h12, size_put]; exact sz11
  clear e11_20 e11_23 e11_26 e11_29 sz11
  refine wpAnyH_done (by kernel_rfl) ?_ _
  have hF : a12 = ⟨#[c0, c1, c2, c3, .pointer (some ⟨g, 0, none⟩), .int .i64 ((i : Nat) : Int), c6, c7, c8, c9, c10, c11, c12, c13, c14, c15, c16, c17, c18, .int .i64 ((i : Nat) : Int), .pointer (some ⟨g, 4 * i, none⟩), .int .i64 ((i : Nat) : Int), .int .i64 ((4 + i : Nat) : Int), .pointer (some ⟨g, 4 * (4 + i), none⟩), .int .i64 ((i : Nat) : Int), .int .i64 ((8 + i : Nat) : Int), .pointer (some ⟨g, 4 * (8 + i), none⟩), .int .i64 ((i : Nat) : Int), .int .i64 ((12 + i : Nat) : Int), .pointer (some ⟨g, 4 * (12 + i), none⟩), .tuple #[], c31, c32, c33, c34, c35, c36, c37, c38, c39, c40, c41, c42, c43, c44, c45, c46, c47, c48, c49, c50, c51, c52, c53, c54, c55, c56, c57, c58, c59, c60, c61, c62, c63, c64, c65, c66, c67, c68, c69, c70, c71, c72, c73, c74, c75, c76], []⟩ := by rw [h12, h11, h10, h9, h8, h7, h6, h5, h4, h3, h2, h1, ha]; kernel_rfl
  rw [hF]
  exact H _ hw1
noncomputable def rgFo13 : Code := ((Try.f44.body.bind (findReg 13)).getD .skip)
noncomputable def opFo13 : Array Oper := opsOf rgFo13
theorem rgFo13_is : rgFo13 = .region 13 opFo13 true := by kernel_rfl
theorem opFo13_ns : Region.noSelect opFo13 = true := by kernel_rfl
theorem opFo13_0 : opIs opFo13 0 (.move (.tmp 6)) (some 35) := by unfold opIs; kernel_rfl
theorem opFo13_1 : opIs opFo13 1 (.indexAddr 88 (.tmp 4) (.tmp 35)) (some 36) := by unfold opIs; kernel_rfl
theorem opFo13_2 : opIs opFo13 2 (.move (.tmp 6)) (some 37) := by unfold opIs; kernel_rfl
theorem opFo13_3 : opIs opFo13 3 (.binOp .add 3 (.tmp 37) (.const (.int .i64 1)) 3) (some 38) := by unfold opIs; kernel_rfl
theorem opFo13_4 : opIs opFo13 4 (.binOp .rem 3 (.tmp 38) (.const (.int .i64 4)) 3) (some 39) := by unfold opIs; kernel_rfl
theorem opFo13_5 : opIs opFo13 5 (.binOp .add 3 (.const (.int .i64 4)) (.tmp 39) 3) (some 40) := by unfold opIs; kernel_rfl
theorem opFo13_6 : opIs opFo13 6 (.indexAddr 88 (.tmp 4) (.tmp 40)) (some 41) := by unfold opIs; kernel_rfl
theorem opFo13_7 : opIs opFo13 7 (.move (.tmp 6)) (some 42) := by unfold opIs; kernel_rfl
theorem opFo13_8 : opIs opFo13 8 (.binOp .add 3 (.tmp 42) (.const (.int .i64 2)) 3) (some 43) := by unfold opIs; kernel_rfl
theorem opFo13_9 : opIs opFo13 9 (.binOp .rem 3 (.tmp 43) (.const (.int .i64 4)) 3) (some 44) := by unfold opIs; kernel_rfl
theorem opFo13_10 : opIs opFo13 10 (.binOp .add 3 (.const (.int .i64 8)) (.tmp 44) 3) (some 45) := by unfold opIs; kernel_rfl
theorem opFo13_11 : opIs opFo13 11 (.indexAddr 88 (.tmp 4) (.tmp 45)) (some 46) := by unfold opIs; kernel_rfl
theorem opFo13_12 : opIs opFo13 12 (.move (.tmp 6)) (some 47) := by unfold opIs; kernel_rfl
theorem opFo13_13 : opIs opFo13 13 (.binOp .add 3 (.tmp 47) (.const (.int .i64 3)) 3) (some 48) := by unfold opIs; kernel_rfl
theorem opFo13_14 : opIs opFo13 14 (.binOp .rem 3 (.tmp 48) (.const (.int .i64 4)) 3) (some 49) := by unfold opIs; kernel_rfl
theorem opFo13_15 : opIs opFo13 15 (.binOp .add 3 (.const (.int .i64 12)) (.tmp 49) 3) (some 50) := by unfold opIs; kernel_rfl
theorem opFo13_16 : opIs opFo13 16 (.indexAddr 88 (.tmp 4) (.tmp 50)) (some 51) := by unfold opIs; kernel_rfl
theorem opFo13_17 : opIs opFo13 17 (.call { callee := .value (.func 49), args := #[.tmp 36, .tmp 41, .tmp 46, .tmp 51], argTypes := #[98, 98, 98, 98] }) (some 52) := by unfold opIs; kernel_rfl
set_option maxRecDepth 100000 in
set_option maxHeartbeats 4000000 in
theorem Fo13 {Q : Exit → Act → World → Prop} {W : World} {R : World → Prop} {g i : Nat} {c0 c1 c2 c3 c5 c7 c8 c9 c10 c11 c12 c13 c14 c15 c16 c17 c18 c19 c20 c21 c22 c23 c24 c25 c26 c27 c28 c29 c30 c31 c32 c33 c34 c35 c36 c37 c38 c39 c40 c41 c42 c43 c44 c45 c46 c47 c48 c49 c50 c51 c52 c53 c54 c55 c56 c57 c58 c59 c60 c61 c62 c63 c64 c65 c66 c67 c68 c69 c70 c71 c72 c73 c74 c75 c76 : Value}
    (hi : Hid (i < 4))
    (HC : Hid (Calls Try.prog 49 #[.pointer (some ⟨g, 4 * i, none⟩), .pointer (some ⟨g, 4 * (4 + ((i + 1) % 4)), none⟩), .pointer (some ⟨g, 4 * (8 + ((i + 2) % 4)), none⟩), .pointer (some ⟨g, 4 * (12 + ((i + 3) % 4)), none⟩)] W.drew fun e w' => e = .returned (.tuple #[]) ∧ R w'))
    (HPN : ∀ c (a : Act) d v w, Q (.panic c) (a.put d v) w → Q (.panic c) a w)
    (H : ∀ W', R W' → Q .normal ⟨#[c0, c1, c2, c3, .pointer (some ⟨g, 0, none⟩), c5, .int .i64 ((i : Nat) : Int), c7, c8, c9, c10, c11, c12, c13, c14, c15, c16, c17, c18, c19, c20, c21, c22, c23, c24, c25, c26, c27, c28, c29, c30, c31, c32, c33, c34, .int .i64 ((i : Nat) : Int), .pointer (some ⟨g, 4 * i, none⟩), .int .i64 ((i : Nat) : Int), .int .i64 ((i + 1 : Nat) : Int), .int .i64 (((i + 1) % 4 : Nat) : Int), .int .i64 ((4 + ((i + 1) % 4) : Nat) : Int), .pointer (some ⟨g, 4 * (4 + ((i + 1) % 4)), none⟩), .int .i64 ((i : Nat) : Int), .int .i64 ((i + 2 : Nat) : Int), .int .i64 (((i + 2) % 4 : Nat) : Int), .int .i64 ((8 + ((i + 2) % 4) : Nat) : Int), .pointer (some ⟨g, 4 * (8 + ((i + 2) % 4)), none⟩), .int .i64 ((i : Nat) : Int), .int .i64 ((i + 3 : Nat) : Int), .int .i64 (((i + 3) % 4 : Nat) : Int), .int .i64 ((12 + ((i + 3) % 4) : Nat) : Int), .pointer (some ⟨g, 4 * (12 + ((i + 3) % 4)), none⟩), .tuple #[], c53, c54, c55, c56, c57, c58, c59, c60, c61, c62, c63, c64, c65, c66, c67, c68, c69, c70, c71, c72, c73, c74, c75, c76], []⟩ W') :
    Code.wp Try.prog rgFo13 Q ⟨#[c0, c1, c2, c3, .pointer (some ⟨g, 0, none⟩), c5, .int .i64 ((i : Nat) : Int), c7, c8, c9, c10, c11, c12, c13, c14, c15, c16, c17, c18, c19, c20, c21, c22, c23, c24, c25, c26, c27, c28, c29, c30, c31, c32, c33, c34, c35, c36, c37, c38, c39, c40, c41, c42, c43, c44, c45, c46, c47, c48, c49, c50, c51, c52, c53, c54, c55, c56, c57, c58, c59, c60, c61, c62, c63, c64, c65, c66, c67, c68, c69, c70, c71, c72, c73, c74, c75, c76], []⟩ W := by
  rw [rgFo13_is]
  refine wp_region_held_drew (S := fun _ => True) (by kernel_rfl) trivial (fun _ => ?_)
  obtain ⟨a0, ha⟩ : ∃ a : Act, a = ⟨#[c0, c1, c2, c3, .pointer (some ⟨g, 0, none⟩), c5, .int .i64 ((i : Nat) : Int), c7, c8, c9, c10, c11, c12, c13, c14, c15, c16, c17, c18, c19, c20, c21, c22, c23, c24, c25, c26, c27, c28, c29, c30, c31, c32, c33, c34, c35, c36, c37, c38, c39, c40, c41, c42, c43, c44, c45, c46, c47, c48, c49, c50, c51, c52, c53, c54, c55, c56, c57, c58, c59, c60, c61, c62, c63, c64, c65, c66, c67, c68, c69, c70, c71, c72, c73, c74, c75, c76], []⟩ := ⟨_, rfl⟩
  have sz0 : a0.tmps.size = 77 := by rw [ha]; kernel_rfl
  have e0_4 : a0.eval (.tmp 4) = .pointer (some ⟨g, 0, none⟩) := by rw [ha]; kernel_rfl
  have e0_6 : a0.eval (.tmp 6) = .int .i64 ((i : Nat) : Int) := by rw [ha]; kernel_rfl
  rw [← ha]
  refine wpAnyH_as (l' := #[false, false, false, false, false, false, false, false, false, false, false, false, false, false, false, false, false, false]) (by kernel_rfl) ?_
  refine takeH (v := .int .i64 ((i : Nat) : Int)) opFo13_0 opFo13_ns (by kernel_rfl) (by kernel_rfl) HPN (fun w _ o ho => run_move ho e0_6 w) trivial ?_
  refine wpAnyH_as (l' := #[true, false, false, false, false, false, false, false, false, false, false, false, false, false, false, false, false, false]) (by kernel_rfl) ?_
  obtain ⟨a1, h1⟩ : ∃ a' : Act, a' = a0.put (some 35) (.int .i64 ((i : Nat) : Int)) := ⟨_, rfl⟩
  rw [← h1]
  have sz1 : a1.tmps.size = 77 := by rw [h1, size_put]; exact sz0
  have e1_4 : a1.eval (.tmp 4) = .pointer (some ⟨g, 0, none⟩) := by rw [h1, eval_put_ne _ _ _ _ (by decide)]; exact e0_4
  have e1_6 : a1.eval (.tmp 6) = .int .i64 ((i : Nat) : Int) := by rw [h1, eval_put_ne _ _ _ _ (by decide)]; exact e0_6
  have e1_35 : a1.eval (.tmp 35) = .int .i64 ((i : Nat) : Int) := by rw [h1]; exact eval_put_eq _ _ _ (by rw [sz0]; decide)
  clear e0_4 e0_6 sz0
  refine takeH (v := .pointer (some ⟨g, 4 * i, none⟩)) opFo13_1 opFo13_ns (by kernel_rfl) (by kernel_rfl) HPN (fun w _ o ho => run_ixF (n := i) (by have := hi.out; omega) ho e1_4 e1_35 w) trivial ?_
  refine wpAnyH_as (l' := #[true, true, false, false, false, false, false, false, false, false, false, false, false, false, false, false, false, false]) (by kernel_rfl) ?_
  obtain ⟨a2, h2⟩ : ∃ a' : Act, a' = a1.put (some 36) (.pointer (some ⟨g, 4 * i, none⟩)) := ⟨_, rfl⟩
  rw [← h2]
  have sz2 : a2.tmps.size = 77 := by rw [h2, size_put]; exact sz1
  have e2_4 : a2.eval (.tmp 4) = .pointer (some ⟨g, 0, none⟩) := by rw [h2, eval_put_ne _ _ _ _ (by decide)]; exact e1_4
  have e2_6 : a2.eval (.tmp 6) = .int .i64 ((i : Nat) : Int) := by rw [h2, eval_put_ne _ _ _ _ (by decide)]; exact e1_6
  have e2_36 : a2.eval (.tmp 36) = .pointer (some ⟨g, 4 * i, none⟩) := by rw [h2]; exact eval_put_eq _ _ _ (by rw [sz1]; decide)
  clear e1_35 e1_4 e1_6 sz1
  refine takeH (v := .int .i64 ((i : Nat) : Int)) opFo13_2 opFo13_ns (by kernel_rfl) (by kernel_rfl) HPN (fun w _ o ho => run_move ho e2_6 w) trivial ?_
  refine wpAnyH_as (l' := #[true, true, true, false, false, false, false, false, false, false, false, false, false, false, false, false, false, false]) (by kernel_rfl) ?_
  obtain ⟨a3, h3⟩ : ∃ a' : Act, a' = a2.put (some 37) (.int .i64 ((i : Nat) : Int)) := ⟨_, rfl⟩
  rw [← h3]
  have sz3 : a3.tmps.size = 77 := by rw [h3, size_put]; exact sz2
  have e3_4 : a3.eval (.tmp 4) = .pointer (some ⟨g, 0, none⟩) := by rw [h3, eval_put_ne _ _ _ _ (by decide)]; exact e2_4
  have e3_6 : a3.eval (.tmp 6) = .int .i64 ((i : Nat) : Int) := by rw [h3, eval_put_ne _ _ _ _ (by decide)]; exact e2_6
  have e3_36 : a3.eval (.tmp 36) = .pointer (some ⟨g, 4 * i, none⟩) := by rw [h3, eval_put_ne _ _ _ _ (by decide)]; exact e2_36
  have e3_37 : a3.eval (.tmp 37) = .int .i64 ((i : Nat) : Int) := by rw [h3]; exact eval_put_eq _ _ _ (by rw [sz2]; decide)
  clear e2_36 e2_4 e2_6 sz2
  refine takeH (v := .int .i64 ((i + 1 : Nat) : Int)) opFo13_3 opFo13_ns (by kernel_rfl) (by kernel_rfl) HPN (fun w _ o ho => run_addI (p := i) (q := 1) (by have := hi.out; omega) ho e3_37 rfl w) trivial ?_
  refine wpAnyH_as (l' := #[true, true, true, true, false, false, false, false, false, false, false, false, false, false, false, false, false, false]) (by kernel_rfl) ?_
  obtain ⟨a4, h4⟩ : ∃ a' : Act, a' = a3.put (some 38) (.int .i64 ((i + 1 : Nat) : Int)) := ⟨_, rfl⟩
  rw [← h4]
  have sz4 : a4.tmps.size = 77 := by rw [h4, size_put]; exact sz3
  have e4_4 : a4.eval (.tmp 4) = .pointer (some ⟨g, 0, none⟩) := by rw [h4, eval_put_ne _ _ _ _ (by decide)]; exact e3_4
  have e4_6 : a4.eval (.tmp 6) = .int .i64 ((i : Nat) : Int) := by rw [h4, eval_put_ne _ _ _ _ (by decide)]; exact e3_6
  have e4_36 : a4.eval (.tmp 36) = .pointer (some ⟨g, 4 * i, none⟩) := by rw [h4, eval_put_ne _ _ _ _ (by decide)]; exact e3_36
  have e4_38 : a4.eval (.tmp 38) = .int .i64 ((i + 1 : Nat) : Int) := by rw [h4]; exact eval_put_eq _ _ _ (by rw [sz3]; decide)
  clear e3_36 e3_37 e3_4 e3_6 sz3
  refine takeH (v := .int .i64 (((i + 1) % 4 : Nat) : Int)) opFo13_4 opFo13_ns (by kernel_rfl) (by kernel_rfl) HPN (fun w _ o ho => run_remI (p := i + 1) (q := 4) (by decide) (by have := hi.out; omega) ho e4_38 rfl w) trivial ?_
  refine wpAnyH_as (l' := #[true, true, true, true, true, false, false, false, false, false, false, false, false, false, false, false, false, false]) (by kernel_rfl) ?_
  obtain ⟨a5, h5⟩ : ∃ a' : Act, a' = a4.put (some 39) (.int .i64 (((i + 1) % 4 : Nat) : Int)) := ⟨_, rfl⟩
  rw [← h5]
  have sz5 : a5.tmps.size = 77 := by rw [h5, size_put]; exact sz4
  have e5_4 : a5.eval (.tmp 4) = .pointer (some ⟨g, 0, none⟩) := by rw [h5, eval_put_ne _ _ _ _ (by decide)]; exact e4_4
  have e5_6 : a5.eval (.tmp 6) = .int .i64 ((i : Nat) : Int) := by rw [h5, eval_put_ne _ _ _ _ (by decide)]; exact e4_6
  have e5_36 : a5.eval (.tmp 36) = .pointer (some ⟨g, 4 * i, none⟩) := by rw [h5, eval_put_ne _ _ _ _ (by decide)]; exact e4_36
  have e5_39 : a5.eval (.tmp 39) = .int .i64 (((i + 1) % 4 : Nat) : Int) := by rw [h5]; exact eval_put_eq _ _ _ (by rw [sz4]; decide)
  clear e4_36 e4_38 e4_4 e4_6 sz4
  refine takeH (v := .int .i64 ((4 + ((i + 1) % 4) : Nat) : Int)) opFo13_5 opFo13_ns (by kernel_rfl) (by kernel_rfl) HPN (fun w _ o ho => run_addI (p := 4) (q := (i + 1) % 4) (by have := hi.out; omega) ho rfl e5_39 w) trivial ?_
  refine wpAnyH_as (l' := #[true, true, true, true, true, true, false, false, false, false, false, false, false, false, false, false, false, false]) (by kernel_rfl) ?_
  obtain ⟨a6, h6⟩ : ∃ a' : Act, a' = a5.put (some 40) (.int .i64 ((4 + ((i + 1) % 4) : Nat) : Int)) := ⟨_, rfl⟩
  rw [← h6]
  have sz6 : a6.tmps.size = 77 := by rw [h6, size_put]; exact sz5
  have e6_4 : a6.eval (.tmp 4) = .pointer (some ⟨g, 0, none⟩) := by rw [h6, eval_put_ne _ _ _ _ (by decide)]; exact e5_4
  have e6_6 : a6.eval (.tmp 6) = .int .i64 ((i : Nat) : Int) := by rw [h6, eval_put_ne _ _ _ _ (by decide)]; exact e5_6
  have e6_36 : a6.eval (.tmp 36) = .pointer (some ⟨g, 4 * i, none⟩) := by rw [h6, eval_put_ne _ _ _ _ (by decide)]; exact e5_36
  have e6_40 : a6.eval (.tmp 40) = .int .i64 ((4 + ((i + 1) % 4) : Nat) : Int) := by rw [h6]; exact eval_put_eq _ _ _ (by rw [sz5]; decide)
  clear e5_36 e5_39 e5_4 e5_6 sz5
  refine takeH (v := .pointer (some ⟨g, 4 * (4 + ((i + 1) % 4)), none⟩)) opFo13_6 opFo13_ns (by kernel_rfl) (by kernel_rfl) HPN (fun w _ o ho => run_ixF (n := 4 + ((i + 1) % 4)) (by have := hi.out; omega) ho e6_4 e6_40 w) trivial ?_
  refine wpAnyH_as (l' := #[true, true, true, true, true, true, true, false, false, false, false, false, false, false, false, false, false, false]) (by kernel_rfl) ?_
  obtain ⟨a7, h7⟩ : ∃ a' : Act, a' = a6.put (some 41) (.pointer (some ⟨g, 4 * (4 + ((i + 1) % 4)), none⟩)) := ⟨_, rfl⟩
  rw [← h7]
  have sz7 : a7.tmps.size = 77 := by rw [h7, size_put]; exact sz6
  have e7_4 : a7.eval (.tmp 4) = .pointer (some ⟨g, 0, none⟩) := by rw [h7, eval_put_ne _ _ _ _ (by decide)]; exact e6_4
  have e7_6 : a7.eval (.tmp 6) = .int .i64 ((i : Nat) : Int) := by rw [h7, eval_put_ne _ _ _ _ (by decide)]; exact e6_6
  have e7_36 : a7.eval (.tmp 36) = .pointer (some ⟨g, 4 * i, none⟩) := by rw [h7, eval_put_ne _ _ _ _ (by decide)]; exact e6_36
  have e7_41 : a7.eval (.tmp 41) = .pointer (some ⟨g, 4 * (4 + ((i + 1) % 4)), none⟩) := by rw [h7]; exact eval_put_eq _ _ _ (by rw [sz6]; decide)
  clear e6_36 e6_4 e6_40 e6_6 sz6
  refine takeH (v := .int .i64 ((i : Nat) : Int)) opFo13_7 opFo13_ns (by kernel_rfl) (by kernel_rfl) HPN (fun w _ o ho => run_move ho e7_6 w) trivial ?_
  refine wpAnyH_as (l' := #[true, true, true, true, true, true, true, true, false, false, false, false, false, false, false, false, false, false]) (by kernel_rfl) ?_
  obtain ⟨a8, h8⟩ : ∃ a' : Act, a' = a7.put (some 42) (.int .i64 ((i : Nat) : Int)) := ⟨_, rfl⟩
  rw [← h8]
  have sz8 : a8.tmps.size = 77 := by rw [h8, size_put]; exact sz7
  have e8_4 : a8.eval (.tmp 4) = .pointer (some ⟨g, 0, none⟩) := by rw [h8, eval_put_ne _ _ _ _ (by decide)]; exact e7_4
  have e8_6 : a8.eval (.tmp 6) = .int .i64 ((i : Nat) : Int) := by rw [h8, eval_put_ne _ _ _ _ (by decide)]; exact e7_6
  have e8_36 : a8.eval (.tmp 36) = .pointer (some ⟨g, 4 * i, none⟩) := by rw [h8, eval_put_ne _ _ _ _ (by decide)]; exact e7_36
  have e8_41 : a8.eval (.tmp 41) = .pointer (some ⟨g, 4 * (4 + ((i + 1) % 4)), none⟩) := by rw [h8, eval_put_ne _ _ _ _ (by decide)]; exact e7_41
  have e8_42 : a8.eval (.tmp 42) = .int .i64 ((i : Nat) : Int) := by rw [h8]; exact eval_put_eq _ _ _ (by rw [sz7]; decide)
  clear e7_36 e7_4 e7_41 e7_6 sz7
  refine takeH (v := .int .i64 ((i + 2 : Nat) : Int)) opFo13_8 opFo13_ns (by kernel_rfl) (by kernel_rfl) HPN (fun w _ o ho => run_addI (p := i) (q := 2) (by have := hi.out; omega) ho e8_42 rfl w) trivial ?_
  refine wpAnyH_as (l' := #[true, true, true, true, true, true, true, true, true, false, false, false, false, false, false, false, false, false]) (by kernel_rfl) ?_
  obtain ⟨a9, h9⟩ : ∃ a' : Act, a' = a8.put (some 43) (.int .i64 ((i + 2 : Nat) : Int)) := ⟨_, rfl⟩
  rw [← h9]
  have sz9 : a9.tmps.size = 77 := by rw [h9, size_put]; exact sz8
  have e9_4 : a9.eval (.tmp 4) = .pointer (some ⟨g, 0, none⟩) := by rw [h9, eval_put_ne _ _ _ _ (by decide)]; exact e8_4
  have e9_6 : a9.eval (.tmp 6) = .int .i64 ((i : Nat) : Int) := by rw [h9, eval_put_ne _ _ _ _ (by decide)]; exact e8_6
  have e9_36 : a9.eval (.tmp 36) = .pointer (some ⟨g, 4 * i, none⟩) := by rw [h9, eval_put_ne _ _ _ _ (by decide)]; exact e8_36
  have e9_41 : a9.eval (.tmp 41) = .pointer (some ⟨g, 4 * (4 + ((i + 1) % 4)), none⟩) := by rw [h9, eval_put_ne _ _ _ _ (by decide)]; exact e8_41
  have e9_43 : a9.eval (.tmp 43) = .int .i64 ((i + 2 : Nat) : Int) := by rw [h9]; exact eval_put_eq _ _ _ (by rw [sz8]; decide)
  clear e8_36 e8_4 e8_41 e8_42 e8_6 sz8
  refine takeH (v := .int .i64 (((i + 2) % 4 : Nat) : Int)) opFo13_9 opFo13_ns (by kernel_rfl) (by kernel_rfl) HPN (fun w _ o ho => run_remI (p := i + 2) (q := 4) (by decide) (by have := hi.out; omega) ho e9_43 rfl w) trivial ?_
  refine wpAnyH_as (l' := #[true, true, true, true, true, true, true, true, true, true, false, false, false, false, false, false, false, false]) (by kernel_rfl) ?_
  obtain ⟨a10, h10⟩ : ∃ a' : Act, a' = a9.put (some 44) (.int .i64 (((i + 2) % 4 : Nat) : Int)) := ⟨_, rfl⟩
  rw [← h10]
  have sz10 : a10.tmps.size = 77 := by rw [h10, size_put]; exact sz9
  have e10_4 : a10.eval (.tmp 4) = .pointer (some ⟨g, 0, none⟩) := by rw [h10, eval_put_ne _ _ _ _ (by decide)]; exact e9_4
  have e10_6 : a10.eval (.tmp 6) = .int .i64 ((i : Nat) : Int) := by rw [h10, eval_put_ne _ _ _ _ (by decide)]; exact e9_6
  have e10_36 : a10.eval (.tmp 36) = .pointer (some ⟨g, 4 * i, none⟩) := by rw [h10, eval_put_ne _ _ _ _ (by decide)]; exact e9_36
  have e10_41 : a10.eval (.tmp 41) = .pointer (some ⟨g, 4 * (4 + ((i + 1) % 4)), none⟩) := by rw [h10, eval_put_ne _ _ _ _ (by decide)]; exact e9_41
  have e10_44 : a10.eval (.tmp 44) = .int .i64 (((i + 2) % 4 : Nat) : Int) := by rw [h10]; exact eval_put_eq _ _ _ (by rw [sz9]; decide)
  clear e9_36 e9_4 e9_41 e9_43 e9_6 sz9
  refine takeH (v := .int .i64 ((8 + ((i + 2) % 4) : Nat) : Int)) opFo13_10 opFo13_ns (by kernel_rfl) (by kernel_rfl) HPN (fun w _ o ho => run_addI (p := 8) (q := (i + 2) % 4) (by have := hi.out; omega) ho rfl e10_44 w) trivial ?_
  refine wpAnyH_as (l' := #[true, true, true, true, true, true, true, true, true, true, true, false, false, false, false, false, false, false]) (by kernel_rfl) ?_
  obtain ⟨a11, h11⟩ : ∃ a' : Act, a' = a10.put (some 45) (.int .i64 ((8 + ((i + 2) % 4) : Nat) : Int)) := ⟨_, rfl⟩
  rw [← h11]
  have sz11 : a11.tmps.size = 77 := by rw [h11, size_put]; exact sz10
  have e11_4 : a11.eval (.tmp 4) = .pointer (some ⟨g, 0, none⟩) := by rw [h11, eval_put_ne _ _ _ _ (by decide)]; exact e10_4
  have e11_6 : a11.eval (.tmp 6) = .int .i64 ((i : Nat) : Int) := by rw [h11, eval_put_ne _ _ _ _ (by decide)]; exact e10_6
  have e11_36 : a11.eval (.tmp 36) = .pointer (some ⟨g, 4 * i, none⟩) := by rw [h11, eval_put_ne _ _ _ _ (by decide)]; exact e10_36
  have e11_41 : a11.eval (.tmp 41) = .pointer (some ⟨g, 4 * (4 + ((i + 1) % 4)), none⟩) := by rw [h11, eval_put_ne _ _ _ _ (by decide)]; exact e10_41
  have e11_45 : a11.eval (.tmp 45) = .int .i64 ((8 + ((i + 2) % 4) : Nat) : Int) := by rw [h11]; exact eval_put_eq _ _ _ (by rw [sz10]; decide)
  clear e10_36 e10_4 e10_41 e10_44 e10_6 sz10
  refine takeH (v := .pointer (some ⟨g, 4 * (8 + ((i + 2) % 4)), none⟩)) opFo13_11 opFo13_ns (by kernel_rfl) (by kernel_rfl) HPN (fun w _ o ho => run_ixF (n := 8 + ((i + 2) % 4)) (by have := hi.out; omega) ho e11_4 e11_45 w) trivial ?_
  refine wpAnyH_as (l' := #[true, true, true, true, true, true, true, true, true, true, true, true, false, false, false, false, false, false]) (by kernel_rfl) ?_
  obtain ⟨a12, h12⟩ : ∃ a' : Act, a' = a11.put (some 46) (.pointer (some ⟨g, 4 * (8 + ((i + 2) % 4)), none⟩)) := ⟨_, rfl⟩
  rw [← h12]
  have sz12 : a12.tmps.size = 77 := by rw [h12, size_put]; exact sz11
  have e12_4 : a12.eval (.tmp 4) = .pointer (some ⟨g, 0, none⟩) := by rw [h12, eval_put_ne _ _ _ _ (by decide)]; exact e11_4
  have e12_6 : a12.eval (.tmp 6) = .int .i64 ((i : Nat) : Int) := by rw [h12, eval_put_ne _ _ _ _ (by decide)]; exact e11_6
  have e12_36 : a12.eval (.tmp 36) = .pointer (some ⟨g, 4 * i, none⟩) := by rw [h12, eval_put_ne _ _ _ _ (by decide)]; exact e11_36
  have e12_41 : a12.eval (.tmp 41) = .pointer (some ⟨g, 4 * (4 + ((i + 1) % 4)), none⟩) := by rw [h12, eval_put_ne _ _ _ _ (by decide)]; exact e11_41
  have e12_46 : a12.eval (.tmp 46) = .pointer (some ⟨g, 4 * (8 + ((i + 2) % 4)), none⟩) := by rw [h12]; exact eval_put_eq _ _ _ (by rw [sz11]; decide)
  clear e11_36 e11_4 e11_41 e11_45 e11_6 sz11
  refine takeH (v := .int .i64 ((i : Nat) : Int)) opFo13_12 opFo13_ns (by kernel_rfl) (by kernel_rfl) HPN (fun w _ o ho => run_move ho e12_6 w) trivial ?_
  refine wpAnyH_as (l' := #[true, true, true, true, true, true, true, true, true, true, true, true, true, false, false, false, false, false]) (by kernel_rfl) ?_
  obtain ⟨a13, h13⟩ : ∃ a' : Act, a' = a12.put (some 47) (.int .i64 ((i : Nat) : Int)) := ⟨_, rfl⟩
  rw [← h13]
  have sz13 : a13.tmps.size = 77 := by rw [h13, size_put]; exact sz12
  have e13_4 : a13.eval (.tmp 4) = .pointer (some ⟨g, 0, none⟩) := by rw [h13, eval_put_ne _ _ _ _ (by decide)]; exact e12_4
  have e13_36 : a13.eval (.tmp 36) = .pointer (some ⟨g, 4 * i, none⟩) := by rw [h13, eval_put_ne _ _ _ _ (by decide)]; exact e12_36
  have e13_41 : a13.eval (.tmp 41) = .pointer (some ⟨g, 4 * (4 + ((i + 1) % 4)), none⟩) := by rw [h13, eval_put_ne _ _ _ _ (by decide)]; exact e12_41
  have e13_46 : a13.eval (.tmp 46) = .pointer (some ⟨g, 4 * (8 + ((i + 2) % 4)), none⟩) := by rw [h13, eval_put_ne _ _ _ _ (by decide)]; exact e12_46
  have e13_47 : a13.eval (.tmp 47) = .int .i64 ((i : Nat) : Int) := by rw [h13]; exact eval_put_eq _ _ _ (by rw [sz12]; decide)
  clear e12_36 e12_4 e12_41 e12_46 e12_6 sz12
  refine takeH (v := .int .i64 ((i + 3 : Nat) : Int)) opFo13_13 opFo13_ns (by kernel_rfl) (by kernel_rfl) HPN (fun w _ o ho => run_addI (p := i) (q := 3) (by have := hi.out; omega) ho e13_47 rfl w) trivial ?_
  refine wpAnyH_as (l' := #[true, true, true, true, true, true, true, true, true, true, true, true, true, true, false, false, false, false]) (by kernel_rfl) ?_
  obtain ⟨a14, h14⟩ : ∃ a' : Act, a' = a13.put (some 48) (.int .i64 ((i + 3 : Nat) : Int)) := ⟨_, rfl⟩
  rw [← h14]
  have sz14 : a14.tmps.size = 77 := by rw [h14, size_put]; exact sz13
  have e14_4 : a14.eval (.tmp 4) = .pointer (some ⟨g, 0, none⟩) := by rw [h14, eval_put_ne _ _ _ _ (by decide)]; exact e13_4
  have e14_36 : a14.eval (.tmp 36) = .pointer (some ⟨g, 4 * i, none⟩) := by rw [h14, eval_put_ne _ _ _ _ (by decide)]; exact e13_36
  have e14_41 : a14.eval (.tmp 41) = .pointer (some ⟨g, 4 * (4 + ((i + 1) % 4)), none⟩) := by rw [h14, eval_put_ne _ _ _ _ (by decide)]; exact e13_41
  have e14_46 : a14.eval (.tmp 46) = .pointer (some ⟨g, 4 * (8 + ((i + 2) % 4)), none⟩) := by rw [h14, eval_put_ne _ _ _ _ (by decide)]; exact e13_46
  have e14_48 : a14.eval (.tmp 48) = .int .i64 ((i + 3 : Nat) : Int) := by rw [h14]; exact eval_put_eq _ _ _ (by rw [sz13]; decide)
  clear e13_36 e13_4 e13_41 e13_46 e13_47 sz13
  refine takeH (v := .int .i64 (((i + 3) % 4 : Nat) : Int)) opFo13_14 opFo13_ns (by kernel_rfl) (by kernel_rfl) HPN (fun w _ o ho => run_remI (p := i + 3) (q := 4) (by decide) (by have := hi.out; omega) ho e14_48 rfl w) trivial ?_
  refine wpAnyH_as (l' := #[true, true, true, true, true, true, true, true, true, true, true, true, true, true, true, false, false, false]) (by kernel_rfl) ?_
  obtain ⟨a15, h15⟩ : ∃ a' : Act, a' = a14.put (some 49) (.int .i64 (((i + 3) % 4 : Nat) : Int)) := ⟨_, rfl⟩
  rw [← h15]
  have sz15 : a15.tmps.size = 77 := by rw [h15, size_put]; exact sz14
  have e15_4 : a15.eval (.tmp 4) = .pointer (some ⟨g, 0, none⟩) := by rw [h15, eval_put_ne _ _ _ _ (by decide)]; exact e14_4
  have e15_36 : a15.eval (.tmp 36) = .pointer (some ⟨g, 4 * i, none⟩) := by rw [h15, eval_put_ne _ _ _ _ (by decide)]; exact e14_36
  have e15_41 : a15.eval (.tmp 41) = .pointer (some ⟨g, 4 * (4 + ((i + 1) % 4)), none⟩) := by rw [h15, eval_put_ne _ _ _ _ (by decide)]; exact e14_41
  have e15_46 : a15.eval (.tmp 46) = .pointer (some ⟨g, 4 * (8 + ((i + 2) % 4)), none⟩) := by rw [h15, eval_put_ne _ _ _ _ (by decide)]; exact e14_46
  have e15_49 : a15.eval (.tmp 49) = .int .i64 (((i + 3) % 4 : Nat) : Int) := by rw [h15]; exact eval_put_eq _ _ _ (by rw [sz14]; decide)
  clear e14_36 e14_4 e14_41 e14_46 e14_48 sz14
  refine takeH (v := .int .i64 ((12 + ((i + 3) % 4) : Nat) : Int)) opFo13_15 opFo13_ns (by kernel_rfl) (by kernel_rfl) HPN (fun w _ o ho => run_addI (p := 12) (q := (i + 3) % 4) (by have := hi.out; omega) ho rfl e15_49 w) trivial ?_
  refine wpAnyH_as (l' := #[true, true, true, true, true, true, true, true, true, true, true, true, true, true, true, true, false, false]) (by kernel_rfl) ?_
  obtain ⟨a16, h16⟩ : ∃ a' : Act, a' = a15.put (some 50) (.int .i64 ((12 + ((i + 3) % 4) : Nat) : Int)) := ⟨_, rfl⟩
  rw [← h16]
  have sz16 : a16.tmps.size = 77 := by rw [h16, size_put]; exact sz15
  have e16_4 : a16.eval (.tmp 4) = .pointer (some ⟨g, 0, none⟩) := by rw [h16, eval_put_ne _ _ _ _ (by decide)]; exact e15_4
  have e16_36 : a16.eval (.tmp 36) = .pointer (some ⟨g, 4 * i, none⟩) := by rw [h16, eval_put_ne _ _ _ _ (by decide)]; exact e15_36
  have e16_41 : a16.eval (.tmp 41) = .pointer (some ⟨g, 4 * (4 + ((i + 1) % 4)), none⟩) := by rw [h16, eval_put_ne _ _ _ _ (by decide)]; exact e15_41
  have e16_46 : a16.eval (.tmp 46) = .pointer (some ⟨g, 4 * (8 + ((i + 2) % 4)), none⟩) := by rw [h16, eval_put_ne _ _ _ _ (by decide)]; exact e15_46
  have e16_50 : a16.eval (.tmp 50) = .int .i64 ((12 + ((i + 3) % 4) : Nat) : Int) := by rw [h16]; exact eval_put_eq _ _ _ (by rw [sz15]; decide)
  clear e15_36 e15_4 e15_41 e15_46 e15_49 sz15
  refine takeH (v := .pointer (some ⟨g, 4 * (12 + ((i + 3) % 4)), none⟩)) opFo13_16 opFo13_ns (by kernel_rfl) (by kernel_rfl) HPN (fun w _ o ho => run_ixF (n := 12 + ((i + 3) % 4)) (by have := hi.out; omega) ho e16_4 e16_50 w) trivial ?_
  refine wpAnyH_as (l' := #[true, true, true, true, true, true, true, true, true, true, true, true, true, true, true, true, true, false]) (by kernel_rfl) ?_
  obtain ⟨a17, h17⟩ : ∃ a' : Act, a' = a16.put (some 51) (.pointer (some ⟨g, 4 * (12 + ((i + 3) % 4)), none⟩)) := ⟨_, rfl⟩
  rw [← h17]
  have sz17 : a17.tmps.size = 77 := by rw [h17, size_put]; exact sz16
  have e17_36 : a17.eval (.tmp 36) = .pointer (some ⟨g, 4 * i, none⟩) := by rw [h17, eval_put_ne _ _ _ _ (by decide)]; exact e16_36
  have e17_41 : a17.eval (.tmp 41) = .pointer (some ⟨g, 4 * (4 + ((i + 1) % 4)), none⟩) := by rw [h17, eval_put_ne _ _ _ _ (by decide)]; exact e16_41
  have e17_46 : a17.eval (.tmp 46) = .pointer (some ⟨g, 4 * (8 + ((i + 2) % 4)), none⟩) := by rw [h17, eval_put_ne _ _ _ _ (by decide)]; exact e16_46
  have e17_51 : a17.eval (.tmp 51) = .pointer (some ⟨g, 4 * (12 + ((i + 3) % 4)), none⟩) := by rw [h17]; exact eval_put_eq _ _ _ (by rw [sz16]; decide)
  clear e16_36 e16_4 e16_41 e16_46 e16_50 sz16
  refine readyH opFo13_17 (by kernel_rfl) (fun o ho hd => wpCall (v := .tuple #[]) ho hd (args := #[.pointer (some ⟨g, 4 * i, none⟩), .pointer (some ⟨g, 4 * (4 + ((i + 1) % 4)), none⟩), .pointer (some ⟨g, 4 * (8 + ((i + 2) % 4)), none⟩), .pointer (some ⟨g, 4 * (12 + ((i + 3) % 4)), none⟩)]) (by simp only [List.map_toArray, List.map_cons, List.map_nil, e17_36, e17_41, e17_46, e17_51] <;> rfl) (fun _ => rfl) HC.out (fun w1 hw1 => ?_))
  refine ⟨trivial, ?_⟩
  refine wpAnyH_as (l' := #[true, true, true, true, true, true, true, true, true, true, true, true, true, true, true, true, true, true]) (by kernel_rfl) ?_
  obtain ⟨a18, h18⟩ : ∃ a' : Act, a' = a17.put (some 52) (.tuple #[]) := ⟨_, rfl⟩
  rw [← h18]
  have sz18 : a18.tmps.size = 77 := by rw [h18, size_put]; exact sz17
  clear e17_36 e17_41 e17_46 e17_51 sz17
  refine wpAnyH_done (by kernel_rfl) ?_ _
  have hF : a18 = ⟨#[c0, c1, c2, c3, .pointer (some ⟨g, 0, none⟩), c5, .int .i64 ((i : Nat) : Int), c7, c8, c9, c10, c11, c12, c13, c14, c15, c16, c17, c18, c19, c20, c21, c22, c23, c24, c25, c26, c27, c28, c29, c30, c31, c32, c33, c34, .int .i64 ((i : Nat) : Int), .pointer (some ⟨g, 4 * i, none⟩), .int .i64 ((i : Nat) : Int), .int .i64 ((i + 1 : Nat) : Int), .int .i64 (((i + 1) % 4 : Nat) : Int), .int .i64 ((4 + ((i + 1) % 4) : Nat) : Int), .pointer (some ⟨g, 4 * (4 + ((i + 1) % 4)), none⟩), .int .i64 ((i : Nat) : Int), .int .i64 ((i + 2 : Nat) : Int), .int .i64 (((i + 2) % 4 : Nat) : Int), .int .i64 ((8 + ((i + 2) % 4) : Nat) : Int), .pointer (some ⟨g, 4 * (8 + ((i + 2) % 4)), none⟩), .int .i64 ((i : Nat) : Int), .int .i64 ((i + 3 : Nat) : Int), .int .i64 (((i + 3) % 4 : Nat) : Int), .int .i64 ((12 + ((i + 3) % 4) : Nat) : Int), .pointer (some ⟨g, 4 * (12 + ((i + 3) % 4)), none⟩), .tuple #[], c53, c54, c55, c56, c57, c58, c59, c60, c61, c62, c63, c64, c65, c66, c67, c68, c69, c70, c71, c72, c73, c74, c75, c76], []⟩ := by rw [h18, h17, h16, h15, h14, h13, h12, h11, h10, h9, h8, h7, h6, h5, h4, h3, h2, h1, ha]; kernel_rfl
  rw [hF]
  exact H _ hw1
end Go.Proofs.Ytefnlaookmpbhaa
