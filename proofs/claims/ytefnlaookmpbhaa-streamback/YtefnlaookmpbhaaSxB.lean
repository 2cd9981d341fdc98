import Derived.Test.YtefnlaookmpbhaaStrT
namespace Go.Proofs.Ytefnlaookmpbhaa
set_option linter.unusedSimpArgs false
set_option linter.unusedVariables false
open Go.ChangeShapes Go.WideShapes Go.ChangeAt Go.RowKit Go.Pin Go.Str
noncomputable def rgBk6 : Code := ((Try.f5.body.bind (findReg 6)).getD .skip)
noncomputable def opBk6 : Array Oper := opsOf rgBk6
theorem rgBk6_is : rgBk6 = .region 6 opBk6 true := by kernel_rfl
theorem opBk6_ns : Region.noSelect opBk6 = true := by kernel_rfl
theorem opBk6_0 : opIs opBk6 0 (.load 23 (.tmp 4)) (some 21) := by unfold opIs; kernel_rfl
theorem opBk6_1 : opIs opBk6 1 (.move (.tmp 1)) (some 22) := by unfold opIs; kernel_rfl
theorem opBk6_2 : opIs opBk6 2 (.load 26 (.tmp 6)) (some 23) := by unfold opIs; kernel_rfl
theorem opBk6_3 : opIs opBk6 3 (.move (.tmp 10)) (some 24) := by unfold opIs; kernel_rfl
theorem opBk6_4 : opIs opBk6 4 (.move (.tmp 9)) (some 25) := by unfold opIs; kernel_rfl
theorem opBk6_5 : opIs opBk6 5 (.slice 40 (.tmp 24) none (some (.tmp 25)) none) (some 26) := by unfold opIs; kernel_rfl
theorem opBk6_6 : opIs opBk6 6 (.call { callee := .value (.func 17), args := #[.const (.pointer none), .tmp 21, .tmp 22, .tmp 23, .tmp 26], argTypes := #[27, 23, 24, 26, 40] }) (some 27) := by unfold opIs; kernel_rfl
set_option maxRecDepth 100000 in
set_option maxHeartbeats 4000000 in
theorem Bk6 {Q : Exit → Act → World → Prop} {W : World} {R : World → Prop} {key nonce : List Nat} {c q g n len cap : Nat} {c0 c2 c3 c5 c7 c8 c11 c12 c13 c14 c15 c16 c17 c18 c19 c20 c21 c22 c23 c24 c25 c26 c27 c28 c29 c30 c31 c32 c33 c34 c35 c36 c37 c38 c39 c40 c41 c42 c43 c44 c45 c46 c47 c48 c49 c50 c51 c52 c53 c54 c55 c56 c57 c58 c59 c60 c61 c62 c63 c64 c65 c66 c67 c68 c69 c70 c71 : Value}
    (hk : Hid (key.length = 32)) (hn : Hid (nonce.length = 12))
    (hA : Hid (n ≤ cap ∧ 0 < cap))
    (HC : Hid (Calls Try.prog 17 #[.pointer none, .agg (VN .u8 key), .int .u32 ((c : Nat) : Int), .agg (VN .u8 nonce), .slice (some ⟨g, 0, none⟩) n cap] W.drew fun e w' => e = .returned (.tuple #[]) ∧ R w'))
    (HS : Hid ((fun Y : World => RK Y q key 23 ∧ RK Y (q + 1) nonce 26) W.drew))
    (HSR : ∀ w', R w' → (fun Y : World => RK Y q key 23 ∧ RK Y (q + 1) nonce 26) w')
    (HPN : ∀ c (a : Act) d v w, Q (.panic c) (a.put d v) w → Q (.panic c) a w)
    (H : ∀ W', R W' → Q .normal ⟨#[c0, .int .u32 ((c : Nat) : Int), c2, c3, .pointer (some ⟨q, 0, none⟩), c5, .pointer (some ⟨q + 1, 0, none⟩), c7, c8, .int .i64 ((n : Nat) : Int), .slice (some ⟨g, 0, none⟩) len cap, c11, c12, c13, c14, c15, c16, c17, c18, c19, c20, .agg (VN .u8 key), .int .u32 ((c : Nat) : Int), .agg (VN .u8 nonce), .slice (some ⟨g, 0, none⟩) len cap, .int .i64 ((n : Nat) : Int), .slice (some ⟨g, 0, none⟩) n cap, .tuple #[], c28, c29, c30, c31, c32, c33, c34, c35, c36, c37, c38, c39, c40, c41, c42, c43, c44, c45, c46, c47, c48, c49, c50, c51, c52, c53, c54, c55, c56, c57, c58, c59, c60, c61, c62, c63, c64, c65, c66, c67, c68, c69, c70, c71], []⟩ W') :
    Code.wp Try.prog rgBk6 Q ⟨#[c0, .int .u32 ((c : Nat) : Int), c2, c3, .pointer (some ⟨q, 0, none⟩), c5, .pointer (some ⟨q + 1, 0, none⟩), c7, c8, .int .i64 ((n : Nat) : Int), .slice (some ⟨g, 0, none⟩) len cap, c11, c12, c13, c14, c15, c16, c17, c18, c19, c20, c21, c22, c23, c24, c25, c26, c27, c28, c29, c30, c31, c32, c33, c34, c35, c36, c37, c38, c39, c40, c41, c42, c43, c44, c45, c46, c47, c48, c49, c50, c51, c52, c53, c54, c55, c56, c57, c58, c59, c60, c61, c62, c63, c64, c65, c66, c67, c68, c69, c70, c71], []⟩ W := by
  rw [rgBk6_is]
  refine wp_region_held_drew (S := fun Y : World => RK Y q key 23 ∧ RK Y (q + 1) nonce 26) (by kernel_rfl) HS.out (fun hH => ?_)
  obtain ⟨a0, ha⟩ : ∃ a : Act, a = ⟨#[c0, .int .u32 ((c : Nat) : Int), c2, c3, .pointer (some ⟨q, 0, none⟩), c5, .pointer (some ⟨q + 1, 0, none⟩), c7, c8, .int .i64 ((n : Nat) : Int), .slice (some ⟨g, 0, none⟩) len cap, c11, c12, c13, c14, c15, c16, c17, c18, c19, c20, c21, c22, c23, c24, c25, c26, c27, c28, c29, c30, c31, c32, c33, c34, c35, c36, c37, c38, c39, c40, c41, c42, c43, c44, c45, c46, c47, c48, c49, c50, c51, c52, c53, c54, c55, c56, c57, c58, c59, c60, c61, c62, c63, c64, c65, c66, c67, c68, c69, c70, c71], []⟩ := ⟨_, rfl⟩
  have sz0 : a0.tmps.size = 72 := by rw [ha]; kernel_rfl
  have e0_1 : a0.eval (.tmp 1) = .int .u32 ((c : Nat) : Int) := by rw [ha]; kernel_rfl
  have e0_4 : a0.eval (.tmp 4) = .pointer (some ⟨q, 0, none⟩) := by rw [ha]; kernel_rfl
  have e0_6 : a0.eval (.tmp 6) = .pointer (some ⟨q + 1, 0, none⟩) := by rw [ha]; kernel_rfl
  have e0_9 : a0.eval (.tmp 9) = .int .i64 ((n : Nat) : Int) := by rw [ha]; kernel_rfl
  have e0_10 : a0.eval (.tmp 10) = .slice (some ⟨g, 0, none⟩) len cap := by rw [ha]; kernel_rfl
  rw [← ha]
  refine wpAnyH_as (l' := #[false, false, false, false, false, false, false]) (by kernel_rfl) ?_
  refine takeH (v := .agg (VN .u8 key)) opBk6_0 opBk6_ns (by kernel_rfl) (by kernel_rfl) HPN (fun w hw o ho => run_loadKey hk.out ho e0_4 w hw.1) hH ?_
  refine wpAnyH_as (l' := #[true, false, false, false, false, false, false]) (by kernel_rfl) ?_
  obtain ⟨a1, h1⟩ : ∃ a' : Act, a' = a0.put (some 21) (.agg (VN .u8 key)) := ⟨_, rfl⟩
  rw [← h1]
  have sz1 : a1.tmps.size = 72 := by rw [h1, size_put]; exact sz0
  have e1_1 : a1.eval (.tmp 1) = .int .u32 ((c : Nat) : Int) := by rw [h1, eval_put_ne _ _ _ _ (by decide)]; exact e0_1
  have e1_6 : a1.eval (.tmp 6) = .pointer (some ⟨q + 1, 0, none⟩) := by rw [h1, eval_put_ne _ _ _ _ (by decide)]; exact e0_6
  have e1_9 : a1.eval (.tmp 9) = .int .i64 ((n : Nat) : Int) := by rw [h1, eval_put_ne _ _ _ _ (by decide)]; exact e0_9
  have e1_10 : a1.eval (.tmp 10) = .slice (some ⟨g, 0, none⟩) len cap := by rw [h1, eval_put_ne _ _ _ _ (by decide)]; exact e0_10
  have e1_21 : a1.eval (.tmp 21) = .agg (VN .u8 key) := by rw [h1]; exact eval_put_eq _ _ _ (by rw [sz0]; decide)
  clear e0_1 e0_10 e0_4 e0_6 e0_9 sz0
  refine takeH (v := .int .u32 ((c : Nat) : Int)) opBk6_1 opBk6_ns (by kernel_rfl) (by kernel_rfl) HPN (fun w hw o ho => run_move ho e1_1 w) hH ?_
  refine wpAnyH_as (l' := #[true, true, false, false, false, false, false]) (by kernel_rfl) ?_
  obtain ⟨a2, h2⟩ : ∃ a' : Act, a' = a1.put (some 22) (.int .u32 ((c : Nat) : Int)) := ⟨_, rfl⟩
  rw [← h2]
  have sz2 : a2.tmps.size = 72 := by rw [h2, size_put]; exact sz1
  have e2_6 : a2.eval (.tmp 6) = .pointer (some ⟨q + 1, 0, none⟩) := by rw [h2, eval_put_ne _ _ _ _ (by decide)]; exact e1_6
  have e2_9 : a2.eval (.tmp 9) = .int .i64 ((n : Nat) : Int) := by rw [h2, eval_put_ne _ _ _ _ (by decide)]; exact e1_9
  have e2_10 : a2.eval (.tmp 10) = .slice (some ⟨g, 0, none⟩) len cap := by rw [h2, eval_put_ne _ _ _ _ (by decide)]; exact e1_10
  have e2_21 : a2.eval (.tmp 21) = .agg (VN .u8 key) := by rw [h2, eval_put_ne _ _ _ _ (by decide)]; exact e1_21
  have e2_22 : a2.eval (.tmp 22) = .int .u32 ((c : Nat) : Int) := by rw [h2]; exact eval_put_eq _ _ _ (by rw [sz1]; decide)
  clear e1_1 e1_10 e1_21 e1_6 e1_9 sz1
  refine takeH (v := .agg (VN .u8 nonce)) opBk6_2 opBk6_ns (by kernel_rfl) (by kernel_rfl) HPN (fun w hw o ho => run_loadNonce hn.out ho e2_6 w hw.2) hH ?_
  refine wpAnyH_as (l' := #[true, true, true, false, false, false, false]) (by kernel_rfl) ?_
  obtain ⟨a3, h3⟩ : ∃ a' : Act, a' = a2.put (some 23) (.agg (VN .u8 nonce)) := ⟨_, rfl⟩
  rw [← h3]
  have sz3 : a3.tmps.size = 72 := by rw [h3, size_put]; exact sz2
  have e3_9 : a3.eval (.tmp 9) = .int .i64 ((n : Nat) : Int) := by rw [h3, eval_put_ne _ _ _ _ (by decide)]; exact e2_9
  have e3_10 : a3.eval (.tmp 10) = .slice (some ⟨g, 0, none⟩) len cap := by rw [h3, eval_put_ne _ _ _ _ (by decide)]; exact e2_10
  have e3_21 : a3.eval (.tmp 21) = .agg (VN .u8 key) := by rw [h3, eval_put_ne _ _ _ _ (by decide)]; exact e2_21
  have e3_22 : a3.eval (.tmp 22) = .int .u32 ((c : Nat) : Int) := by rw [h3, eval_put_ne _ _ _ _ (by decide)]; exact e2_22
  have e3_23 : a3.eval (.tmp 23) = .agg (VN .u8 nonce) := by rw [h3]; exact eval_put_eq _ _ _ (by rw [sz2]; decide)
  clear e2_10 e2_21 e2_22 e2_6 e2_9 sz2
  refine takeH (v := .slice (some ⟨g, 0, none⟩) len cap) opBk6_3 opBk6_ns (by kernel_rfl) (by kernel_rfl) HPN (fun w hw o ho => run_move ho e3_10 w) hH ?_
  refine wpAnyH_as (l' := #[true, true, true, true, false, false, false]) (by kernel_rfl) ?_
  obtain ⟨a4, h4⟩ : ∃ a' : Act, a' = a3.put (some 24) (.slice (some ⟨g, 0, none⟩) len cap) := ⟨_, rfl⟩
  rw [← h4]
  have sz4 : a4.tmps.size = 72 := by rw [h4, size_put]; exact sz3
  have e4_9 : a4.eval (.tmp 9) = .int .i64 ((n : Nat) : Int) := by rw [h4, eval_put_ne _ _ _ _ (by decide)]; exact e3_9
  have e4_21 : a4.eval (.tmp 21) = .agg (VN .u8 key) := by rw [h4, eval_put_ne _ _ _ _ (by decide)]; exact e3_21
  have e4_22 : a4.eval (.tmp 22) = .int .u32 ((c : Nat) : Int) := by rw [h4, eval_put_ne _ _ _ _ (by decide)]; exact e3_22
  have e4_23 : a4.eval (.tmp 23) = .agg (VN .u8 nonce) := by rw [h4, eval_put_ne _ _ _ _ (by decide)]; exact e3_23
  have e4_24 : a4.eval (.tmp 24) = .slice (some ⟨g, 0, none⟩) len cap := by rw [h4]; exact eval_put_eq _ _ _ (by rw [sz3]; decide)
  clear e3_10 e3_21 e3_22 e3_23 e3_9 sz3
  refine takeH (v := .int .i64 ((n : Nat) : Int)) opBk6_4 opBk6_ns (by kernel_rfl) (by kernel_rfl) HPN (fun w hw o ho => run_move ho e4_9 w) hH ?_
  refine wpAnyH_as (l' := #[true, true, true, true, true, false, false]) (by kernel_rfl) ?_
  obtain ⟨a5, h5⟩ : ∃ a' : Act, a' = a4.put (some 25) (.int .i64 ((n : Nat) : Int)) := ⟨_, rfl⟩
  rw [← h5]
  have sz5 : a5.tmps.size = 72 := by rw [h5, size_put]; exact sz4
  have e5_21 : a5.eval (.tmp 21) = .agg (VN .u8 key) := by rw [h5, eval_put_ne _ _ _ _ (by decide)]; exact e4_21
  have e5_22 : a5.eval (.tmp 22) = .int .u32 ((c : Nat) : Int) := by rw [h5, eval_put_ne _ _ _ _ (by decide)]; exact e4_22
  have e5_23 : a5.eval (.tmp 23) = .agg (VN .u8 nonce) := by rw [h5, eval_put_ne _ _ _ _ (by decide)]; exact e4_23
  have e5_24 : a5.eval (.tmp 24) = .slice (some ⟨g, 0, none⟩) len cap := by rw [h5, eval_put_ne _ _ _ _ (by decide)]; exact e4_24
  have e5_25 : a5.eval (.tmp 25) = .int .i64 ((n : Nat) : Int) := by rw [h5]; exact eval_put_eq _ _ _ (by rw [sz4]; decide)
  clear e4_21 e4_22 e4_23 e4_24 e4_9 sz4
  refine takeH (v := .slice (some ⟨g, 0, none⟩) n cap) opBk6_5 opBk6_ns (by kernel_rfl) (by kernel_rfl) HPN (fun w hw o ho => run_slicePre hA.out.1 hA.out.2 ho e5_24 e5_25 w) hH ?_
  refine wpAnyH_as (l' := #[true, true, true, true, true, true, false]) (by kernel_rfl) ?_
  obtain ⟨a6, h6⟩ : ∃ a' : Act, a' = a5.put (some 26) (.slice (some ⟨g, 0, none⟩) n cap) := ⟨_, rfl⟩
  rw [← h6]
  have sz6 : a6.tmps.size = 72 := by rw [h6, size_put]; exact sz5
  have e6_21 : a6.eval (.tmp 21) = .agg (VN .u8 key) := by rw [h6, eval_put_ne _ _ _ _ (by decide)]; exact e5_21
  have e6_22 : a6.eval (.tmp 22) = .int .u32 ((c : Nat) : Int) := by rw [h6, eval_put_ne _ _ _ _ (by decide)]; exact e5_22
  have e6_23 : a6.eval (.tmp 23) = .agg (VN .u8 nonce) := by rw [h6, eval_put_ne _ _ _ _ (by decide)]; exact e5_23
  have e6_26 : a6.eval (.tmp 26) = .slice (some ⟨g, 0, none⟩) n cap := by rw [h6]; exact eval_put_eq _ _ _ (by rw [sz5]; decide)
  clear e5_21 e5_22 e5_23 e5_24 e5_25 sz5
  refine readyH opBk6_6 (by kernel_rfl) (fun o ho hd => wpCall (v := .tuple #[]) ho hd (args := #[.pointer none, .agg (VN .u8 key), .int .u32 ((c : Nat) : Int), .agg (VN .u8 nonce), .slice (some ⟨g, 0, none⟩) n cap]) (by simp only [List.map_toArray, List.map_cons, List.map_nil, e6_21, e6_22, e6_23, e6_26] <;> rfl) (fun _ => rfl) HC.out (fun w1 hw1 => ?_))
  refine ⟨HSR w1 hw1, ?_⟩
  refine wpAnyH_as (l' := #[true, true, true, true, true, true, true]) (by kernel_rfl) ?_
  obtain ⟨a7, h7⟩ : ∃ a' : Act, a' = a6.put (some 27) (.tuple #[]) := ⟨_, rfl⟩
  rw [← h7]
  have sz7 : a7.tmps.size = 72 := by rw [h7, size_put]; exact sz6
  clear e6_21 e6_22 e6_23 e6_26 sz6
  refine wpAnyH_done (by kernel_rfl) ?_ _
  have hF : a7 = ⟨#[c0, .int .u32 ((c : Nat) : Int), c2, c3, .pointer (some ⟨q, 0, none⟩), c5, .pointer (some ⟨q + 1, 0, none⟩), c7, c8, .int .i64 ((n : Nat) : Int), .slice (some ⟨g, 0, none⟩) len cap, c11, c12, c13, c14, c15, c16, c17, c18, c19, c20, .agg (VN .u8 key), .int .u32 ((c : Nat) : Int), .agg (VN .u8 nonce), .slice (some ⟨g, 0, none⟩) len cap, .int .i64 ((n : Nat) : Int), .slice (some ⟨g, 0, none⟩) n cap, .tuple #[], c28, c29, c30, c31, c32, c33, c34, c35, c36, c37, c38, c39, c40, c41, c42, c43, c44, c45, c46, c47, c48, c49, c50, c51, c52, c53, c54, c55, c56, c57, c58, c59, c60, c61, c62, c63, c64, c65, c66, c67, c68, c69, c70, c71], []⟩ := by rw [h7, h6, h5, h4, h3, h2, h1, ha]; kernel_rfl
  rw [hF]
  exact H _ hw1
noncomputable def rgBk13 : Code := ((Try.f5.body.bind (findReg 13)).getD .skip)
noncomputable def opBk13 : Array Oper := opsOf rgBk13
theorem rgBk13_is : rgBk13 = .region 13 opBk13 true := by kernel_rfl
theorem opBk13_ns : Region.noSelect opBk13 = true := by kernel_rfl
theorem opBk13_0 : opIs opBk13 0 (.load 23 (.tmp 4)) (some 52) := by unfold opIs; kernel_rfl
theorem opBk13_1 : opIs opBk13 1 (.move (.tmp 1)) (some 53) := by unfold opIs; kernel_rfl
theorem opBk13_2 : opIs opBk13 2 (.load 26 (.tmp 6)) (some 54) := by unfold opIs; kernel_rfl
theorem opBk13_3 : opIs opBk13 3 (.move (.tmp 10)) (some 55) := by unfold opIs; kernel_rfl
theorem opBk13_4 : opIs opBk13 4 (.move (.tmp 9)) (some 56) := by unfold opIs; kernel_rfl
theorem opBk13_5 : opIs opBk13 5 (.slice 40 (.tmp 55) none (some (.tmp 56)) none) (some 57) := by unfold opIs; kernel_rfl
theorem opBk13_6 : opIs opBk13 6 (.call { callee := .value (.func 17), args := #[.const (.pointer none), .tmp 52, .tmp 53, .tmp 54, .tmp 57], argTypes := #[27, 23, 24, 26, 40] }) (some 58) := by unfold opIs; kernel_rfl
set_option maxRecDepth 100000 in
set_option maxHeartbeats 4000000 in
theorem Bk13 {Q : Exit → Act → World → Prop} {W : World} {R : World → Prop} {key nonce : List Nat} {c q g n len cap : Nat} {c0 c2 c3 c5 c7 c8 c11 c12 c13 c14 c15 c16 c17 c18 c19 c20 c21 c22 c23 c24 c25 c26 c27 c28 c29 c30 c31 c32 c33 c34 c35 c36 c37 c38 c39 c40 c41 c42 c43 c44 c45 c46 c47 c48 c49 c50 c51 c52 c53 c54 c55 c56 c57 c58 c59 c60 c61 c62 c63 c64 c65 c66 c67 c68 c69 c70 c71 : Value}
    (hk : Hid (key.length = 32)) (hn : Hid (nonce.length = 12))
    (hA : Hid (n ≤ cap ∧ 0 < cap))
    (HC : Hid (Calls Try.prog 17 #[.pointer none, .agg (VN .u8 key), .int .u32 ((c : Nat) : Int), .agg (VN .u8 nonce), .slice (some ⟨g, 0, none⟩) n cap] W.drew fun e w' => e = .returned (.tuple #[]) ∧ R w'))
    (HS : Hid ((fun Y : World => RK Y q key 23 ∧ RK Y (q + 1) nonce 26) W.drew))
    (HSR : ∀ w', R w' → (fun Y : World => RK Y q key 23 ∧ RK Y (q + 1) nonce 26) w')
    (HPN : ∀ c (a : Act) d v w, Q (.panic c) (a.put d v) w → Q (.panic c) a w)
    (H : ∀ W', R W' → Q .normal ⟨#[c0, .int .u32 ((c : Nat) : Int), c2, c3, .pointer (some ⟨q, 0, none⟩), c5, .pointer (some ⟨q + 1, 0, none⟩), c7, c8, .int .i64 ((n : Nat) : Int), .slice (some ⟨g, 0, none⟩) len cap, c11, c12, c13, c14, c15, c16, c17, c18, c19, c20, c21, c22, c23, c24, c25, c26, c27, c28, c29, c30, c31, c32, c33, c34, c35, c36, c37, c38, c39, c40, c41, c42, c43, c44, c45, c46, c47, c48, c49, c50, c51, .agg (VN .u8 key), .int .u32 ((c : Nat) : Int), .agg (VN .u8 nonce), .slice (some ⟨g, 0, none⟩) len cap, .int .i64 ((n : Nat) : Int), .slice (some ⟨g, 0, none⟩) n cap, .tuple #[], c59, c60, c61, c62, c63, c64, c65, c66, c67, c68, c69, c70, c71], []⟩ W') :
    Code.wp Try.prog rgBk13 Q ⟨#[c0, .int .u32 ((c : Nat) : Int), c2, c3, .pointer (some ⟨q, 0, none⟩), c5, .pointer (some ⟨q + 1, 0, none⟩), c7, c8, .int .i64 ((n : Nat) : Int), .slice (some ⟨g, 0, none⟩) len cap, c11, c12, c13, c14, c15, c16, c17, c18, c19, c20, c21, c22, c23, c24, c25, c26, c27, c28, c29, c30, c31, c32, c33, c34, c35, c36, c37, c38, c39, c40, c41, c42, c43, c44, c45, c46, c47, c48, c49, c50, c51, c52, c53, c54, c55, c56, c57, c58, c59, c60, c61, c62, c63, c64, c65, c66, c67, c68, c69, c70, c71], []⟩ W := by
  rw [rgBk13_is]
  refine wp_region_held_drew (S := fun Y : World => RK Y q key 23 ∧ RK Y (q + 1) nonce 26) (by kernel_rfl) HS.out (fun hH => ?_)
  obtain ⟨a0, ha⟩ : ∃ a : Act, a = ⟨#[c0, .int .u32 ((c : Nat) : Int), c2, c3, .pointer (some ⟨q, 0, none⟩), c5, .pointer (some ⟨q + 1, 0, none⟩), c7, c8, .int .i64 ((n : Nat) : Int), .slice (some ⟨g, 0, none⟩) len cap, c11, c12, c13, c14, c15, c16, c17, c18, c19, c20, c21, c22, c23, c24, c25, c26, c27, c28, c29, c30, c31, c32, c33, c34, c35, c36, c37, c38, c39, c40, c41, c42, c43, c44, c45, c46, c47, c48, c49, c50, c51, c52, c53, c54, c55, c56, c57, c58, c59, c60, c61, c62, c63, c64, c65, c66, c67, c68, c69, c70, c71], []⟩ := ⟨_, rfl⟩
  have sz0 : a0.tmps.size = 72 := by rw [ha]; kernel_rfl
  have e0_1 : a0.eval (.tmp 1) = .int .u32 ((c : Nat) : Int) := by rw [ha]; kernel_rfl
  have e0_4 : a0.eval (.tmp 4) = .pointer (some ⟨q, 0, none⟩) := by rw [ha]; kernel_rfl
  have e0_6 : a0.eval (.tmp 6) = .pointer (some ⟨q + 1, 0, none⟩) := by rw [ha]; kernel_rfl
  have e0_9 : a0.eval (.tmp 9) = .int .i64 ((n : Nat) : Int) := by rw [ha]; kernel_rfl
  have e0_10 : a0.eval (.tmp 10) = .slice (some ⟨g, 0, none⟩) len cap := by rw [ha]; kernel_rfl
  rw [← ha]
  refine wpAnyH_as (l' := #[false, false, false, false, false, false, false]) (by kernel_rfl) ?_
  refine takeH (v := .agg (VN .u8 key)) opBk13_0 opBk13_ns (by kernel_rfl) (by kernel_rfl) HPN (fun w hw o ho => run_loadKey hk.out ho e0_4 w hw.1) hH ?_
  refine wpAnyH_as (l' := #[true, false, false, false, false, false, false]) (by kernel_rfl) ?_
  obtain ⟨a1, h1⟩ : ∃ a' : Act, a' = a0.put (some 52) (.agg (VN .u8 key)) := ⟨_, rfl⟩
  rw [← h1]
  have sz1 : a1.tmps.size = 72 := by rw [h1, size_put]; exact sz0
  have e1_1 : a1.eval (.tmp 1) = .int .u32 ((c : Nat) : Int) := by rw [h1, eval_put_ne _ _ _ _ (by decide)]; exact e0_1
  have e1_6 : a1.eval (.tmp 6) = .pointer (some ⟨q + 1, 0, none⟩) := by rw [h1, eval_put_ne _ _ _ _ (by decide)]; exact e0_6
  have e1_9 : a1.eval (.tmp 9) = .int .i64 ((n : Nat) : Int) := by rw [h1, eval_put_ne _ _ _ _ (by decide)]; exact e0_9
  have e1_10 : a1.eval (.tmp 10) = .slice (some ⟨g, 0, none⟩) len cap := by rw [h1, eval_put_ne _ _ _ _ (by decide)]; exact e0_10
  have e1_52 : a1.eval (.tmp 52) = .agg (VN .u8 key) := by rw [h1]; exact eval_put_eq _ _ _ (by rw [sz0]; decide)
  clear e0_1 e0_10 e0_4 e0_6 e0_9 sz0
  refine takeH (v := .int .u32 ((c : Nat) : Int)) opBk13_1 opBk13_ns (by kernel_rfl) (by kernel_rfl) HPN (fun w hw o ho => run_move ho e1_1 w) hH ?_
  refine wpAnyH_as (l' := #[true, true, false, false, false, false, false]) (by kernel_rfl) ?_
  obtain ⟨a2, h2⟩ : ∃ a' : Act, a' = a1.put (some 53) (.int .u32 ((c : Nat) : Int)) := ⟨_, rfl⟩
  rw [← h2]
  have sz2 : a2.tmps.size = 72 := by rw [h2, size_put]; exact sz1
  have e2_6 : a2.eval (.tmp 6) = .pointer (some ⟨q + 1, 0, none⟩) := by rw [h2, eval_put_ne _ _ _ _ (by decide)]; exact e1_6
  have e2_9 : a2.eval (.tmp 9) = .int .i64 ((n : Nat) : Int) := by rw [h2, eval_put_ne _ _ _ _ (by decide)]; exact e1_9
  have e2_10 : a2.eval (.tmp 10) = .slice (some ⟨g, 0, none⟩) len cap := by rw [h2, eval_put_ne _ _ _ _ (by decide)]; exact e1_10
  have e2_52 : a2.eval (.tmp 52) = .agg (VN .u8 key) := by rw [h2, eval_put_ne _ _ _ _ (by decide)]; exact e1_52
  have e2_53 : a2.eval (.tmp 53) = .int .u32 ((c : Nat) : Int) := by rw [h2]; exact eval_put_eq _ _ _ (by rw [sz1]; decide)
  clear e1_1 e1_10 e1_52 e1_6 e1_9 sz1
  refine takeH (v := .agg (VN .u8 nonce)) opBk13_2 opBk13_ns (by kernel_rfl) (by kernel_rfl) HPN (fun w hw o ho => run_loadNonce hn.out ho e2_6 w hw.2) hH ?_
  refine wpAnyH_as (l' := #[true, true, true, false, false, false, false]) (by kernel_rfl) ?_
  obtain ⟨a3, h3⟩ : ∃ a' : Act, a' = a2.put (some 54) (.agg (VN .u8 nonce)) := ⟨_, rfl⟩
  rw [← h3]
  have sz3 : a3.tmps.size = 72 := by rw [h3, size_put]; exact sz2
  have e3_9 : a3.eval (.tmp 9) = .int .i64 ((n : Nat) : Int) := by rw [h3, eval_put_ne _ _ _ _ (by decide)]; exact e2_9
  have e3_10 : a3.eval (.tmp 10) = .slice (some ⟨g, 0, none⟩) len cap := by rw [h3, eval_put_ne _ _ _ _ (by decide)]; exact e2_10
  have e3_52 : a3.eval (.tmp 52) = .agg (VN .u8 key) := by rw [h3, eval_put_ne _ _ _ _ (by decide)]; exact e2_52
  have e3_53 : a3.eval (.tmp 53) = .int .u32 ((c : Nat) : Int) := by rw [h3, eval_put_ne _ _ _ _ (by decide)]; exact e2_53
  have e3_54 : a3.eval (.tmp 54) = .agg (VN .u8 nonce) := by rw [h3]; exact eval_put_eq _ _ _ (by rw [sz2]; decide)
  clear e2_10 e2_52 e2_53 e2_6 e2_9 sz2
  refine takeH (v := .slice (some ⟨g, 0, none⟩) len cap) opBk13_3 opBk13_ns (by kernel_rfl) (by kernel_rfl) HPN (fun w hw o ho => run_move ho e3_10 w) hH ?_
  refine wpAnyH_as (l' := #[true, true, true, true, false, false, false]) (by kernel_rfl) ?_
  obtain ⟨a4, h4⟩ : ∃ a' : Act, a' = a3.put (some 55) (.slice (some ⟨g, 0, none⟩) len cap) := ⟨_, rfl⟩
  rw [← h4]
  have sz4 : a4.tmps.size = 72 := by rw [h4, size_put]; exact sz3
  have e4_9 : a4.eval (.tmp 9) = .int .i64 ((n : Nat) : Int) := by rw [h4, eval_put_ne _ _ _ _ (by decide)]; exact e3_9
  have e4_52 : a4.eval (.tmp 52) = .agg (VN .u8 key) := by rw [h4, eval_put_ne _ _ _ _ (by decide)]; exact e3_52
  have e4_53 : a4.eval (.tmp 53) = .int .u32 ((c : Nat) : Int) := by rw [h4, eval_put_ne _ _ _ _ (by decide)]; exact e3_53
  have e4_54 : a4.eval (.tmp 54) = .agg (VN .u8 nonce) := by rw [h4, eval_put_ne _ _ _ _ (by decide)]; exact e3_54
  have e4_55 : a4.eval (.tmp 55) = .slice (some ⟨g, 0, none⟩) len cap := by rw [h4]; exact eval_put_eq _ _ _ (by rw [sz3]; decide)
  clear e3_10 e3_52 e3_53 e3_54 e3_9 sz3
  refine takeH (v := .int .i64 ((n : Nat) : Int)) opBk13_4 opBk13_ns (by kernel_rfl) (by kernel_rfl) HPN (fun w hw o ho => run_move ho e4_9 w) hH ?_
  refine wpAnyH_as (l' := #[true, true, true, true, true, false, false]) (by kernel_rfl) ?_
  obtain ⟨a5, h5⟩ : ∃ a' : Act, a' = a4.put (some 56) (.int .i64 ((n : Nat) : Int)) := ⟨_, rfl⟩
  rw [← h5]
  have sz5 : a5.tmps.size = 72 := by rw [h5, size_put]; exact sz4
  have e5_52 : a5.eval (.tmp 52) = .agg (VN .u8 key) := by rw [h5, eval_put_ne _ _ _ _ (by decide)]; exact e4_52
  have e5_53 : a5.eval (.tmp 53) = .int .u32 ((c : Nat) : Int) := by rw [h5, eval_put_ne _ _ _ _ (by decide)]; exact e4_53
  have e5_54 : a5.eval (.tmp 54) = .agg (VN .u8 nonce) := by rw [h5, eval_put_ne _ _ _ _ (by decide)]; exact e4_54
  have e5_55 : a5.eval (.tmp 55) = .slice (some ⟨g, 0, none⟩) len cap := by rw [h5, eval_put_ne _ _ _ _ (by decide)]; exact e4_55
  have e5_56 : a5.eval (.tmp 56) = .int .i64 ((n : Nat) : Int) := by rw [h5]; exact eval_put_eq _ _ _ (by rw [sz4]; decide)
  clear e4_52 e4_53 e4_54 e4_55 e4_9 sz4
  refine takeH (v := .slice (some ⟨g, 0, none⟩) n cap) opBk13_5 opBk13_ns (by kernel_rfl) (by kernel_rfl) HPN (fun w hw o ho => run_slicePre hA.out.1 hA.out.2 ho e5_55 e5_56 w) hH ?_
  refine wpAnyH_as (l' := #[true, true, true, true, true, true, false]) (by kernel_rfl) ?_
  obtain ⟨a6, h6⟩ : ∃ a' : Act, a' = a5.put (some 57) (.slice (some ⟨g, 0, none⟩) n cap) := ⟨_, rfl⟩
  rw [← h6]
  have sz6 : a6.tmps.size = 72 := by rw [h6, size_put]; exact sz5
  have e6_52 : a6.eval (.tmp 52) = .agg (VN .u8 key) := by rw [h6, eval_put_ne _ _ _ _ (by decide)]; exact e5_52
  have e6_53 : a6.eval (.tmp 53) = .int .u32 ((c : Nat) : Int) := by rw [h6, eval_put_ne _ _ _ _ (by decide)]; exact e5_53
  have e6_54 : a6.eval (.tmp 54) = .agg (VN .u8 nonce) := by rw [h6, eval_put_ne _ _ _ _ (by decide)]; exact e5_54
  have e6_57 : a6.eval (.tmp 57) = .slice (some ⟨g, 0, none⟩) n cap := by rw [h6]; exact eval_put_eq _ _ _ (by rw [sz5]; decide)
  clear e5_52 e5_53 e5_54 e5_55 e5_56 sz5
  refine readyH opBk13_6 (by kernel_rfl) (fun o ho hd => wpCall (v := .tuple #[]) ho hd (args := #[.pointer none, .agg (VN .u8 key), .int .u32 ((c : Nat) : Int), .agg (VN .u8 nonce), .slice (some ⟨g, 0, none⟩) n cap]) (by simp only [List.map_toArray, List.map_cons, List.map_nil, e6_52, e6_53, e6_54, e6_57] <;> rfl) (fun _ => rfl) HC.out (fun w1 hw1 => ?_))
  refine ⟨HSR w1 hw1, ?_⟩
  refine wpAnyH_as (l' := #[true, true, true, true, true, true, true]) (by kernel_rfl) ?_
  obtain ⟨a7, h7⟩ : ∃ a' : Act, a' = a6.put (some 58) (.tuple #[]) := ⟨_, rfl⟩
  rw [← h7]
  have sz7 : a7.tmps.size = 72 := by rw [h7, size_put]; exact sz6
  clear e6_52 e6_53 e6_54 e6_57 sz6
  refine wpAnyH_done (by kernel_rfl) ?_ _
  have hF : a7 = ⟨#[c0, .int .u32 ((c : Nat) : Int), c2, c3, .pointer (some ⟨q, 0, none⟩), c5, .pointer (some ⟨q + 1, 0, none⟩), c7, c8, .int .i64 ((n : Nat) : Int), .slice (some ⟨g, 0, none⟩) len cap, c11, c12, c13, c14, c15, c16, c17, c18, c19, c20, c21, c22, c23, c24, c25, c26, c27, c28, c29, c30, c31, c32, c33, c34, c35, c36, c37, c38, c39, c40, c41, c42, c43, c44, c45, c46, c47, c48, c49, c50, c51, .agg (VN .u8 key), .int .u32 ((c : Nat) : Int), .agg (VN .u8 nonce), .slice (some ⟨g, 0, none⟩) len cap, .int .i64 ((n : Nat) : Int), .slice (some ⟨g, 0, none⟩) n cap, .tuple #[], c59, c60, c61, c62, c63, c64, c65, c66, c67, c68, c69, c70, c71], []⟩ := by rw [h7, h6, h5, h4, h3, h2, h1, ha]; kernel_rfl
  rw [hF]
  exact H _ hw1
end Go.Proofs.Ytefnlaookmpbhaa
