import Derived.Test.YtefnlaookmpbhaaStrT
namespace Go.Proofs.Ytefnlaookmpbhaa
set_option linter.unusedSimpArgs false
set_option linter.unusedVariables false
open Go.ChangeShapes Go.WideShapes Go.ChangeAt Go.RowKit Go.Pin Go.Str
noncomputable def rgPc6 : Code := ((Try.f6.body.bind (findReg 6)).getD .skip)
noncomputable def opPc6 : Array Oper := opsOf rgPc6
theorem rgPc6_is : rgPc6 = .region 6 opPc6 true := by kernel_rfl
theorem opPc6_ns : Region.noSelect opPc6 = true := by kernel_rfl
theorem opPc6_0 : opIs opPc6 0 (.load 23 (.tmp 5)) (some 25) := by unfold opIs; kernel_rfl
theorem opPc6_1 : opIs opPc6 1 (.move (.tmp 1)) (some 26) := by unfold opIs; kernel_rfl
theorem opPc6_2 : opIs opPc6 2 (.load 26 (.tmp 7)) (some 27) := by unfold opIs; kernel_rfl
theorem opPc6_3 : opIs opPc6 3 (.move (.tmp 12)) (some 28) := by unfold opIs; kernel_rfl
theorem opPc6_4 : opIs opPc6 4 (.move (.tmp 11)) (some 29) := by unfold opIs; kernel_rfl
theorem opPc6_5 : opIs opPc6 5 (.slice 40 (.tmp 28) none (some (.tmp 29)) none) (some 30) := by unfold opIs; kernel_rfl
theorem opPc6_6 : opIs opPc6 6 (.call { callee := .value (.func 17), args := #[.const (.pointer none), .tmp 25, .tmp 26, .tmp 27, .tmp 30], argTypes := #[27, 23, 24, 26, 40] }) (some 31) := by unfold opIs; kernel_rfl
set_option maxRecDepth 100000 in
set_option maxHeartbeats 4000000 in
theorem Pc6 {Q : Exit → Act → World → Prop} {W : World} {R : World → Prop} {key nonce : List Nat} {c q g n len cap : Nat} {c0 c2 c3 c4 c6 c8 c9 c10 c13 c14 c15 c16 c17 c18 c19 c20 c21 c22 c23 c24 c25 c26 c27 c28 c29 c30 c31 c32 c33 c34 c35 c36 c37 c38 c39 c40 c41 c42 c43 c44 c45 c46 c47 c48 c49 c50 c51 c52 c53 c54 c55 c56 c57 c58 c59 c60 c61 c62 c63 c64 c65 c66 c67 c68 c69 c70 c71 c72 c73 c74 c75 c76 c77 c78 c79 c80 c81 c82 c83 c84 c85 c86 c87 c88 c89 c90 c91 c92 c93 c94 c95 c96 c97 c98 c99 : Value}
    (hk : Hid (key.length = 32)) (hn : Hid (nonce.length = 12))
    (hA : Hid (n ≤ cap ∧ 0 < cap))
    (HC : Hid (Calls Try.prog 17 #[.pointer none, .agg (VN .u8 key), .int .u32 ((c : Nat) : Int), .agg (VN .u8 nonce), .slice (some ⟨g, 0, none⟩) n cap] W.drew fun e w' => e = .returned (.tuple #[]) ∧ R w'))
    (HS : Hid ((fun Y : World => RK Y q key 23 ∧ RK Y (q + 1) nonce 26) W.drew))
    (HSR : ∀ w', R w' → (fun Y : World => RK Y q key 23 ∧ RK Y (q + 1) nonce 26) w')
    (HPN : ∀ c (a : Act) d v w, Q (.panic c) (a.put d v) w → Q (.panic c) a w)
    (H : ∀ W', R W' → Q .normal ⟨#[c0, .int .u32 ((c : Nat) : Int), c2, c3, c4, .pointer (some ⟨q, 0, none⟩), c6, .pointer (some ⟨q + 1, 0, none⟩), c8, c9, c10, .int .i64 ((n : Nat) : Int), .slice (some ⟨g, 0, none⟩) len cap, c13, c14, c15, c16, c17, c18, c19, c20, c21, c22, c23, c24, .agg (VN .u8 key), .int .u32 ((c : Nat) : Int), .agg (VN .u8 nonce), .slice (some ⟨g, 0, none⟩) len cap, .int .i64 ((n : Nat) : Int), .slice (some ⟨g, 0, none⟩) n cap, .tuple #[], c32, c33, c34, c35, c36, c37, c38, c39, c40, c41, c42, c43, c44, c45, c46, c47, c48, c49, c50, c51, c52, c53, c54, c55, c56, c57, c58, c59, c60, c61, c62, c63, c64, c65, c66, c67, c68, c69, c70, c71, c72, c73, c74, c75, c76, c77, c78, c79, c80, c81, c82, c83, c84, c85, c86, c87, c88, c89, c90, c91, c92, c93, c94, c95, c96, c97, c98, c99], []⟩ W') :
    Code.wp Try.prog rgPc6 Q ⟨#[c0, .int .u32 ((c : Nat) : Int), c2, c3, c4, .pointer (some ⟨q, 0, none⟩), c6, .pointer (some ⟨q + 1, 0, none⟩), c8, c9, c10, .int .i64 ((n : Nat) : Int), .slice (some ⟨g, 0, none⟩) len cap, c13, c14, c15, c16, c17, c18, c19, c20, c21, c22, c23, c24, c25, c26, c27, c28, c29, c30, c31, c32, c33, c34, c35, c36, c37, c38, c39, c40, c41, c42, c43, c44, c45, c46, c47, c48, c49, c50, c51, c52, c53, c54, c55, c56, c57, c58, c59, c60, c61, c62, c63, c64, c65, c66, c67, c68, c69, c70, c71, c72, c73, c74, c75, c76, c77, c78, c79, c80, c81, c82, c83, c84, c85, c86, c87, c88, c89, c90, c91, c92, c93, c94, c95, c96, c97, c98, c99], []⟩ W := by
  rw [rgPc6_is]
  refine wp_region_held_drew (S := fun Y : World => RK Y q key 23 ∧ RK Y (q + 1) nonce 26) (by kernel_rfl) HS.out (fun hH => ?_)
  obtain ⟨a0, ha⟩ : ∃ a : Act, a = ⟨#[c0, .int .u32 ((c : Nat) : Int), c2, c3, c4, .pointer (some ⟨q, 0, none⟩), c6, .pointer (some ⟨q + 1, 0, none⟩), c8, c9, c10, .int .i64 ((n : Nat) : Int), .slice (some ⟨g, 0, none⟩) len cap, c13, c14, c15, c16, c17, c18, c19, c20, c21, c22, c23, c24, c25, c26, c27, c28, c29, c30, c31, c32, c33, c34, c35, c36, c37, c38, c39, c40, c41, c42, c43, c44, c45, c46, c47, c48, c49, c50, c51, c52, c53, c54, c55, c56, c57, c58, c59, c60, c61, c62, c63, c64, c65, c66, c67, c68, c69, c70, c71, c72, c73, c74, c75, c76, c77, c78, c79, c80, c81, c82, c83, c84, c85, c86, c87, c88, c89, c90, c91, c92, c93, c94, c95, c96, c97, c98, c99], []⟩ := ⟨_, rfl⟩
  have sz0 : a0.tmps.size = 100 := by rw [ha]; kernel_rfl
  have e0_1 : a0.eval (.tmp 1) = .int .u32 ((c : Nat) : Int) := by rw [ha]; kernel_rfl
  have e0_5 : a0.eval (.tmp 5) = .pointer (some ⟨q, 0, none⟩) := by rw [ha]; kernel_rfl
  have e0_7 : a0.eval (.tmp 7) = .pointer (some ⟨q + 1, 0, none⟩) := by rw [ha]; kernel_rfl
  have e0_11 : a0.eval (.tmp 11) = .int .i64 ((n : Nat) : Int) := by rw [ha]; kernel_rfl
  have e0_12 : a0.eval (.tmp 12) = .slice (some ⟨g, 0, none⟩) len cap := by rw [ha]; kernel_rfl
  rw [← ha]
  refine wpAnyH_as (l' := #[false, false, false, false, false, false, false]) (by kernel_rfl) ?_
  refine takeH (v := .agg (VN .u8 key)) opPc6_0 opPc6_ns (by kernel_rfl) (by kernel_rfl) HPN (fun w hw o ho => run_loadKey hk.out ho e0_5 w hw.1) hH ?_
  refine wpAnyH_as (l' := #[true, false, false, false, false, false, false]) (by kernel_rfl) ?_
  obtain ⟨a1, h1⟩ : ∃ a' : Act, a' = a0.put (some 25) (.agg (VN .u8 key)) := ⟨_, rfl⟩
  rw [← h1]
  have sz1 : a1.tmps.size = 100 := by rw [h1, size_put]; exact sz0
  have e1_1 : a1.eval (.tmp 1) = .int .u32 ((c : Nat) : Int) := by rw [h1, eval_put_ne _ _ _ _ (by decide)]; exact e0_1
  have e1_7 : a1.eval (.tmp 7) = .pointer (some ⟨q + 1, 0, none⟩) := by rw [h1, eval_put_ne _ _ _ _ (by decide)]; exact e0_7
  have e1_11 : a1.eval (.tmp 11) = .int .i64 ((n : Nat) : Int) := by rw [h1, eval_put_ne _ _ _ _ (by decide)]; exact e0_11
  have e1_12 : a1.eval (.tmp 12) = .slice (some ⟨g, 0, none⟩) len cap := by rw [h1, eval_put_ne _ _ _ _ (by decide)]; exact e0_12
  have e1_25 : a1.eval (.tmp 25) = .agg (VN .u8 key) := by rw [h1]; exact eval_put_eq _ _ _ (by rw [sz0]; decide)
  clear e0_1 e0_11 e0_12 e0_5 e0_7 sz0
  refine takeH (v := .int .u32 ((c : Nat) : Int)) opPc6_1 opPc6_ns (by kernel_rfl) (by kernel_rfl) HPN (fun w hw o ho => run_move ho e1_1 w) hH ?_
  refine wpAnyH_as (l' := #[true, true, false, false, false, false, false]) (by kernel_rfl) ?_
  obtain ⟨a2, h2⟩ : ∃ a' : Act, a' = a1.put (some 26) (.int .u32 ((c : Nat) : Int)) := ⟨_, rfl⟩
  rw [← h2]
  have sz2 : a2.tmps.size = 100 := by rw [h2, size_put]; exact sz1
  have e2_7 : a2.eval (.tmp 7) = .pointer (some ⟨q + 1, 0, none⟩) := by rw [h2, eval_put_ne _ _ _ _ (by decide)]; exact e1_7
  have e2_11 : a2.eval (.tmp 11) = .int .i64 ((n : Nat) : Int) := by rw [h2, eval_put_ne _ _ _ _ (by decide)]; exact e1_11
  have e2_12 : a2.eval (.tmp 12) = .slice (some ⟨g, 0, none⟩) len cap := by rw [h2, eval_put_ne _ _ _ _ (by decide)]; exact e1_12
  have e2_25 : a2.eval (.tmp 25) = .agg (VN .u8 key) := by rw [h2, eval_put_ne _ _ _ _ (by decide)]; exact e1_25
  have e2_26 : a2.eval (.tmp 26) = .int .u32 ((c : Nat) : Int) := by rw [h2]; exact eval_put_eq _ _ _ (by rw [sz1]; decide)
  clear e1_1 e1_11 e1_12 e1_25 e1_7 sz1
  refine takeH (v := .agg (VN .u8 nonce)) opPc6_2 opPc6_ns (by kernel_rfl) (by kernel_rfl) HPN (fun w hw o ho => run_loadNonce hn.out ho e2_7 w hw.2) hH ?_
  refine wpAnyH_as (l' := #[true, true, true, false, false, false, false]) (by kernel_rfl) ?_
  obtain ⟨a3, h3⟩ : ∃ a' : Act, a' = a2.put (some 27) (.agg (VN .u8 nonce)) := ⟨_, rfl⟩
  rw [← h3]
  have sz3 : a3.tmps.size = 100 := by rw [h3, size_put]; exact sz2
  have e3_11 : a3.eval (.tmp 11) = .int .i64 ((n : Nat) : Int) := by rw [h3, eval_put_ne _ _ _ _ (by decide)]; exact e2_11
  have e3_12 : a3.eval (.tmp 12) = .slice (some ⟨g, 0, none⟩) len cap := by rw [h3, eval_put_ne _ _ _ _ (by decide)]; exact e2_12
  have e3_25 : a3.eval (.tmp 25) = .agg (VN .u8 key) := by rw [h3, eval_put_ne _ _ _ _ (by decide)]; exact e2_25
  have e3_26 : a3.eval (.tmp 26) = .int .u32 ((c : Nat) : Int) := by rw [h3, eval_put_ne _ _ _ _ (by decide)]; exact e2_26
  have e3_27 : a3.eval (.tmp 27) = .agg (VN .u8 nonce) := by rw [h3]; exact eval_put_eq _ _ _ (by rw [sz2]; decide)
  clear e2_11 e2_12 e2_25 e2_26 e2_7 sz2
  refine takeH (v := .slice (some ⟨g, 0, none⟩) len cap) opPc6_3 opPc6_ns (by kernel_rfl) (by kernel_rfl) HPN (fun w hw o ho => run_move ho e3_12 w) hH ?_
  refine wpAnyH_as (l' := #[true, true, true, true, false, false, false]) (by kernel_rfl) ?_
  obtain ⟨a4, h4⟩ : ∃ a' : Act, a' = a3.put (some 28) (.slice (some ⟨g, 0, none⟩) len cap) := ⟨_, rfl⟩
  rw [← h4]
  have sz4 : a4.tmps.size = 100 := by rw [h4, size_put]; exact sz3
  have e4_11 : a4.eval (.tmp 11) = .int .i64 ((n : Nat) : Int) := by rw [h4, eval_put_ne _ _ _ _ (by decide)]; exact e3_11
  have e4_25 : a4.eval (.tmp 25) = .agg (VN .u8 key) := by rw [h4, eval_put_ne _ _ _ _ (by decide)]; exact e3_25
  have e4_26 : a4.eval (.tmp 26) = .int .u32 ((c : Nat) : Int) := by rw [h4, eval_put_ne _ _ _ _ (by decide)]; exact e3_26
  have e4_27 : a4.eval (.tmp 27) = .agg (VN .u8 nonce) := by rw [h4, eval_put_ne _ _ _ _ (by decide)]; exact e3_27
  have e4_28 : a4.eval (.tmp 28) = .slice (some ⟨g, 0, none⟩) len cap := by rw [h4]; exact eval_put_eq _ _ _ (by rw [sz3]; decide)
  clear e3_11 e3_12 e3_25 e3_26 e3_27 sz3
  refine takeH (v := .int .i64 ((n : Nat) : Int)) opPc6_4 opPc6_ns (by kernel_rfl) (by kernel_rfl) HPN (fun w hw o ho => run_move ho e4_11 w) hH ?_
  refine wpAnyH_as (l' := #[true, true, true, true, true, false, false]) (by kernel_rfl) ?_
  obtain ⟨a5, h5⟩ : ∃ a' : Act, a' = a4.put (some 29) (.int .i64 ((n : Nat) : Int)) := ⟨_, rfl⟩
  rw [← h5]
  have sz5 : a5.tmps.size = 100 := by rw [h5, size_put]; exact sz4
  have e5_25 : a5.eval (.tmp 25) = .agg (VN .u8 key) := by rw [h5, eval_put_ne _ _ _ _ (by decide)]; exact e4_25
  have e5_26 : a5.eval (.tmp 26) = .int .u32 ((c : Nat) : Int) := by rw [h5, eval_put_ne _ _ _ _ (by decide)]; exact e4_26
  have e5_27 : a5.eval (.tmp 27) = .agg (VN .u8 nonce) := by rw [h5, eval_put_ne _ _ _ _ (by decide)]; exact e4_27
  have e5_28 : a5.eval (.tmp 28) = .slice (some ⟨g, 0, none⟩) len cap := by rw [h5, eval_put_ne _ _ _ _ (by decide)]; exact e4_28
  have e5_29 : a5.eval (.tmp 29) = .int .i64 ((n : Nat) : Int) := by rw [h5]; exact eval_put_eq _ _ _ (by rw [sz4]; decide)
  clear e4_11 e4_25 e4_26 e4_27 e4_28 sz4
  refine takeH (v := .slice (some ⟨g, 0, none⟩) n cap) opPc6_5 opPc6_ns (by kernel_rfl) (by kernel_rfl) HPN (fun w hw o ho => run_slicePre hA.out.1 hA.out.2 ho e5_28 e5_29 w) hH ?_
  refine wpAnyH_as (l' := #[true, true, true, true, true, true, false]) (by kernel_rfl) ?_
  obtain ⟨a6, h6⟩ : ∃ a' : Act, a' = a5.put (some 30) (.slice (some ⟨g, 0, none⟩) n cap) := ⟨_, rfl⟩
  rw [← h6]
  have sz6 : a6.tmps.size = 100 := by rw [h6, size_put]; exact sz5
  have e6_25 : a6.eval (.tmp 25) = .agg (VN .u8 key) := by rw [h6, eval_put_ne _ _ _ _ (by decide)]; exact e5_25
  have e6_26 : a6.eval (.tmp 26) = .int .u32 ((c : Nat) : Int) := by rw [h6, eval_put_ne _ _ _ _ (by decide)]; exact e5_26
  have e6_27 : a6.eval (.tmp 27) = .agg (VN .u8 nonce) := by rw [h6, eval_put_ne _ _ _ _ (by decide)]; exact e5_27
  have e6_30 : a6.eval (.tmp 30) = .slice (some ⟨g, 0, none⟩) n cap := by rw [h6]; exact eval_put_eq _ _ _ (by rw [sz5]; decide)
  clear e5_25 e5_26 e5_27 e5_28 e5_29 sz5
  refine readyH opPc6_6 (by kernel_rfl) (fun o ho hd => wpCall (v := .tuple #[]) ho hd (args := #[.pointer none, .agg (VN .u8 key), .int .u32 ((c : Nat) : Int), .agg (VN .u8 nonce), .slice (some ⟨g, 0, none⟩) n cap]) (by simp only [List.map_toArray, List.map_cons, List.map_nil, e6_25, e6_26, e6_27, e6_30] <;> rfl) (fun _ => rfl) HC.out (fun w1 hw1 => ?_))
  refine ⟨HSR w1 hw1, ?_⟩
  refine wpAnyH_as (l' := #[true, true, true, true, true, true, true]) (by kernel_rfl) ?_
  obtain ⟨a7, h7⟩ : ∃ a' : Act, a' = a6.put (some 31) (.tuple #[]) := ⟨_, rfl⟩
  rw [← h7]
  have sz7 : a7.tmps.size = 100 := by rw [h7, size_put]; exact sz6
  clear e6_25 e6_26 e6_27 e6_30 sz6
  refine wpAnyH_done (by kernel_rfl) ?_ _
  have hF : a7 = ⟨#[c0, .int .u32 ((c : Nat) : Int), c2, c3, c4, .pointer (some ⟨q, 0, none⟩), c6, .pointer (some ⟨q + 1, 0, none⟩), c8, c9, c10, .int .i64 ((n : Nat) : Int), .slice (some ⟨g, 0, none⟩) len cap, c13, c14, c15, c16, c17, c18, c19, c20, c21, c22, c23, c24, .agg (VN .u8 key), .int .u32 ((c : Nat) : Int), .agg (VN .u8 nonce), .slice (some ⟨g, 0, none⟩) len cap, .int .i64 ((n : Nat) : Int), .slice (some ⟨g, 0, none⟩) n cap, .tuple #[], c32, c33, c34, c35, c36, c37, c38, c39, c40, c41, c42, c43, c44, c45, c46, c47, c48, c49, c50, c51, c52, c53, c54, c55, c56, c57, c58, c59, c60, c61, c62, c63, c64, c65, c66, c67, c68, c69, c70, c71, c72, c73, c74, c75, c76, c77, c78, c79, c80, c81, c82, c83, c84, c85, c86, c87, c88, c89, c90, c91, c92, c93, c94, c95, c96, c97, c98, c99], []⟩ := by rw [h7, h6, h5, h4, h3, h2, h1, ha]; kernel_rfl
  rw [hF]
  exact H _ hw1
noncomputable def rgPc13 : Code := ((Try.f6.body.bind (findReg 13)).getD .skip)
noncomputable def opPc13 : Array Oper := opsOf rgPc13
theorem rgPc13_is : rgPc13 = .region 13 opPc13 true := by kernel_rfl
theorem opPc13_ns : Region.noSelect opPc13 = true := by kernel_rfl
theorem opPc13_0 : opIs opPc13 0 (.load 23 (.tmp 5)) (some 65) := by unfold opIs; kernel_rfl
theorem opPc13_1 : opIs opPc13 1 (.move (.tmp 1)) (some 66) := by unfold opIs; kernel_rfl
theorem opPc13_2 : opIs opPc13 2 (.load 26 (.tmp 7)) (some 67) := by unfold opIs; kernel_rfl
theorem opPc13_3 : opIs opPc13 3 (.move (.tmp 13)) (some 68) := by unfold opIs; kernel_rfl
theorem opPc13_4 : opIs opPc13 4 (.move (.tmp 14)) (some 69) := by unfold opIs; kernel_rfl
theorem opPc13_5 : opIs opPc13 5 (.move (.tmp 16)) (some 70) := by unfold opIs; kernel_rfl
theorem opPc13_6 : opIs opPc13 6 (.slice 40 (.tmp 68) (some (.tmp 69)) (some (.tmp 70)) none) (some 71) := by unfold opIs; kernel_rfl
theorem opPc13_7 : opIs opPc13 7 (.call { callee := .value (.func 17), args := #[.const (.pointer none), .tmp 65, .tmp 66, .tmp 67, .tmp 71], argTypes := #[27, 23, 24, 26, 40] }) (some 72) := by unfold opIs; kernel_rfl
set_option maxRecDepth 100000 in
set_option maxHeartbeats 4000000 in
theorem Pc13 {Q : Exit → Act → World → Prop} {W : World} {R : World → Prop} {key nonce : List Nat} {c q g lo hi len cap : Nat} {c0 c2 c3 c4 c6 c8 c9 c10 c11 c12 c15 c17 c18 c19 c20 c21 c22 c23 c24 c25 c26 c27 c28 c29 c30 c31 c32 c33 c34 c35 c36 c37 c38 c39 c40 c41 c42 c43 c44 c45 c46 c47 c48 c49 c50 c51 c52 c53 c54 c55 c56 c57 c58 c59 c60 c61 c62 c63 c64 c65 c66 c67 c68 c69 c70 c71 c72 c73 c74 c75 c76 c77 c78 c79 c80 c81 c82 c83 c84 c85 c86 c87 c88 c89 c90 c91 c92 c93 c94 c95 c96 c97 c98 c99 : Value}
    (hk : Hid (key.length = 32)) (hn : Hid (nonce.length = 12))
    (hA : Hid (lo ≤ hi ∧ hi ≤ cap ∧ lo < cap))
    (HC : Hid (Calls Try.prog 17 #[.pointer none, .agg (VN .u8 key), .int .u32 ((c : Nat) : Int), .agg (VN .u8 nonce), .slice (some ⟨g, lo, none⟩) (hi - lo) (cap - lo)] W.drew fun e w' => e = .returned (.tuple #[]) ∧ R w'))
    (HS : Hid ((fun Y : World => RK Y q key 23 ∧ RK Y (q + 1) nonce 26) W.drew))
    (HSR : ∀ w', R w' → (fun Y : World => RK Y q key 23 ∧ RK Y (q + 1) nonce 26) w')
    (HPN : ∀ c (a : Act) d v w, Q (.panic c) (a.put d v) w → Q (.panic c) a w)
    (H : ∀ W', R W' → Q .normal ⟨#[c0, .int .u32 ((c : Nat) : Int), c2, c3, c4, .pointer (some ⟨q, 0, none⟩), c6, .pointer (some ⟨q + 1, 0, none⟩), c8, c9, c10, c11, c12, .slice (some ⟨g, 0, none⟩) len cap, .int .i64 ((lo : Nat) : Int), c15, .int .i64 ((hi : Nat) : Int), c17, c18, c19, c20, c21, c22, c23, c24, c25, c26, c27, c28, c29, c30, c31, c32, c33, c34, c35, c36, c37, c38, c39, c40, c41, c42, c43, c44, c45, c46, c47, c48, c49, c50, c51, c52, c53, c54, c55, c56, c57, c58, c59, c60, c61, c62, c63, c64, .agg (VN .u8 key), .int .u32 ((c : Nat) : Int), .agg (VN .u8 nonce), .slice (some ⟨g, 0, none⟩) len cap, .int .i64 ((lo : Nat) : Int), .int .i64 ((hi : Nat) : Int), .slice (some ⟨g, lo, none⟩) (hi - lo) (cap - lo), .tuple #[], c73, c74, c75, c76, c77, c78, c79, c80, c81, c82, c83, c84, c85, c86, c87, c88, c89, c90, c91, c92, c93, c94, c95, c96, c97, c98, c99], []⟩ W') :
    Code.wp Try.prog rgPc13 Q ⟨#[c0, .int .u32 ((c : Nat) : Int), c2, c3, c4, .pointer (some ⟨q, 0, none⟩), c6, .pointer (some ⟨q + 1, 0, none⟩), c8, c9, c10, c11, c12, .slice (some ⟨g, 0, none⟩) len cap, .int .i64 ((lo : Nat) : Int), c15, .int .i64 ((hi : Nat) : Int), c17, c18, c19, c20, c21, c22, c23, c24, c25, c26, c27, c28, c29, c30, c31, c32, c33, c34, c35, c36, c37, c38, c39, c40, c41, c42, c43, c44, c45, c46, c47, c48, c49, c50, c51, c52, c53, c54, c55, c56, c57, c58, c59, c60, c61, c62, c63, c64, c65, c66, c67, c68, c69, c70, c71, c72, c73, c74, c75, c76, c77, c78, c79, c80, c81, c82, c83, c84, c85, c86, c87, c88, c89, c90, c91, c92, c93, c94, c95, c96, c97, c98, c99], []⟩ W := by
  rw [rgPc13_is]
  refine wp_region_held_drew (S := fun Y : World => RK Y q key 23 ∧ RK Y (q + 1) nonce 26) (by kernel_rfl) HS.out (fun hH => ?_)
  obtain ⟨a0, ha⟩ : ∃ a : Act, a = ⟨#[c0, .int .u32 ((c : Nat) : Int), c2, c3, c4, .pointer (some ⟨q, 0, none⟩), c6, .pointer (some ⟨q + 1, 0, none⟩), c8, c9, c10, c11, c12, .slice (some ⟨g, 0, none⟩) len cap, .int .i64 ((lo : Nat) : Int), c15, .int .i64 ((hi : Nat) : Int), c17, c18, c19, c20, c21, c22, c23, c24, c25, c26, c27, c28, c29, c30, c31, c32, c33, c34, c35, c36, c37, c38, c39, c40, c41, c42, c43, c44, c45, c46, c47, c48, c49, c50, c51, c52, c53, c54, c55, c56, c57, c58, c59, c60, c61, c62, c63, c64, c65, c66, c67, c68, c69, c70, c71, c72, c73, c74, c75, c76, c77, c78, c79, c80, c81, c82, c83, c84, c85, c86, c87, c88, c89, c90, c91, c92, c93, c94, c95, c96, c97, c98, c99], []⟩ := ⟨_, rfl⟩
  have sz0 : a0.tmps.size = 100 := by rw [ha]; kernel_rfl
  have e0_1 : a0.eval (.tmp 1) = .int .u32 ((c : Nat) : Int) := by rw [ha]; kernel_rfl
  have e0_5 : a0.eval (.tmp 5) = .pointer (some ⟨q, 0, none⟩) := by rw [ha]; kernel_rfl
  have e0_7 : a0.eval (.tmp 7) = .pointer (some ⟨q + 1, 0, none⟩) := by rw [ha]; kernel_rfl
  have e0_13 : a0.eval (.tmp 13) = .slice (some ⟨g, 0, none⟩) len cap := by rw [ha]; kernel_rfl
  have e0_14 : a0.eval (.tmp 14) = .int .i64 ((lo : Nat) : Int) := by rw [ha]; kernel_rfl
  have e0_16 : a0.eval (.tmp 16) = .int .i64 ((hi : Nat) : Int) := by rw [ha]; kernel_rfl
  rw [← ha]
  refine wpAnyH_as (l' := #[false, false, false, false, false, false, false, false]) (by kernel_rfl) ?_
  refine takeH (v := .agg (VN .u8 key)) opPc13_0 opPc13_ns (by kernel_rfl) (by kernel_rfl) HPN (fun w hw o ho => run_loadKey hk.out ho e0_5 w hw.1) hH ?_
  refine wpAnyH_as (l' := #[true, false, false, false, false, false, false, false]) (by kernel_rfl) ?_
  obtain ⟨a1, h1⟩ : ∃ a' : Act, a' = a0.put (some 65) (.agg (VN .u8 key)) := ⟨_, rfl⟩
  rw [← h1]
  have sz1 : a1.tmps.size = 100 := by rw [h1, size_put]; exact sz0
  have e1_1 : a1.eval (.tmp 1) = .int .u32 ((c : Nat) : Int) := by rw [h1, eval_put_ne _ _ _ _ (by decide)]; exact e0_1
  have e1_7 : a1.eval (.tmp 7) = .pointer (some ⟨q + 1, 0, none⟩) := by rw [h1, eval_put_ne _ _ _ _ (by decide)]; exact e0_7
  have e1_13 : a1.eval (.tmp 13) = .slice (some ⟨g, 0, none⟩) len cap := by rw [h1, eval_put_ne _ _ _ _ (by decide)]; exact e0_13
  have e1_14 : a1.eval (.tmp 14) = .int .i64 ((lo : Nat) : Int) := by rw [h1, eval_put_ne _ _ _ _ (by decide)]; exact e0_14
  have e1_16 : a1.eval (.tmp 16) = .int .i64 ((hi : Nat) : Int) := by rw [h1, eval_put_ne _ _ _ _ (by decide)]; exact e0_16
  have e1_65 : a1.eval (.tmp 65) = .agg (VN .u8 key) := by rw [h1]; exact eval_put_eq _ _ _ (by rw [sz0]; decide)
  clear e0_1 e0_13 e0_14 e0_16 e0_5 e0_7 sz0
  refine takeH (v := .int .u32 ((c : Nat) : Int)) opPc13_1 opPc13_ns (by kernel_rfl) (by kernel_rfl) HPN (fun w hw o ho => run_move ho e1_1 w) hH ?_
  refine wpAnyH_as (l' := #[true, true, false, false, false, false, false, false]) (by kernel_rfl) ?_
  obtain ⟨a2, h2⟩ : ∃ a' : Act, a' = a1.put (some 66) (.int .u32 ((c : Nat) : Int)) := ⟨_, rfl⟩
  rw [← h2]
  have sz2 : a2.tmps.size = 100 := by rw [h2, size_put]; exact sz1
  have e2_7 : a2.eval (.tmp 7) = .pointer (some ⟨q + 1, 0, none⟩) := by rw [h2, eval_put_ne _ _ _ _ (by decide)]; exact e1_7
  have e2_13 : a2.eval (.tmp 13) = .slice (some ⟨g, 0, none⟩) len cap := by rw [h2, eval_put_ne _ _ _ _ (by decide)]; exact e1_13
  have e2_14 : a2.eval (.tmp 14) = .int .i64 ((lo : Nat) : Int) := by rw [h2, eval_put_ne _ _ _ _ (by decide)]; exact e1_14
  have e2_16 : a2.eval (.tmp 16) = .int .i64 ((hi : Nat) : Int) := by rw [h2, eval_put_ne _ _ _ _ (by decide)]; exact e1_16
  have e2_65 : a2.eval (.tmp 65) = .agg (VN .u8 key) := by rw [h2, eval_put_ne _ _ _ _ (by decide)]; exact e1_65
  have e2_66 : a2.eval (.tmp 66) = .int .u32 ((c : Nat) : Int) := by rw [h2]; exact eval_put_eq _ _ _ (by rw [sz1]; decide)
  clear e1_1 e1_13 e1_14 e1_16 e1_65 e1_7 sz1
  refine takeH (v := .agg (VN .u8 nonce)) opPc13_2 opPc13_ns (by kernel_rfl) (by kernel_rfl) HPN (fun w hw o ho => run_loadNonce hn.out ho e2_7 w hw.2) hH ?_
  refine wpAnyH_as (l' := #[true, true, true, false, false, false, false, false]) (by kernel_rfl) ?_
  obtain ⟨a3, h3⟩ : ∃ a' : Act, a' = a2.put (some 67) (.agg (VN .u8 nonce)) := ⟨_, rfl⟩
  rw [← h3]
  have sz3 : a3.tmps.size = 100 := by rw [h3, size_put]; exact sz2
  have e3_13 : a3.eval (.tmp 13) = .slice (some ⟨g, 0, none⟩) len cap := by rw [h3, eval_put_ne _ _ _ _ (by decide)]; exact e2_13
  have e3_14 : a3.eval (.tmp 14) = .int .i64 ((lo : Nat) : Int) := by rw [h3, eval_put_ne _ _ _ _ (by decide)]; exact e2_14
  have e3_16 : a3.eval (.tmp 16) = .int .i64 ((hi : Nat) : Int) := by rw [h3, eval_put_ne _ _ _ _ (by decide)]; exact e2_16
  have e3_65 : a3.eval (.tmp 65) = .agg (VN .u8 key) := by rw [h3, eval_put_ne _ _ _ _ (by decide)]; exact e2_65
  have e3_66 : a3.eval (.tmp 66) = .int .u32 ((c : Nat) : Int) := by rw [h3, eval_put_ne _ _ _ _ (by decide)]; exact e2_66
  have e3_67 : a3.eval (.tmp 67) = .agg (VN .u8 nonce) := by rw [h3]; exact eval_put_eq _ _ _ (by rw [sz2]; decide)
  clear e2_13 e2_14 e2_16 e2_65 e2_66 e2_7 sz2
  refine takeH (v := .slice (some ⟨g, 0, none⟩) len cap) opPc13_3 opPc13_ns (by kernel_rfl) (by kernel_rfl) HPN (fun w hw o ho => run_move ho e3_13 w) hH ?_
  refine wpAnyH_as (l' := #[true, true, true, true, false, false, false, false]) (by kernel_rfl) ?_
  obtain ⟨a4, h4⟩ : ∃ a' : Act, a' = a3.put (some 68) (.slice (some ⟨g, 0, none⟩) len cap) := ⟨_, rfl⟩
  rw [← h4]
  have sz4 : a4.tmps.size = 100 := by rw [h4, size_put]; exact sz3
  have e4_14 : a4.eval (.tmp 14) = .int .i64 ((lo : Nat) : Int) := by rw [h4, eval_put_ne _ _ _ _ (by decide)]; exact e3_14
  have e4_16 : a4.eval (.tmp 16) = .int .i64 ((hi : Nat) : Int) := by rw [h4, eval_put_ne _ _ _ _ (by decide)]; exact e3_16
  have e4_65 : a4.eval (.tmp 65) = .agg (VN .u8 key) := by rw [h4, eval_put_ne _ _ _ _ (by decide)]; exact e3_65
  have e4_66 : a4.eval (.tmp 66) = .int .u32 ((c : Nat) : Int) := by rw [h4, eval_put_ne _ _ _ _ (by decide)]; exact e3_66
  have e4_67 : a4.eval (.tmp 67) = .agg (VN .u8 nonce) := by rw [h4, eval_put_ne _ _ _ _ (by decide)]; exact e3_67
  have e4_68 : a4.eval (.tmp 68) = .slice (some ⟨g, 0, none⟩) len cap := by rw [h4]; exact eval_put_eq _ _ _ (by rw [sz3]; decide)
  clear e3_13 e3_14 e3_16 e3_65 e3_66 e3_67 sz3
  refine takeH (v := .int .i64 ((lo : Nat) : Int)) opPc13_4 opPc13_ns (by kernel_rfl) (by kernel_rfl) HPN (fun w hw o ho => run_move ho e4_14 w) hH ?_
  refine wpAnyH_as (l' := #[true, true, true, true, true, false, false, false]) (by kernel_rfl) ?_
  obtain ⟨a5, h5⟩ : ∃ a' : Act, a' = a4.put (some 69) (.int .i64 ((lo : Nat) : Int)) := ⟨_, rfl⟩
  rw [← h5]
  have sz5 : a5.tmps.size = 100 := by rw [h5, size_put]; exact sz4
  have e5_16 : a5.eval (.tmp 16) = .int .i64 ((hi : Nat) : Int) := by rw [h5, eval_put_ne _ _ _ _ (by decide)]; exact e4_16
  have e5_65 : a5.eval (.tmp 65) = .agg (VN .u8 key) := by rw [h5, eval_put_ne _ _ _ _ (by decide)]; exact e4_65
  have e5_66 : a5.eval (.tmp 66) = .int .u32 ((c : Nat) : Int) := by rw [h5, eval_put_ne _ _ _ _ (by decide)]; exact e4_66
  have e5_67 : a5.eval (.tmp 67) = .agg (VN .u8 nonce) := by rw [h5, eval_put_ne _ _ _ _ (by decide)]; exact e4_67
  have e5_68 : a5.eval (.tmp 68) = .slice (some ⟨g, 0, none⟩) len cap := by rw [h5, eval_put_ne _ _ _ _ (by decide)]; exact e4_68
  have e5_69 : a5.eval (.tmp 69) = .int .i64 ((lo : Nat) : Int) := by rw [h5]; exact eval_put_eq _ _ _ (by rw [sz4]; decide)
  clear e4_14 e4_16 e4_65 e4_66 e4_67 e4_68 sz4
  refine takeH (v := .int .i64 ((hi : Nat) : Int)) opPc13_5 opPc13_ns (by kernel_rfl) (by kernel_rfl) HPN (fun w hw o ho => run_move ho e5_16 w) hH ?_
  refine wpAnyH_as (l' := #[true, true, true, true, true, true, false, false]) (by kernel_rfl) ?_
  obtain ⟨a6, h6⟩ : ∃ a' : Act, a' = a5.put (some 70) (.int .i64 ((hi : Nat) : Int)) := ⟨_, rfl⟩
  rw [← h6]
  have sz6 : a6.tmps.size = 100 := by rw [h6, size_put]; exact sz5
  have e6_65 : a6.eval (.tmp 65) = .agg (VN .u8 key) := by rw [h6, eval_put_ne _ _ _ _ (by decide)]; exact e5_65
  have e6_66 : a6.eval (.tmp 66) = .int .u32 ((c : Nat) : Int) := by rw [h6, eval_put_ne _ _ _ _ (by decide)]; exact e5_66
  have e6_67 : a6.eval (.tmp 67) = .agg (VN .u8 nonce) := by rw [h6, eval_put_ne _ _ _ _ (by decide)]; exact e5_67
  have e6_68 : a6.eval (.tmp 68) = .slice (some ⟨g, 0, none⟩) len cap := by rw [h6, eval_put_ne _ _ _ _ (by decide)]; exact e5_68
  have e6_69 : a6.eval (.tmp 69) = .int .i64 ((lo : Nat) : Int) := by rw [h6, eval_put_ne _ _ _ _ (by decide)]; exact e5_69
  have e6_70 : a6.eval (.tmp 70) = .int .i64 ((hi : Nat) : Int) := by rw [h6]; exact eval_put_eq _ _ _ (by rw [sz5]; decide)
  clear e5_16 e5_65 e5_66 e5_67 e5_68 e5_69 sz5
  refine takeH (v := .slice (some ⟨g, lo, none⟩) (hi - lo) (cap - lo)) opPc13_6 opPc13_ns (by kernel_rfl) (by kernel_rfl) HPN (fun w hw o ho => run_sliceMid hA.out.1 hA.out.2.1 hA.out.2.2 ho e6_68 e6_69 e6_70 w) hH ?_
  refine wpAnyH_as (l' := #[true, true, true, true, true, true, true, false]) (by kernel_rfl) ?_
  obtain ⟨a7, h7⟩ : ∃ a' : Act, a' = a6.put (some 71) (.slice (some ⟨g, lo, none⟩) (hi - lo) (cap - lo)) := ⟨_, rfl⟩
  rw [← h7]
  have sz7 : a7.tmps.size = 100 := by rw [h7, size_put]; exact sz6
  have e7_65 : a7.eval (.tmp 65) = .agg (VN .u8 key) := by rw [h7, eval_put_ne _ _ _ _ (by decide)]; exact e6_65
  have e7_66 : a7.eval (.tmp 66) = .int .u32 ((c : Nat) : Int) := by rw [h7, eval_put_ne _ _ _ _ (by decide)]; exact e6_66
  have e7_67 : a7.eval (.tmp 67) = .agg (VN .u8 nonce) := by rw [h7, eval_put_ne _ _ _ _ (by decide)]; exact e6_67
  have e7_71 : a7.eval (.tmp 71) = .slice (some ⟨g, lo, none⟩) (hi - lo) (cap - lo) := by rw [h7]; exact eval_put_eq _ _ _ (by rw [sz6]; decide)
  clear e6_65 e6_66 e6_67 e6_68 e6_69 e6_70 sz6
  refine readyH opPc13_7 (by kernel_rfl) (fun o ho hd => wpCall (v := .tuple #[]) ho hd (args := #[.pointer none, .agg (VN .u8 key), .int .u32 ((c : Nat) : Int), .agg (VN .u8 nonce), .slice (some ⟨g, lo, none⟩) (hi - lo) (cap - lo)]) (by simp only [List.map_toArray, List.map_cons, List.map_nil, e7_65, e7_66, e7_67, e7_71] <;> rfl) (fun _ => rfl) HC.out (fun w1 hw1 => ?_))
  refine ⟨HSR w1 hw1, ?_⟩
  refine wpAnyH_as (l' := #[true, true, true, true, true, true, true, true]) (by kernel_rfl) ?_
  obtain ⟨a8, h8⟩ : ∃ a' : Act, a' = a7.put (some 72) (.tuple #[]) := ⟨_, rfl⟩
  rw [← h8]
  have sz8 : a8.tmps.size = 100 := by rw [h8, size_put]; exact sz7
  clear e7_65 e7_66 e7_67 e7_71 sz7
  refine wpAnyH_done (by kernel_rfl) ?_ _
  have hF : a8 = ⟨#[c0, .int .u32 ((c : Nat) : Int), c2, c3, c4, .pointer (some ⟨q, 0, none⟩), c6, .pointer (some ⟨q + 1, 0, none⟩), c8, c9, c10, c11, c12, .slice (some ⟨g, 0, none⟩) len cap, .int .i64 ((lo : Nat) : Int), c15, .int .i64 ((hi : Nat) : Int), c17, c18, c19, c20, c21, c22, c23, c24, c25, c26, c27, c28, c29, c30, c31, c32, c33, c34, c35, c36, c37, c38, c39, c40, c41, c42, c43, c44, c45, c46, c47, c48, c49, c50, c51, c52, c53, c54, c55, c56, c57, c58, c59, c60, c61, c62, c63, c64, .agg (VN .u8 key), .int .u32 ((c : Nat) : Int), .agg (VN .u8 nonce), .slice (some ⟨g, 0, none⟩) len cap, .int .i64 ((lo : Nat) : Int), .int .i64 ((hi : Nat) : Int), .slice (some ⟨g, lo, none⟩) (hi - lo) (cap - lo), .tuple #[], c73, c74, c75, c76, c77, c78, c79, c80, c81, c82, c83, c84, c85, c86, c87, c88, c89, c90, c91, c92, c93, c94, c95, c96, c97, c98, c99], []⟩ := by rw [h8, h7, h6, h5, h4, h3, h2, h1, ha]; kernel_rfl
  rw [hF]
  exact H _ hw1
noncomputable def rgPc16 : Code := ((Try.f6.body.bind (findReg 16)).getD .skip)
noncomputable def opPc16 : Array Oper := opsOf rgPc16
theorem rgPc16_is : rgPc16 = .region 16 opPc16 true := by kernel_rfl
theorem opPc16_ns : Region.noSelect opPc16 = true := by kernel_rfl
theorem opPc16_0 : opIs opPc16 0 (.load 23 (.tmp 5)) (some 81) := by unfold opIs; kernel_rfl
theorem opPc16_1 : opIs opPc16 1 (.move (.tmp 1)) (some 82) := by unfold opIs; kernel_rfl
theorem opPc16_2 : opIs opPc16 2 (.load 26 (.tmp 7)) (some 83) := by unfold opIs; kernel_rfl
theorem opPc16_3 : opIs opPc16 3 (.move (.tmp 13)) (some 84) := by unfold opIs; kernel_rfl
theorem opPc16_4 : opIs opPc16 4 (.move (.tmp 14)) (some 85) := by unfold opIs; kernel_rfl
theorem opPc16_5 : opIs opPc16 5 (.move (.tmp 11)) (some 86) := by unfold opIs; kernel_rfl
theorem opPc16_6 : opIs opPc16 6 (.slice 40 (.tmp 84) (some (.tmp 85)) (some (.tmp 86)) none) (some 87) := by unfold opIs; kernel_rfl
theorem opPc16_7 : opIs opPc16 7 (.call { callee := .value (.func 17), args := #[.const (.pointer none), .tmp 81, .tmp 82, .tmp 83, .tmp 87], argTypes := #[27, 23, 24, 26, 40] }) (some 88) := by unfold opIs; kernel_rfl
set_option maxRecDepth 100000 in
set_option maxHeartbeats 4000000 in
theorem Pc16 {Q : Exit → Act → World → Prop} {W : World} {R : World → Prop} {key nonce : List Nat} {c q g lo hi len cap : Nat} {c0 c2 c3 c4 c6 c8 c9 c10 c12 c15 c16 c17 c18 c19 c20 c21 c22 c23 c24 c25 c26 c27 c28 c29 c30 c31 c32 c33 c34 c35 c36 c37 c38 c39 c40 c41 c42 c43 c44 c45 c46 c47 c48 c49 c50 c51 c52 c53 c54 c55 c56 c57 c58 c59 c60 c61 c62 c63 c64 c65 c66 c67 c68 c69 c70 c71 c72 c73 c74 c75 c76 c77 c78 c79 c80 c81 c82 c83 c84 c85 c86 c87 c88 c89 c90 c91 c92 c93 c94 c95 c96 c97 c98 c99 : Value}
    (hk : Hid (key.length = 32)) (hn : Hid (nonce.length = 12))
    (hA : Hid (lo ≤ hi ∧ hi ≤ cap ∧ lo < cap))
    (HC : Hid (Calls Try.prog 17 #[.pointer none, .agg (VN .u8 key), .int .u32 ((c : Nat) : Int), .agg (VN .u8 nonce), .slice (some ⟨g, lo, none⟩) (hi - lo) (cap - lo)] W.drew fun e w' => e = .returned (.tuple #[]) ∧ R w'))
    (HS : Hid ((fun Y : World => RK Y q key 23 ∧ RK Y (q + 1) nonce 26) W.drew))
    (HSR : ∀ w', R w' → (fun Y : World => RK Y q key 23 ∧ RK Y (q + 1) nonce 26) w')
    (HPN : ∀ c (a : Act) d v w, Q (.panic c) (a.put d v) w → Q (.panic c) a w)
    (H : ∀ W', R W' → Q .normal ⟨#[c0, .int .u32 ((c : Nat) : Int), c2, c3, c4, .pointer (some ⟨q, 0, none⟩), c6, .pointer (some ⟨q + 1, 0, none⟩), c8, c9, c10, .int .i64 ((hi : Nat) : Int), c12, .slice (some ⟨g, 0, none⟩) len cap, .int .i64 ((lo : Nat) : Int), c15, c16, c17, c18, c19, c20, c21, c22, c23, c24, c25, c26, c27, c28, c29, c30, c31, c32, c33, c34, c35, c36, c37, c38, c39, c40, c41, c42, c43, c44, c45, c46, c47, c48, c49, c50, c51, c52, c53, c54, c55, c56, c57, c58, c59, c60, c61, c62, c63, c64, c65, c66, c67, c68, c69, c70, c71, c72, c73, c74, c75, c76, c77, c78, c79, c80, .agg (VN .u8 key), .int .u32 ((c : Nat) : Int), .agg (VN .u8 nonce), .slice (some ⟨g, 0, none⟩) len cap, .int .i64 ((lo : Nat) : Int), .int .i64 ((hi : Nat) : Int), .slice (some ⟨g, lo, none⟩) (hi - lo) (cap - lo), .tuple #[], c89, c90, c91, c92, c93, c94, c95, c96, c97, c98, c99], []⟩ W') :
    Code.wp Try.prog rgPc16 Q ⟨#[c0, .int .u32 ((c : Nat) : Int), c2, c3, c4, .pointer (some ⟨q, 0, none⟩), c6, .pointer (some ⟨q + 1, 0, none⟩), c8, c9, c10, .int .i64 ((hi : Nat) : Int), c12, .slice (some ⟨g, 0, none⟩) len cap, .int .i64 ((lo : Nat) : Int), c15, c16, c17, c18, c19, c20, c21, c22, c23, c24, c25, c26, c27, c28, c29, c30, c31, c32, c33, c34, c35, c36, c37, c38, c39, c40, c41, c42, c43, c44, c45, c46, c47, c48, c49, c50, c51, c52, c53, c54, c55, c56, c57, c58, c59, c60, c61, c62, c63, c64, c65, c66, c67, c68, c69, c70, c71, c72, c73, c74, c75, c76, c77, c78, c79, c80, c81, c82, c83, c84, c85, c86, c87, c88, c89, c90, c91, c92, c93, c94, c95, c96, c97, c98, c99], []⟩ W := by
  rw [rgPc16_is]
  refine wp_region_held_drew (S := fun Y : World => RK Y q key 23 ∧ RK Y (q + 1) nonce 26) (by kernel_rfl) HS.out (fun hH => ?_)
  obtain ⟨a0, ha⟩ : ∃ a : Act, a = ⟨#[c0, .int .u32 ((c : Nat) : Int), c2, c3, c4, .pointer (some ⟨q, 0, none⟩), c6, .pointer (some ⟨q + 1, 0, none⟩), c8, c9, c10, .int .i64 ((hi : Nat) : Int), c12, .slice (some ⟨g, 0, none⟩) len cap, .int .i64 ((lo : Nat) : Int), c15, c16, c17, c18, c19, c20, c21, c22, c23, c24, c25, c26, c27, c28, c29, c30, c31, c32, c33, c34, c35, c36, c37, c38, c39, c40, c41, c42, c43, c44, c45, c46, c47, c48, c49, c50, c51, c52, c53, c54, c55, c56, c57, c58, c59, c60, c61, c62, c63, c64, c65, c66, c67, c68, c69, c70, c71, c72, c73, c74, c75, c76, c77, c78, c79, c80, c81, c82, c83, c84, c85, c86, c87, c88, c89, c90, c91, c92, c93, c94, c95, c96, c97, c98, c99], []⟩ := ⟨_, rfl⟩
  have sz0 : a0.tmps.size = 100 := by rw [ha]; kernel_rfl
  have e0_1 : a0.eval (.tmp 1) = .int .u32 ((c : Nat) : Int) := by rw [ha]; kernel_rfl
  have e0_5 : a0.eval (.tmp 5) = .pointer (some ⟨q, 0, none⟩) := by rw [ha]; kernel_rfl
  have e0_7 : a0.eval (.tmp 7) = .pointer (some ⟨q + 1, 0, none⟩) := by rw [ha]; kernel_rfl
  have e0_11 : a0.eval (.tmp 11) = .int .i64 ((hi : Nat) : Int) := by rw [ha]; kernel_rfl
  have e0_13 : a0.eval (.tmp 13) = .slice (some ⟨g, 0, none⟩) len cap := by rw [ha]; kernel_rfl
  have e0_14 : a0.eval (.tmp 14) = .int .i64 ((lo : Nat) : Int) := by rw [ha]; kernel_rfl
  rw [← ha]
  refine wpAnyH_as (l' := #[false, false, false, false, false, false, false, false]) (by kernel_rfl) ?_
  refine takeH (v := .agg (VN .u8 key)) opPc16_0 opPc16_ns (by kernel_rfl) (by kernel_rfl) HPN (fun w hw o ho => run_loadKey hk.out ho e0_5 w hw.1) hH ?_
  refine wpAnyH_as (l' := #[true, false, false, false, false, false, false, false]) (by kernel_rfl) ?_
  obtain ⟨a1, h1⟩ : ∃ a' : Act, a' = a0.put (some 81) (.agg (VN .u8 key)) := ⟨_, rfl⟩
  rw [← h1]
  have sz1 : a1.tmps.size = 100 := by rw [h1, size_put]; exact sz0
  have e1_1 : a1.eval (.tmp 1) = .int .u32 ((c : Nat) : Int) := by rw [h1, eval_put_ne _ _ _ _ (by decide)]; exact e0_1
  have e1_7 : a1.eval (.tmp 7) = .pointer (some ⟨q + 1, 0, none⟩) := by rw [h1, eval_put_ne _ _ _ _ (by decide)]; exact e0_7
  have e1_11 : a1.eval (.tmp 11) = .int .i64 ((hi : Nat) : Int) := by rw [h1, eval_put_ne _ _ _ _ (by decide)]; exact e0_11
  have e1_13 : a1.eval (.tmp 13) = .slice (some ⟨g, 0, none⟩) len cap := by rw [h1, eval_put_ne _ _ _ _ (by decide)]; exact e0_13
  have e1_14 : a1.eval (.tmp 14) = .int .i64 ((lo : Nat) : Int) := by rw [h1, eval_put_ne _ _ _ _ (by decide)]; exact e0_14
  have e1_81 : a1.eval (.tmp 81) = .agg (VN .u8 key) := by rw [h1]; exact eval_put_eq _ _ _ (by rw [sz0]; decide)
  clear e0_1 e0_11 e0_13 e0_14 e0_5 e0_7 sz0
  refine takeH (v := .int .u32 ((c : Nat) : Int)) opPc16_1 opPc16_ns (by kernel_rfl) (by kernel_rfl) HPN (fun w hw o ho => run_move ho e1_1 w) hH ?_
  refine wpAnyH_as (l' := #[true, true, false, false, false, false, false, false]) (by kernel_rfl) ?_
  obtain ⟨a2, h2⟩ : ∃ a' : Act, a' = a1.put (some 82) (.int .u32 ((c : Nat) : Int)) := ⟨_, rfl⟩
  rw [← h2]
  have sz2 : a2.tmps.size = 100 := by rw [h2, size_put]; exact sz1
  have e2_7 : a2.eval (.tmp 7) = .pointer (some ⟨q + 1, 0, none⟩) := by rw [h2, eval_put_ne _ _ _ _ (by decide)]; exact e1_7
  have e2_11 : a2.eval (.tmp 11) = .int .i64 ((hi : Nat) : Int) := by rw [h2, eval_put_ne _ _ _ _ (by decide)]; exact e1_11
  have e2_13 : a2.eval (.tmp 13) = .slice (some ⟨g, 0, none⟩) len cap := by rw [h2, eval_put_ne _ _ _ _ (by decide)]; exact e1_13
  have e2_14 : a2.eval (.tmp 14) = .int .i64 ((lo : Nat) : Int) := by rw [h2, eval_put_ne _ _ _ _ (by decide)]; exact e1_14
  have e2_81 : a2.eval (.tmp 81) = .agg (VN .u8 key) := by rw [h2, eval_put_ne _ _ _ _ (by decide)]; exact e1_81
  have e2_82 : a2.eval (.tmp 82) = .int .u32 ((c : Nat) : Int) := by rw [h2]; exact eval_put_eq _ _ _ (by rw [sz1]; decide)
  clear e1_1 e1_11 e1_13 e1_14 e1_7 e1_81 sz1
  refine takeH (v := .agg (VN .u8 nonce)) opPc16_2 opPc16_ns (by kernel_rfl) (by kernel_rfl) HPN (fun w hw o ho => run_loadNonce hn.out ho e2_7 w hw.2) hH ?_
  refine wpAnyH_as (l' := #[true, true, true, false, false, false, false, false]) (by kernel_rfl) ?_
  obtain ⟨a3, h3⟩ : ∃ a' : Act, a' = a2.put (some 83) (.agg (VN .u8 nonce)) := ⟨_, rfl⟩
  rw [← h3]
  have sz3 : a3.tmps.size = 100 := by rw [h3, size_put]; exact sz2
  have e3_11 : a3.eval (.tmp 11) = .int .i64 ((hi : Nat) : Int) := by rw [h3, eval_put_ne _ _ _ _ (by decide)]; exact e2_11
  have e3_13 : a3.eval (.tmp 13) = .slice (some ⟨g, 0, none⟩) len cap := by rw [h3, eval_put_ne _ _ _ _ (by decide)]; exact e2_13
  have e3_14 : a3.eval (.tmp 14) = .int .i64 ((lo : Nat) : Int) := by rw [h3, eval_put_ne _ _ _ _ (by decide)]; exact e2_14
  have e3_81 : a3.eval (.tmp 81) = .agg (VN .u8 key) := by rw [h3, eval_put_ne _ _ _ _ (by decide)]; exact e2_81
  have e3_82 : a3.eval (.tmp 82) = .int .u32 ((c : Nat) : Int) := by rw [h3, eval_put_ne _ _ _ _ (by decide)]; exact e2_82
  have e3_83 : a3.eval (.tmp 83) = .agg (VN .u8 nonce) := by rw [h3]; exact eval_put_eq _ _ _ (by rw [sz2]; decide)
  clear e2_11 e2_13 e2_14 e2_7 e2_81 e2_82 sz2
  refine takeH (v := .slice (some ⟨g, 0, none⟩) len cap) opPc16_3 opPc16_ns (by kernel_rfl) (by kernel_rfl) HPN (fun w hw o ho => run_move ho e3_13 w) hH ?_
  refine wpAnyH_as (l' := #[true, true, true, true, false, false, false, false]) (by kernel_rfl) ?_
  obtain ⟨a4, h4⟩ : ∃ a' : Act, a' = a3.put (some 84) (.slice (some ⟨g, 0, none⟩) len cap) := ⟨_, rfl⟩
  rw [← h4]
  have sz4 : a4.tmps.size = 100 := by rw [h4, size_put]; exact sz3
  have e4_11 : a4.eval (.tmp 11) = .int .i64 ((hi : Nat) : Int) := by rw [h4, eval_put_ne _ _ _ _ (by decide)]; exact e3_11
  have e4_14 : a4.eval (.tmp 14) = .int .i64 ((lo : Nat) : Int) := by rw [h4, eval_put_ne _ _ _ _ (by decide)]; exact e3_14
  have e4_81 : a4.eval (.tmp 81) = .agg (VN .u8 key) := by rw [h4, eval_put_ne _ _ _ _ (by decide)]; exact e3_81
  have e4_82 : a4.eval (.tmp 82) = .int .u32 ((c : Nat) : Int) := by rw [h4, eval_put_ne _ _ _ _ (by decide)]; exact e3_82
  have e4_83 : a4.eval (.tmp 83) = .agg (VN .u8 nonce) := by rw [h4, eval_put_ne _ _ _ _ (by decide)]; exact e3_83
  have e4_84 : a4.eval (.tmp 84) = .slice (some ⟨g, 0, none⟩) len cap := by rw [h4]; exact eval_put_eq _ _ _ (by rw [sz3]; decide)
  clear e3_11 e3_13 e3_14 e3_81 e3_82 e3_83 sz3
  refine takeH (v := .int .i64 ((lo : Nat) : Int)) opPc16_4 opPc16_ns (by kernel_rfl) (by kernel_rfl) HPN (fun w hw o ho => run_move ho e4_14 w) hH ?_
  refine wpAnyH_as (l' := #[true, true, true, true, true, false, false, false]) (by kernel_rfl) ?_
  obtain ⟨a5, h5⟩ : ∃ a' : Act, a' = a4.put (some 85) (.int .i64 ((lo : Nat) : Int)) := ⟨_, rfl⟩
  rw [← h5]
  have sz5 : a5.tmps.size = 100 := by rw [h5, size_put]; exact sz4
  have e5_11 : a5.eval (.tmp 11) = .int .i64 ((hi : Nat) : Int) := by rw [h5, eval_put_ne _ _ _ _ (by decide)]; exact e4_11
  have e5_81 : a5.eval (.tmp 81) = .agg (VN .u8 key) := by rw [h5, eval_put_ne _ _ _ _ (by decide)]; exact e4_81
  have e5_82 : a5.eval (.tmp 82) = .int .u32 ((c : Nat) : Int) := by rw [h5, eval_put_ne _ _ _ _ (by decide)]; exact e4_82
  have e5_83 : a5.eval (.tmp 83) = .agg (VN .u8 nonce) := by rw [h5, eval_put_ne _ _ _ _ (by decide)]; exact e4_83
  have e5_84 : a5.eval (.tmp 84) = .slice (some ⟨g, 0, none⟩) len cap := by rw [h5, eval_put_ne _ _ _ _ (by decide)]; exact e4_84
  have e5_85 : a5.eval (.tmp 85) = .int .i64 ((lo : Nat) : Int) := by rw [h5]; exact eval_put_eq _ _ _ (by rw [sz4]; decide)
  clear e4_11 e4_14 e4_81 e4_82 e4_83 e4_84 sz4
  refine takeH (v := .int .i64 ((hi : Nat) : Int)) opPc16_5 opPc16_ns (by kernel_rfl) (by kernel_rfl) HPN (fun w hw o ho => run_move ho e5_11 w) hH ?_
  refine wpAnyH_as (l' := #[true, true, true, true, true, true, false, false]) (by kernel_rfl) ?_
  obtain ⟨a6, h6⟩ : ∃ a' : Act, a' = a5.put (some 86) (.int .i64 ((hi : Nat) : Int)) := ⟨_, rfl⟩
  rw [← h6]
  have sz6 : a6.tmps.size = 100 := by rw [h6, size_put]; exact sz5
  have e6_81 : a6.eval (.tmp 81) = .agg (VN .u8 key) := by rw [h6, eval_put_ne _ _ _ _ (by decide)]; exact e5_81
  have e6_82 : a6.eval (.tmp 82) = .int .u32 ((c : Nat) : Int) := by rw [h6, eval_put_ne _ _ _ _ (by decide)]; exact e5_82
  have e6_83 : a6.eval (.tmp 83) = .agg (VN .u8 nonce) := by rw [h6, eval_put_ne _ _ _ _ (by decide)]; exact e5_83
  have e6_84 : a6.eval (.tmp 84) = .slice (some ⟨g, 0, none⟩) len cap := by rw [h6, eval_put_ne _ _ _ _ (by decide)]; exact e5_84
  have e6_85 : a6.eval (.tmp 85) = .int .i64 ((lo : Nat) : Int) := by rw [h6, eval_put_ne _ _ _ _ (by decide)]; exact e5_85
  have e6_86 : a6.eval (.tmp 86) = .int .i64 ((hi : Nat) : Int) := by rw [h6]; exact eval_put_eq _ _ _ (by rw [sz5]; decide)
  clear e5_11 e5_81 e5_82 e5_83 e5_84 e5_85 sz5
  refine takeH (v := .slice (some ⟨g, lo, none⟩) (hi - lo) (cap - lo)) opPc16_6 opPc16_ns (by kernel_rfl) (by kernel_rfl) HPN (fun w hw o ho => run_sliceMid hA.out.1 hA.out.2.1 hA.out.2.2 ho e6_84 e6_85 e6_86 w) hH ?_
  refine wpAnyH_as (l' := #[true, true, true, true, true, true, true, false]) (by kernel_rfl) ?_
  obtain ⟨a7, h7⟩ : ∃ a' : Act, a' = a6.put (some 87) (.slice (some ⟨g, lo, none⟩) (hi - lo) (cap - lo)) := ⟨_, rfl⟩
  rw [← h7]
  have sz7 : a7.tmps.size = 100 := by rw [h7, size_put]; exact sz6
  have e7_81 : a7.eval (.tmp 81) = .agg (VN .u8 key) := by rw [h7, eval_put_ne _ _ _ _ (by decide)]; exact e6_81
  have e7_82 : a7.eval (.tmp 82) = .int .u32 ((c : Nat) : Int) := by rw [h7, eval_put_ne _ _ _ _ (by decide)]; exact e6_82
  have e7_83 : a7.eval (.tmp 83) = .agg (VN .u8 nonce) := by rw [h7, eval_put_ne _ _ _ _ (by decide)]; exact e6_83
  have e7_87 : a7.eval (.tmp 87) = .slice (some ⟨g, lo, none⟩) (hi - lo) (cap - lo) := by rw [h7]; exact eval_put_eq _ _ _ (by rw [sz6]; decide)
  clear e6_81 e6_82 e6_83 e6_84 e6_85 e6_86 sz6
  refine readyH opPc16_7 (by kernel_rfl) (fun o ho hd => wpCall (v := .tuple #[]) ho hd (args := #[.pointer none, .agg (VN .u8 key), .int .u32 ((c : Nat) : Int), .agg (VN .u8 nonce), .slice (some ⟨g, lo, none⟩) (hi - lo) (cap - lo)]) (by simp only [List.map_toArray, List.map_cons, List.map_nil, e7_81, e7_82, e7_83, e7_87] <;> rfl) (fun _ => rfl) HC.out (fun w1 hw1 => ?_))
  refine ⟨HSR w1 hw1, ?_⟩
  refine wpAnyH_as (l' := #[true, true, true, true, true, true, true, true]) (by kernel_rfl) ?_
  obtain ⟨a8, h8⟩ : ∃ a' : Act, a' = a7.put (some 88) (.tuple #[]) := ⟨_, rfl⟩
  rw [← h8]
  have sz8 : a8.tmps.size = 100 := by rw [h8, size_put]; exact sz7
  clear e7_81 e7_82 e7_83 e7_87 sz7
  refine wpAnyH_done (by kernel_rfl) ?_ _
  have hF : a8 = ⟨#[c0, .int .u32 ((c : Nat) : Int), c2, c3, c4, .pointer (some ⟨q, 0, none⟩), c6, .pointer (some ⟨q + 1, 0, none⟩), c8, c9, c10, .int .i64 ((hi : Nat) : Int), c12, .slice (some ⟨g, 0, none⟩) len cap, .int .i64 ((lo : Nat) : Int), c15, c16, c17, c18, c19, c20, c21, c22, c23, c24, c25, c26, c27, c28, c29, c30, c31, c32, c33, c34, c35, c36, c37, c38, c39, c40, c41, c42, c43, c44, c45, c46, c47, c48, c49, c50, c51, c52, c53, c54, c55, c56, c57, c58, c59, c60, c61, c62, c63, c64, c65, c66, c67, c68, c69, c70, c71, c72, c73, c74, c75, c76, c77, c78, c79, c80, .agg (VN .u8 key), .int .u32 ((c : Nat) : Int), .agg (VN .u8 nonce), .slice (some ⟨g, 0, none⟩) len cap, .int .i64 ((lo : Nat) : Int), .int .i64 ((hi : Nat) : Int), .slice (some ⟨g, lo, none⟩) (hi - lo) (cap - lo), .tuple #[], c89, c90, c91, c92, c93, c94, c95, c96, c97, c98, c99], []⟩ := by rw [h8, h7, h6, h5, h4, h3, h2, h1, ha]; kernel_rfl
  rw [hF]
  exact H _ hw1
end Go.Proofs.Ytefnlaookmpbhaa
