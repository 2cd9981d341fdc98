import Derived.Test.YtefnlaookmpbhaaStrT
namespace Go.Proofs.Ytefnlaookmpbhaa
set_option linter.unusedSimpArgs false
set_option linter.unusedVariables false
open Go.ChangeShapes Go.WideShapes Go.ChangeAt Go.RowKit Go.Pin Go.Str
noncomputable def rgTu6 : Code := ((Try.f4.body.bind (findReg 6)).getD .skip)
noncomputable def opTu6 : Array Oper := opsOf rgTu6
theorem rgTu6_is : rgTu6 = .region 6 opTu6 true := by kernel_rfl
theorem opTu6_ns : Region.noSelect opTu6 = true := by kernel_rfl
theorem opTu6_0 : opIs opTu6 0 (.move (.tmp 10)) (some 23) := by unfold opIs; kernel_rfl
theorem opTu6_1 : opIs opTu6 1 (.load 23 (.tmp 4)) (some 24) := by unfold opIs; kernel_rfl
theorem opTu6_2 : opIs opTu6 2 (.move (.tmp 1)) (some 25) := by unfold opIs; kernel_rfl
theorem opTu6_3 : opIs opTu6 3 (.load 26 (.tmp 6)) (some 26) := by unfold opIs; kernel_rfl
theorem opTu6_4 : opIs opTu6 4 (.move (.tmp 11)) (some 27) := by unfold opIs; kernel_rfl
theorem opTu6_5 : opIs opTu6 5 (.move (.tmp 9)) (some 28) := by unfold opIs; kernel_rfl
theorem opTu6_6 : opIs opTu6 6 (.slice 40 (.tmp 27) none (some (.tmp 28)) none) (some 29) := by unfold opIs; kernel_rfl
theorem opTu6_7 : opIs opTu6 7 (.call { callee := .value (.func 17), args := #[.tmp 23, .tmp 24, .tmp 25, .tmp 26, .tmp 29], argTypes := #[27, 23, 24, 26, 40] }) (some 30) := by unfold opIs; kernel_rfl
set_option maxRecDepth 100000 in
set_option maxHeartbeats 4000000 in
theorem Tu6 {Q : Exit → Act → World → Prop} {W : World} {R : World → Prop} {key nonce : List Nat} {c q g n len cap : Nat} {rv : Value} {c0 c2 c3 c5 c7 c8 c12 c13 c14 c15 c16 c17 c18 c19 c20 c21 c22 c23 c24 c25 c26 c27 c28 c29 c30 c31 c32 c33 c34 c35 c36 c37 c38 c39 c40 c41 c42 c43 c44 c45 c46 c47 c48 c49 c50 c51 c52 c53 c54 c55 c56 c57 c58 c59 c60 c61 c62 c63 c64 c65 c66 c67 c68 c69 c70 c71 c72 c73 c74 c75 c76 c77 c78 c79 c80 c81 c82 c83 c84 c85 c86 c87 c88 c89 c90 c91 c92 c93 c94 c95 c96 c97 c98 c99 c100 c101 c102 c103 c104 c105 c106 c107 c108 c109 c110 c111 c112 : Value}
    (hk : Hid (key.length = 32)) (hn : Hid (nonce.length = 12))
    (hA : Hid (n ≤ cap ∧ 0 < cap))
    (HC : Hid (Calls Try.prog 17 #[rv, .agg (VN .u8 key), .int .u32 ((c : Nat) : Int), .agg (VN .u8 nonce), .slice (some ⟨g, 0, none⟩) n cap] W.drew fun e w' => e = .returned (.tuple #[]) ∧ R w'))
    (HS : Hid ((fun Y : World => RK Y q key 23 ∧ RK Y (q + 1) nonce 26) W.drew))
    (HSR : ∀ w', R w' → (fun Y : World => RK Y q key 23 ∧ RK Y (q + 1) nonce 26) w')
    (HPN : ∀ c (a : Act) d v w, Q (.panic c) (a.put d v) w → Q (.panic c) a w)
    (H : ∀ W', R W' → Q .normal ⟨#[c0, .int .u32 ((c : Nat) : Int), c2, c3, .pointer (some ⟨q, 0, none⟩), c5, .pointer (some ⟨q + 1, 0, none⟩), c7, c8, .int .i64 ((n : Nat) : Int), rv, .slice (some ⟨g, 0, none⟩) len cap, c12, c13, c14, c15, c16, c17, c18, c19, c20, c21, c22, rv, .agg (VN .u8 key), .int .u32 ((c : Nat) : Int), .agg (VN .u8 nonce), .slice (some ⟨g, 0, none⟩) len cap, .int .i64 ((n : Nat) : Int), .slice (some ⟨g, 0, none⟩) n cap, .tuple #[], c31, c32, c33, c34, c35, c36, c37, c38, c39, c40, c41, c42, c43, c44, c45, c46, c47, c48, c49, c50, c51, c52, c53, c54, c55, c56, c57, c58, c59, c60, c61, c62, c63, c64, c65, c66, c67, c68, c69, c70, c71, c72, c73, c74, c75, c76, c77, c78, c79, c80, c81, c82, c83, c84, c85, c86, c87, c88, c89, c90, c91, c92, c93, c94, c95, c96, c97, c98, c99, c100, c101, c102, c103, c104, c105, c106, c107, c108, c109, c110, c111, c112], []⟩ W') :
    Code.wp Try.prog rgTu6 Q ⟨#[c0, .int .u32 ((c : Nat) : Int), c2, c3, .pointer (some ⟨q, 0, none⟩), c5, .pointer (some ⟨q + 1, 0, none⟩), c7, c8, .int .i64 ((n : Nat) : Int), rv, .slice (some ⟨g, 0, none⟩) len cap, c12, c13, c14, c15, c16, c17, c18, c19, c20, c21, c22, c23, c24, c25, c26, c27, c28, c29, c30, c31, c32, c33, c34, c35, c36, c37, c38, c39, c40, c41, c42, c43, c44, c45, c46, c47, c48, c49, c50, c51, c52, c53, c54, c55, c56, c57, c58, c59, c60, c61, c62, c63, c64, c65, c66, c67, c68, c69, c70, c71, c72, c73, c74, c75, c76, c77, c78, c79, c80, c81, c82, c83, c84, c85, c86, c87, c88, c89, c90, c91, c92, c93, c94, c95, c96, c97, c98, c99, c100, c101, c102, c103, c104, c105, c106, c107, c108, c109, c110, c111, c112], []⟩ W := by
  rw [rgTu6_is]
  refine wp_region_held_drew (S := fun Y : World => RK Y q key 23 ∧ RK Y (q + 1) nonce 26) (by kernel_rfl) HS.out (fun hH => ?_)
  obtain ⟨a0, ha⟩ : ∃ a : Act, a = ⟨#[c0, .int .u32 ((c : Nat) : Int), c2, c3, .pointer (some ⟨q, 0, none⟩), c5, .pointer (some ⟨q + 1, 0, none⟩), c7, c8, .int .i64 ((n : Nat) : Int), rv, .slice (some ⟨g, 0, none⟩) len cap, c12, c13, c14, c15, c16, c17, c18, c19, c20, c21, c22, c23, c24, c25, c26, c27, c28, c29, c30, c31, c32, c33, c34, c35, c36, c37, c38, c39, c40, c41, c42, c43, c44, c45, c46, c47, c48, c49, c50, c51, c52, c53, c54, c55, c56, c57, c58, c59, c60, c61, c62, c63, c64, c65, c66, c67, c68, c69, c70, c71, c72, c73, c74, c75, c76, c77, c78, c79, c80, c81, c82, c83, c84, c85, c86, c87, c88, c89, c90, c91, c92, c93, c94, c95, c96, c97, c98, c99, c100, c101, c102, c103, c104, c105, c106, c107, c108, c109, c110, c111, c112], []⟩ := ⟨_, rfl⟩
  have sz0 : a0.tmps.size = 113 := by rw [ha]; kernel_rfl
  have e0_1 : a0.eval (.tmp 1) = .int .u32 ((c : Nat) : Int) := by rw [ha]; kernel_rfl
  have e0_4 : a0.eval (.tmp 4) = .pointer (some ⟨q, 0, none⟩) := by rw [ha]; kernel_rfl
  have e0_6 : a0.eval (.tmp 6) = .pointer (some ⟨q + 1, 0, none⟩) := by rw [ha]; kernel_rfl
  have e0_9 : a0.eval (.tmp 9) = .int .i64 ((n : Nat) : Int) := by rw [ha]; kernel_rfl
  have e0_10 : a0.eval (.tmp 10) = rv := by rw [ha]; kernel_rfl
  have e0_11 : a0.eval (.tmp 11) = .slice (some ⟨g, 0, none⟩) len cap := by rw [ha]; kernel_rfl
  rw [← ha]
  refine wpAnyH_as (l' := #[false, false, false, false, false, false, false, false]) (by kernel_rfl) ?_
  refine takeH (v := rv) opTu6_0 opTu6_ns (by kernel_rfl) (by kernel_rfl) HPN (fun w hw o ho => run_move ho e0_10 w) hH ?_
  refine wpAnyH_as (l' := #[true, false, false, false, false, false, false, false]) (by kernel_rfl) ?_
  obtain ⟨a1, h1⟩ : ∃ a' : Act, a' = a0.put (some 23) (rv) := ⟨_, rfl⟩
  rw [← h1]
  have sz1 : a1.tmps.size = 113 := by rw [h1, size_put]; exact sz0
  have e1_1 : a1.eval (.tmp 1) = .int .u32 ((c : Nat) : Int) := by rw [h1, eval_put_ne _ _ _ _ (by decide)]; exact e0_1
  have e1_4 : a1.eval (.tmp 4) = .pointer (some ⟨q, 0, none⟩) := by rw [h1, eval_put_ne _ _ _ _ (by decide)]; exact e0_4
  have e1_6 : a1.eval (.tmp 6) = .pointer (some ⟨q + 1, 0, none⟩) := by rw [h1, eval_put_ne _ _ _ _ (by decide)]; exact e0_6
  have e1_9 : a1.eval (.tmp 9) = .int .i64 ((n : Nat) : Int) := by rw [h1, eval_put_ne _ _ _ _ (by decide)]; exact e0_9
  have e1_11 : a1.eval (.tmp 11) = .slice (some ⟨g, 0, none⟩) len cap := by rw [h1, eval_put_ne _ _ _ _ (by decide)]; exact e0_11
  have e1_23 : a1.eval (.tmp 23) = rv := by rw [h1]; exact eval_put_eq _ _ _ (by rw [sz0]; decide)
  clear e0_1 e0_10 e0_11 e0_4 e0_6 e0_9 sz0
  refine takeH (v := .agg (VN .u8 key)) opTu6_1 opTu6_ns (by kernel_rfl) (by kernel_rfl) HPN (fun w hw o ho => run_loadKey hk.out ho e1_4 w hw.1) hH ?_
  refine wpAnyH_as (l' := #[true, true, false, false, false, false, false, false]) (by kernel_rfl) ?_
  obtain ⟨a2, h2⟩ : ∃ a' : Act, a' = a1.put (some 24) (.agg (VN .u8 key)) := ⟨_, rfl⟩
  rw [← h2]
  have sz2 : a2.tmps.size = 113 := by rw [h2, size_put]; exact sz1
  have e2_1 : a2.eval (.tmp 1) = .int .u32 ((c : Nat) : Int) := by rw [h2, eval_put_ne _ _ _ _ (by decide)]; exact e1_1
  have e2_6 : a2.eval (.tmp 6) = .pointer (some ⟨q + 1, 0, none⟩) := by rw [h2, eval_put_ne _ _ _ _ (by decide)]; exact e1_6
  have e2_9 : a2.eval (.tmp 9) = .int .i64 ((n : Nat) : Int) := by rw [h2, eval_put_ne _ _ _ _ (by decide)]; exact e1_9
  have e2_11 : a2.eval (.tmp 11) = .slice (some ⟨g, 0, none⟩) len cap := by rw [h2, eval_put_ne _ _ _ _ (by decide)]; exact e1_11
  have e2_23 : a2.eval (.tmp 23) = rv := by rw [h2, eval_put_ne _ _ _ _ (by decide)]; exact e1_23
  have e2_24 : a2.eval (.tmp 24) = .agg (VN .u8 key) := by rw [h2]; exact eval_put_eq _ _ _ (by rw [sz1]; decide)
  clear e1_1 e1_11 e1_23 e1_4 e1_6 e1_9 sz1
  refine takeH (v := .int .u32 ((c : Nat) : Int)) opTu6_2 opTu6_ns (by kernel_rfl) (by kernel_rfl) HPN (fun w hw o ho => run_move ho e2_1 w) hH ?_
  refine wpAnyH_as (l' := #[true, true, true, false, false, false, false, false]) (by kernel_rfl) ?_
  obtain ⟨a3, h3⟩ : ∃ a' : Act, a' = a2.put (some 25) (.int .u32 ((c : Nat) : Int)) := ⟨_, rfl⟩
  rw [← h3]
  have sz3 : a3.tmps.size = 113 := by rw [h3, size_put]; exact sz2
  have e3_6 : a3.eval (.tmp 6) = .pointer (some ⟨q + 1, 0, none⟩) := by rw [h3, eval_put_ne _ _ _ _ (by decide)]; exact e2_6
  have e3_9 : a3.eval (.tmp 9) = .int .i64 ((n : Nat) : Int) := by rw [h3, eval_put_ne _ _ _ _ (by decide)]; exact e2_9
  have e3_11 : a3.eval (.tmp 11) = .slice (some ⟨g, 0, none⟩) len cap := by rw [h3, eval_put_ne _ _ _ _ (by decide)]; exact e2_11
  have e3_23 : a3.eval (.tmp 23) = rv := by rw [h3, eval_put_ne _ _ _ _ (by decide)]; exact e2_23
  have e3_24 : a3.eval (.tmp 24) = .agg (VN .u8 key) := by rw [h3, eval_put_ne _ _ _ _ (by decide)]; exact e2_24
  have e3_25 : a3.eval (.tmp 25) = .int .u32 ((c : Nat) : Int) := by rw [h3]; exact eval_put_eq _ _ _ (by rw [sz2]; decide)
  clear e2_1 e2_11 e2_23 e2_24 e2_6 e2_9 sz2
  refine takeH (v := .agg (VN .u8 nonce)) opTu6_3 opTu6_ns (by kernel_rfl) (by kernel_rfl) HPN (fun w hw o ho => run_loadNonce hn.out ho e3_6 w hw.2) hH ?_
  refine wpAnyH_as (l' := #[true, true, true, true, false, false, false, false]) (by kernel_rfl) ?_
  obtain ⟨a4, h4⟩ : ∃ a' : Act, a' = a3.put (some 26) (.agg (VN .u8 nonce)) := ⟨_, rfl⟩
  rw [← h4]
  have sz4 : a4.tmps.size = 113 := by rw [h4, size_put]; exact sz3
  have e4_9 : a4.eval (.tmp 9) = .int .i64 ((n : Nat) : Int) := by rw [h4, eval_put_ne _ _ _ _ (by decide)]; exact e3_9
  have e4_11 : a4.eval (.tmp 11) = .slice (some ⟨g, 0, none⟩) len cap := by rw [h4, eval_put_ne _ _ _ _ (by decide)]; exact e3_11
  have e4_23 : a4.eval (.tmp 23) = rv := by rw [h4, eval_put_ne _ _ _ _ (by decide)]; exact e3_23
  have e4_24 : a4.eval (.tmp 24) = .agg (VN .u8 key) := by rw [h4, eval_put_ne _ _ _ _ (by decide)]; exact e3_24
  have e4_25 : a4.eval (.tmp 25) = .int .u32 ((c : Nat) : Int) := by rw [h4, eval_put_ne _ _ _ _ (by decide)]; exact e3_25
  have e4_26 : a4.eval (.tmp 26) = .agg (VN .u8 nonce) := by rw [h4]; exact eval_put_eq _ _ _ (by rw [sz3]; decide)
  clear e3_11 e3_23 e3_24 e3_25 e3_6 e3_9 sz3
  refine takeH (v := .slice (some ⟨g, 0, none⟩) len cap) opTu6_4 opTu6_ns (by kernel_rfl) (by kernel_rfl) HPN (fun w hw o ho => run_move ho e4_11 w) hH ?_
  refine wpAnyH_as (l' := #[true, true, true, true, true, false, false, false]) (by kernel_rfl) ?_
  obtain ⟨a5, h5⟩ : ∃ a' : Act, a' = a4.put (some 27) (.slice (some ⟨g, 0, none⟩) len cap) := ⟨_, rfl⟩
  rw [← h5]
  have sz5 : a5.tmps.size = 113 := by rw [h5, size_put]; exact sz4
  have e5_9 : a5.eval (.tmp 9) = .int .i64 ((n : Nat) : Int) := by rw [h5, eval_put_ne _ _ _ _ (by decide)]; exact e4_9
  have e5_23 : a5.eval (.tmp 23) = rv := by rw [h5, eval_put_ne _ _ _ _ (by decide)]; exact e4_23
  have e5_24 : a5.eval (.tmp 24) = .agg (VN .u8 key) := by rw [h5, eval_put_ne _ _ _ _ (by decide)]; exact e4_24
  have e5_25 : a5.eval (.tmp 25) = .int .u32 ((c : Nat) : Int) := by rw [h5, eval_put_ne _ _ _ _ (by decide)]; exact e4_25
  have e5_26 : a5.eval (.tmp 26) = .agg (VN .u8 nonce) := by rw [h5, eval_put_ne _ _ _ _ (by decide)]; exact e4_26
  have e5_27 : a5.eval (.tmp 27) = .slice (some ⟨g, 0, none⟩) len cap := by rw [h5]; exact eval_put_eq _ _ _ (by rw [sz4]; decide)
  clear e4_11 e4_23 e4_24 e4_25 e4_26 e4_9 sz4
  refine takeH (v := .int .i64 ((n : Nat) : Int)) opTu6_5 opTu6_ns (by kernel_rfl) (by kernel_rfl) HPN (fun w hw o ho => run_move ho e5_9 w) hH ?_
  refine wpAnyH_as (l' := #[true, true, true, true, true, true, false, false]) (by kernel_rfl) ?_
  obtain ⟨a6, h6⟩ : ∃ a' : Act, a' = a5.put (some 28) (.int .i64 ((n : Nat) : Int)) := ⟨_, rfl⟩
  rw [← h6]
  have sz6 : a6.tmps.size = 113 := by rw [h6, size_put]; exact sz5
  have e6_23 : a6.eval (.tmp 23) = rv := by rw [h6, eval_put_ne _ _ _ _ (by decide)]; exact e5_23
  have e6_24 : a6.eval (.tmp 24) = .agg (VN .u8 key) := by rw [h6, eval_put_ne _ _ _ _ (by decide)]; exact e5_24
  have e6_25 : a6.eval (.tmp 25) = .int .u32 ((c : Nat) : Int) := by rw [h6, eval_put_ne _ _ _ _ (by decide)]; exact e5_25
  have e6_26 : a6.eval (.tmp 26) = .agg (VN .u8 nonce) := by rw [h6, eval_put_ne _ _ _ _ (by decide)]; exact e5_26
  have e6_27 : a6.eval (.tmp 27) = .slice (some ⟨g, 0, none⟩) len cap := by rw [h6, eval_put_ne _ _ _ _ (by decide)]; exact e5_27
  have e6_28 : a6.eval (.tmp 28) = .int .i64 ((n : Nat) : Int) := by rw [h6]; exact eval_put_eq _ _ _ (by rw [sz5]; decide)
  clear e5_23 e5_24 e5_25 e5_26 e5_27 e5_9 sz5
  refine takeH (v := .slice (some ⟨g, 0, none⟩) n cap) opTu6_6 opTu6_ns (by kernel_rfl) (by kernel_rfl) HPN (fun w hw o ho => run_slicePre hA.out.1 hA.out.2 ho e6_27 e6_28 w) hH ?_
  refine wpAnyH_as (l' := #[true, true, true, true, true, true, true, false]) (by kernel_rfl) ?_
  obtain ⟨a7, h7⟩ : ∃ a' : Act, a' = a6.put (some 29) (.slice (some ⟨g, 0, none⟩) n cap) := ⟨_, rfl⟩
  rw [← h7]
  have sz7 : a7.tmps.size = 113 := by rw [h7, size_put]; exact sz6
  have e7_23 : a7.eval (.tmp 23) = rv := by rw [h7, eval_put_ne _ _ _ _ (by decide)]; exact e6_23
  have e7_24 : a7.eval (.tmp 24) = .agg (VN .u8 key) := by rw [h7, eval_put_ne _ _ _ _ (by decide)]; exact e6_24
  have e7_25 : a7.eval (.tmp 25) = .int .u32 ((c : Nat) : Int) := by rw [h7, eval_put_ne _ _ _ _ (by decide)]; exact e6_25
  have e7_26 : a7.eval (.tmp 26) = .agg (VN .u8 nonce) := by rw [h7, eval_put_ne _ _ _ _ (by decide)]; exact e6_26
  have e7_29 : a7.eval (.tmp 29) = .slice (some ⟨g, 0, none⟩) n cap := by rw [h7]; exact eval_put_eq _ _ _ (by rw [sz6]; decide)
  clear e6_23 e6_24 e6_25 e6_26 e6_27 e6_28 sz6
  refine readyH opTu6_7 (by kernel_rfl) (fun o ho hd => wpCall (v := .tuple #[]) ho hd (args := #[rv, .agg (VN .u8 key), .int .u32 ((c : Nat) : Int), .agg (VN .u8 nonce), .slice (some ⟨g, 0, none⟩) n cap]) (by simp only [List.map_toArray, List.map_cons, List.map_nil, e7_23, e7_24, e7_25, e7_26, e7_29] <;> rfl) (fun _ => rfl) HC.out (fun w1 hw1 => ?_))
  refine ⟨HSR w1 hw1, ?_⟩
  refine wpAnyH_as (l' := #[true, true, true, true, true, true, true, true]) (by kernel_rfl) ?_
  obtain ⟨a8, h8⟩ : ∃ a' : Act, a' = a7.put (some 30) (.tuple #[]) := ⟨_, rfl⟩
  rw [← h8]
  have sz8 : a8.tmps.size = 113 := by rw [h8, size_put]; exact sz7
  clear e7_23 e7_24 e7_25 e7_26 e7_29 sz7
  refine wpAnyH_done (by kernel_rfl) ?_ _
  have hF : a8 = ⟨#[c0, .int .u32 ((c : Nat) : Int), c2, c3, .pointer (some ⟨q, 0, none⟩), c5, .pointer (some ⟨q + 1, 0, none⟩), c7, c8, .int .i64 ((n : Nat) : Int), rv, .slice (some ⟨g, 0, none⟩) len cap, c12, c13, c14, c15, c16, c17, c18, c19, c20, c21, c22, rv, .agg (VN .u8 key), .int .u32 ((c : Nat) : Int), .agg (VN .u8 nonce), .slice (some ⟨g, 0, none⟩) len cap, .int .i64 ((n : Nat) : Int), .slice (some ⟨g, 0, none⟩) n cap, .tuple #[], c31, c32, c33, c34, c35, c36, c37, c38, c39, c40, c41, c42, c43, c44, c45, c46, c47, c48, c49, c50, c51, c52, c53, c54, c55, c56, c57, c58, c59, c60, c61, c62, c63, c64, c65, c66, c67, c68, c69, c70, c71, c72, c73, c74, c75, c76, c77, c78, c79, c80, c81, c82, c83, c84, c85, c86, c87, c88, c89, c90, c91, c92, c93, c94, c95, c96, c97, c98, c99, c100, c101, c102, c103, c104, c105, c106, c107, c108, c109, c110, c111, c112], []⟩ := by rw [h8, h7, h6, h5, h4, h3, h2, h1, ha]; kernel_rfl
  rw [hF]
  exact H _ hw1
noncomputable def rgTu19 : Code := ((Try.f4.body.bind (findReg 19)).getD .skip)
noncomputable def opTu19 : Array Oper := opsOf rgTu19
theorem rgTu19_is : rgTu19 = .region 19 opTu19 true := by kernel_rfl
theorem opTu19_ns : Region.noSelect opTu19 = true := by kernel_rfl
theorem opTu19_0 : opIs opTu19 0 (.load 23 (.tmp 4)) (some 81) := by unfold opIs; kernel_rfl
theorem opTu19_1 : opIs opTu19 1 (.move (.tmp 1)) (some 82) := by unfold opIs; kernel_rfl
theorem opTu19_2 : opIs opTu19 2 (.load 26 (.tmp 6)) (some 83) := by unfold opIs; kernel_rfl
theorem opTu19_3 : opIs opTu19 3 (.move (.tmp 11)) (some 84) := by unfold opIs; kernel_rfl
theorem opTu19_4 : opIs opTu19 4 (.move (.tmp 9)) (some 85) := by unfold opIs; kernel_rfl
theorem opTu19_5 : opIs opTu19 5 (.slice 40 (.tmp 84) none (some (.tmp 85)) none) (some 86) := by unfold opIs; kernel_rfl
theorem opTu19_6 : opIs opTu19 6 (.call { callee := .value (.func 17), args := #[.const (.pointer none), .tmp 81, .tmp 82, .tmp 83, .tmp 86], argTypes := #[27, 23, 24, 26, 40] }) (some 87) := by unfold opIs; kernel_rfl
set_option maxRecDepth 100000 in
set_option maxHeartbeats 4000000 in
theorem Tu19 {Q : Exit → Act → World → Prop} {W : World} {R : World → Prop} {key nonce : List Nat} {c q g n len cap : Nat} {c0 c2 c3 c5 c7 c8 c10 c12 c13 c14 c15 c16 c17 c18 c19 c20 c21 c22 c23 c24 c25 c26 c27 c28 c29 c30 c31 c32 c33 c34 c35 c36 c37 c38 c39 c40 c41 c42 c43 c44 c45 c46 c47 c48 c49 c50 c51 c52 c53 c54 c55 c56 c57 c58 c59 c60 c61 c62 c63 c64 c65 c66 c67 c68 c69 c70 c71 c72 c73 c74 c75 c76 c77 c78 c79 c80 c81 c82 c83 c84 c85 c86 c87 c88 c89 c90 c91 c92 c93 c94 c95 c96 c97 c98 c99 c100 c101 c102 c103 c104 c105 c106 c107 c108 c109 c110 c111 c112 : Value}
    (hk : Hid (key.length = 32)) (hn : Hid (nonce.length = 12))
    (hA : Hid (n ≤ cap ∧ 0 < cap))
    (HC : Hid (Calls Try.prog 17 #[.pointer none, .agg (VN .u8 key), .int .u32 ((c : Nat) : Int), .agg (VN .u8 nonce), .slice (some ⟨g, 0, none⟩) n cap] W.drew fun e w' => e = .returned (.tuple #[]) ∧ R w'))
    (HS : Hid ((fun Y : World => RK Y q key 23 ∧ RK Y (q + 1) nonce 26) W.drew))
    (HSR : ∀ w', R w' → (fun Y : World => RK Y q key 23 ∧ RK Y (q + 1) nonce 26) w')
    (HPN : ∀ c (a : Act) d v w, Q (.panic c) (a.put d v) w → Q (.panic c) a w)
    (H : ∀ W', R W' → Q .normal ⟨#[c0, .int .u32 ((c : Nat) : Int), c2, c3, .pointer (some ⟨q, 0, none⟩), c5, .pointer (some ⟨q + 1, 0, none⟩), c7, c8, .int .i64 ((n : Nat) : Int), c10, .slice (some ⟨g, 0, none⟩) len cap, c12, c13, c14, c15, c16, c17, c18, c19, c20, c21, c22, c23, c24, c25, c26, c27, c28, c29, c30, c31, c32, c33, c34, c35, c36, c37, c38, c39, c40, c41, c42, c43, c44, c45, c46, c47, c48, c49, c50, c51, c52, c53, c54, c55, c56, c57, c58, c59, c60, c61, c62, c63, c64, c65, c66, c67, c68, c69, c70, c71, c72, c73, c74, c75, c76, c77, c78, c79, c80, .agg (VN .u8 key), .int .u32 ((c : Nat) : Int), .agg (VN .u8 nonce), .slice (some ⟨g, 0, none⟩) len cap, .int .i64 ((n : Nat) : Int), .slice (some ⟨g, 0, none⟩) n cap, .tuple #[], c88, c89, c90, c91, c92, c93, c94, c95, c96, c97, c98, c99, c100, c101, c102, c103, c104, c105, c106, c107, c108, c109, c110, c111, c112], []⟩ W') :
    Code.wp Try.prog rgTu19 Q ⟨#[c0, .int .u32 ((c : Nat) : Int), c2, c3, .pointer (some ⟨q, 0, none⟩), c5, .pointer (some ⟨q + 1, 0, none⟩), c7, c8, .int .i64 ((n : Nat) : Int), c10, .slice (some ⟨g, 0, none⟩) len cap, c12, c13, c14, c15, c16, c17, c18, c19, c20, c21, c22, c23, c24, c25, c26, c27, c28, c29, c30, c31, c32, c33, c34, c35, c36, c37, c38, c39, c40, c41, c42, c43, c44, c45, c46, c47, c48, c49, c50, c51, c52, c53, c54, c55, c56, c57, c58, c59, c60, c61, c62, c63, c64, c65, c66, c67, c68, c69, c70, c71, c72, c73, c74, c75, c76, c77, c78, c79, c80, c81, c82, c83, c84, c85, c86, c87, c88, c89, c90, c91, c92, c93, c94, c95, c96, c97, c98, c99, c100, c101, c102, c103, c104, c105, c106, c107, c108, c109, c110, c111, c112], []⟩ W := by
  rw [rgTu19_is]
  refine wp_region_held_drew (S := fun Y : World => RK Y q key 23 ∧ RK Y (q + 1) nonce 26) (by kernel_rfl) HS.out (fun hH => ?_)
  obtain ⟨a0, ha⟩ : ∃ a : Act, a = ⟨#[c0, .int .u32 ((c : Nat) : Int), c2, c3, .pointer (some ⟨q, 0, none⟩), c5, .pointer (some ⟨q + 1, 0, none⟩), c7, c8, .int .i64 ((n : Nat) : Int), c10, .slice (some ⟨g, 0, none⟩) len cap, c12, c13, c14, c15, c16, c17, c18, c19, c20, c21, c22, c23, c24, c25, c26, c27, c28, c29, c30, c31, c32, c33, c34, c35, c36, c37, c38, c39, c40, c41, c42, c43, c44, c45, c46, c47, c48, c49, c50, c51, c52, c53, c54, c55, c56, c57, c58, c59, c60, c61, c62, c63, c64, c65, c66, c67, c68, c69, c70, c71, c72, c73, c74, c75, c76, c77, c78, c79, c80, c81, c82, c83, c84, c85, c86, c87, c88, c89, c90, c91, c92, c93, c94, c95, c96, c97, c98, c99, c100, c101, c102, c103, c104, c105, c106, c107, c108, c109, c110, c111, c112], []⟩ := ⟨_, rfl⟩
  have sz0 : a0.tmps.size = 113 := by rw [ha]; kernel_rfl
  have e0_1 : a0.eval (.tmp 1) = .int .u32 ((c : Nat) : Int) := by rw [ha]; kernel_rfl
  have e0_4 : a0.eval (.tmp 4) = .pointer (some ⟨q, 0, none⟩) := by rw [ha]; kernel_rfl
  have e0_6 : a0.eval (.tmp 6) = .pointer (some ⟨q + 1, 0, none⟩) := by rw [ha]; kernel_rfl
  have e0_9 : a0.eval (.tmp 9) = .int .i64 ((n : Nat) : Int) := by rw [ha]; kernel_rfl
  have e0_11 : a0.eval (.tmp 11) = .slice (some ⟨g, 0, none⟩) len cap := by rw [ha]; kernel_rfl
  rw [← ha]
  refine wpAnyH_as (l' := #[false, false, false, false, false, false, false]) (by kernel_rfl) ?_
  refine takeH (v := .agg (VN .u8 key)) opTu19_0 opTu19_ns (by kernel_rfl) (by kernel_rfl) HPN (fun w hw o ho => run_loadKey hk.out ho e0_4 w hw.1) hH ?_
  refine wpAnyH_as (l' := #[true, false, false, false, false, false, false]) (by kernel_rfl) ?_
  obtain ⟨a1, h1⟩ : ∃ a' : Act, a' = a0.put (some 81) (.agg (VN .u8 key)) := ⟨_, rfl⟩
  rw [← h1]
  have sz1 : a1.tmps.size = 113 := by rw [h1, size_put]; exact sz0
  have e1_1 : a1.eval (.tmp 1) = .int .u32 ((c : Nat) : Int) := by rw [h1, eval_put_ne _ _ _ _ (by decide)]; exact e0_1
  have e1_6 : a1.eval (.tmp 6) = .pointer (some ⟨q + 1, 0, none⟩) := by rw [h1, eval_put_ne _ _ _ _ (by decide)]; exact e0_6
  have e1_9 : a1.eval (.tmp 9) = .int .i64 ((n : Nat) : Int) := by rw [h1, eval_put_ne _ _ _ _ (by decide)]; exact e0_9
  have e1_11 : a1.eval (.tmp 11) = .slice (some ⟨g, 0, none⟩) len cap := by rw [h1, eval_put_ne _ _ _ _ (by decide)]; exact e0_11
  have e1_81 : a1.eval (.tmp 81) = .agg (VN .u8 key) := by rw [h1]; exact eval_put_eq _ _ _ (by rw [sz0]; decide)
  clear e0_1 e0_11 e0_4 e0_6 e0_9 sz0
  refine takeH (v := .int .u32 ((c : Nat) : Int)) opTu19_1 opTu19_ns (by kernel_rfl) (by kernel_rfl) HPN (fun w hw o ho => run_move ho e1_1 w) hH ?_
  refine wpAnyH_as (l' := #[true, true, false, false, false, false, false]) (by kernel_rfl) ?_
  obtain ⟨a2, h2⟩ : ∃ a' : Act, a' = a1.put (some 82) (.int .u32 ((c : Nat) : Int)) := ⟨_, rfl⟩
  rw [← h2]
  have sz2 : a2.tmps.size = 113 := by rw [h2, size_put]; exact sz1
  have e2_6 : a2.eval (.tmp 6) = .pointer (some ⟨q + 1, 0, none⟩) := by rw [h2, eval_put_ne _ _ _ _ (by decide)]; exact e1_6
  have e2_9 : a2.eval (.tmp 9) = .int .i64 ((n : Nat) : Int) := by rw [h2, eval_put_ne _ _ _ _ (by decide)]; exact e1_9
  have e2_11 : a2.eval (.tmp 11) = .slice (some ⟨g, 0, none⟩) len cap := by rw [h2, eval_put_ne _ _ _ _ (by decide)]; exact e1_11
  have e2_81 : a2.eval (.tmp 81) = .agg (VN .u8 key) := by rw [h2, eval_put_ne _ _ _ _ (by decide)]; exact e1_81
  have e2_82 : a2.eval (.tmp 82) = .int .u32 ((c : Nat) : Int) := by rw [h2]; exact eval_put_eq _ _ _ (by rw [sz1]; decide)
  clear e1_1 e1_11 e1_6 e1_81 e1_9 sz1
  refine takeH (v := .agg (VN .u8 nonce)) opTu19_2 opTu19_ns (by kernel_rfl) (by kernel_rfl) HPN (fun w hw o ho => run_loadNonce hn.out ho e2_6 w hw.2) hH ?_
  refine wpAnyH_as (l' := #[true, true, true, false, false, false, false]) (by kernel_rfl) ?_
  obtain ⟨a3, h3⟩ : ∃ a' : Act, a' = a2.put (some 83) (.agg (VN .u8 nonce)) := ⟨_, rfl⟩
  rw [← h3]
  have sz3 : a3.tmps.size = 113 := by rw [h3, size_put]; exact sz2
  have e3_9 : a3.eval (.tmp 9) = .int .i64 ((n : Nat) : Int) := by rw [h3, eval_put_ne _ _ _ _ (by decide)]; exact e2_9
  have e3_11 : a3.eval (.tmp 11) = .slice (some ⟨g, 0, none⟩) len cap := by rw [h3, eval_put_ne _ _ _ _ (by decide)]; exact e2_11
  have e3_81 : a3.eval (.tmp 81) = .agg (VN .u8 key) := by rw [h3, eval_put_ne _ _ _ _ (by decide)]; exact e2_81
  have e3_82 : a3.eval (.tmp 82) = .int .u32 ((c : Nat) : Int) := by rw [h3, eval_put_ne _ _ _ _ (by decide)]; exact e2_82
  have e3_83 : a3.eval (.tmp 83) = .agg (VN .u8 nonce) := by rw [h3]; exact eval_put_eq _ _ _ (by rw [sz2]; decide)
  clear e2_11 e2_6 e2_81 e2_82 e2_9 sz2
  refine takeH (v := .slice (some ⟨g, 0, none⟩) len cap) opTu19_3 opTu19_ns (by kernel_rfl) (by kernel_rfl) HPN (fun w hw o ho => run_move ho e3_11 w) hH ?_
  refine wpAnyH_as (l' := #[true, true, true, true, false, false, false]) (by kernel_rfl) ?_
  obtain ⟨a4, h4⟩ : ∃ a' : Act, a' = a3.put (some 84) (.slice (some ⟨g, 0, none⟩) len cap) := ⟨_, rfl⟩
  rw [← h4]
  have sz4 : a4.tmps.size = 113 := by rw [h4, size_put]; exact sz3
  have e4_9 : a4.eval (.tmp 9) = .int .i64 ((n : Nat) : Int) := by rw [h4, eval_put_ne _ _ _ _ (by decide)]; exact e3_9
  have e4_81 : a4.eval (.tmp 81) = .agg (VN .u8 key) := by rw [h4, eval_put_ne _ _ _ _ (by decide)]; exact e3_81
  have e4_82 : a4.eval (.tmp 82) = .int .u32 ((c : Nat) : Int) := by rw [h4, eval_put_ne _ _ _ _ (by decide)]; exact e3_82
  have e4_83 : a4.eval (.tmp 83) = .agg (VN .u8 nonce) := by rw [h4, eval_put_ne _ _ _ _ (by decide)]; exact e3_83
  have e4_84 : a4.eval (.tmp 84) = .slice (some ⟨g, 0, none⟩) len cap := by rw [h4]; exact eval_put_eq _ _ _ (by rw [sz3]; decide)
  clear e3_11 e3_81 e3_82 e3_83 e3_9 sz3
  refine takeH (v := .int .i64 ((n : Nat) : Int)) opTu19_4 opTu19_ns (by kernel_rfl) (by kernel_rfl) HPN (fun w hw o ho => run_move ho e4_9 w) hH ?_
  refine wpAnyH_as (l' := #[true, true, true, true, true, false, false]) (by kernel_rfl) ?_
  obtain ⟨a5, h5⟩ : ∃ a' : Act, a' = a4.put (some 85) (.int .i64 ((n : Nat) : Int)) := ⟨_, rfl⟩
  rw [← h5]
  have sz5 : a5.tmps.size = 113 := by rw [h5, size_put]; exact sz4
  have e5_81 : a5.eval (.tmp 81) = .agg (VN .u8 key) := by rw [h5, eval_put_ne _ _ _ _ (by decide)]; exact e4_81
  have e5_82 : a5.eval (.tmp 82) = .int .u32 ((c : Nat) : Int) := by rw [h5, eval_put_ne _ _ _ _ (by decide)]; exact e4_82
  have e5_83 : a5.eval (.tmp 83) = .agg (VN .u8 nonce) := by rw [h5, eval_put_ne _ _ _ _ (by decide)]; exact e4_83
  have e5_84 : a5.eval (.tmp 84) = .slice (some ⟨g, 0, none⟩) len cap := by rw [h5, eval_put_ne _ _ _ _ (by decide)]; exact e4_84
  have e5_85 : a5.eval (.tmp 85) = .int .i64 ((n : Nat) : Int) := by rw [h5]; exact eval_put_eq _ _ _ (by rw [sz4]; decide)
  clear e4_81 e4_82 e4_83 e4_84 e4_9 sz4
  refine takeH (v := .slice (some ⟨g, 0, none⟩) n cap) opTu19_5 opTu19_ns (by kernel_rfl) (by kernel_rfl) HPN (fun w hw o ho => run_slicePre hA.out.1 hA.out.2 ho e5_84 e5_85 w) hH ?_
  refine wpAnyH_as (l' := #[true, true, true, true, true, true, false]) (by kernel_rfl) ?_
  obtain ⟨a6, h6⟩ : ∃ a' : Act, a' = a5.put (some 86) (.slice (some ⟨g, 0, none⟩) n cap) := ⟨_, rfl⟩
  rw [← h6]
  have sz6 : a6.tmps.size = 113 := by rw [h6, size_put]; exact sz5
  have e6_81 : a6.eval (.tmp 81) = .agg (VN .u8 key) := by rw [h6, eval_put_ne _ _ _ _ (by decide)]; exact e5_81
  have e6_82 : a6.eval (.tmp 82) = .int .u32 ((c : Nat) : Int) := by rw [h6, eval_put_ne _ _ _ _ (by decide)]; exact e5_82
  have e6_83 : a6.eval (.tmp 83) = .agg (VN .u8 nonce) := by rw [h6, eval_put_ne _ _ _ _ (by decide)]; exact e5_83
  have e6_86 : a6.eval (.tmp 86) = .slice (some ⟨g, 0, none⟩) n cap := by rw [h6]; exact eval_put_eq _ _ _ (by rw [sz5]; decide)
  clear e5_81 e5_82 e5_83 e5_84 e5_85 sz5
  refine readyH opTu19_6 (by kernel_rfl) (fun o ho hd => wpCall (v := .tuple #[]) ho hd (args := #[.pointer none, .agg (VN .u8 key), .int .u32 ((c : Nat) : Int), .agg (VN .u8 nonce), .slice (some ⟨g, 0, none⟩) n cap]) (by simp only [List.map_toArray, List.map_cons, List.map_nil, e6_81, e6_82, e6_83, e6_86] <;> rfl) (fun _ => rfl) HC.out (fun w1 hw1 => ?_))
  refine ⟨HSR w1 hw1, ?_⟩
  refine wpAnyH_as (l' := #[true, true, true, true, true, true, true]) (by kernel_rfl) ?_
  obtain ⟨a7, h7⟩ : ∃ a' : Act, a' = a6.put (some 87) (.tuple #[]) := ⟨_, rfl⟩
  rw [← h7]
  have sz7 : a7.tmps.size = 113 := by rw [h7, size_put]; exact sz6
  clear e6_81 e6_82 e6_83 e6_86 sz6
  refine wpAnyH_done (by kernel_rfl) ?_ _
  have hF : a7 = ⟨#[c0, .int .u32 ((c : Nat) : Int), c2, c3, .pointer (some ⟨q, 0, none⟩), c5, .pointer (some ⟨q + 1, 0, none⟩), c7, c8, .int .i64 ((n : Nat) : Int), c10, .slice (some ⟨g, 0, none⟩) len cap, c12, c13, c14, c15, c16, c17, c18, c19, c20, c21, c22, c23, c24, c25, c26, c27, c28, c29, c30, c31, c32, c33, c34, c35, c36, c37, c38, c39, c40, c41, c42, c43, c44, c45, c46, c47, c48, c49, c50, c51, c52, c53, c54, c55, c56, c57, c58, c59, c60, c61, c62, c63, c64, c65, c66, c67, c68, c69, c70, c71, c72, c73, c74, c75, c76, c77, c78, c79, c80, .agg (VN .u8 key), .int .u32 ((c : Nat) : Int), .agg (VN .u8 nonce), .slice (some ⟨g, 0, none⟩) len cap, .int .i64 ((n : Nat) : Int), .slice (some ⟨g, 0, none⟩) n cap, .tuple #[], c88, c89, c90, c91, c92, c93, c94, c95, c96, c97, c98, c99, c100, c101, c102, c103, c104, c105, c106, c107, c108, c109, c110, c111, c112], []⟩ := by rw [h7, h6, h5, h4, h3, h2, h1, ha]; kernel_rfl
  rw [hF]
  exact H _ hw1
end Go.Proofs.Ytefnlaookmpbhaa
