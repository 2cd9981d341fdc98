import Derived.Test.YtgfamcadgahiiabMacR
namespace Go.Proofs.Ytgfamcadgahiiab
set_option linter.unusedSimpArgs false
set_option linter.unusedVariables false
open Go.ChangeShapes Go.WideShapes Go.ChangeAt Go.RowKit Go.Pin Go.Prm
noncomputable def rgTg4 : Code := ((Try.f17.body.bind (findReg 4)).getD .skip)
noncomputable def opTg4 : Array Oper := opsOf rgTg4
theorem rgTg4_is : rgTg4 = .region 4 opTg4 true := by kernel_rfl
theorem opTg4_ns : Region.noSelect opTg4 = true := by kernel_rfl
theorem opTg4_0 : opIs opTg4 0 (.move (.tmp 0)) (some 12) := by unfold opIs; kernel_rfl
theorem opTg4_1 : opIs opTg4 1 (.nilCheck (.tmp 12)) (some 13) := by unfold opIs; kernel_rfl
theorem opTg4_2 : opIs opTg4 2 (.fieldAddr 73 (.tmp 13) 0) (some 14) := by unfold opIs; kernel_rfl
theorem opTg4_3 : opIs opTg4 3 (.load 33 (.tmp 14)) (some 15) := by unfold opIs; kernel_rfl
theorem opTg4_4 : opIs opTg4 4 (.move (.tmp 0)) (some 16) := by unfold opIs; kernel_rfl
theorem opTg4_5 : opIs opTg4 5 (.nilCheck (.tmp 16)) (some 17) := by unfold opIs; kernel_rfl
theorem opTg4_6 : opIs opTg4 6 (.fieldAddr 73 (.tmp 17) 5) (some 18) := by unfold opIs; kernel_rfl
theorem opTg4_7 : opIs opTg4 7 (.load 3 (.tmp 18)) (some 19) := by unfold opIs; kernel_rfl
theorem opTg4_8 : opIs opTg4 8 (.binOp .gtr 3 (.tmp 19) (.const (.int .i64 0)) 3) (some 20) := by unfold opIs; kernel_rfl
theorem opTg4_9 : opIs opTg4 9 (.call { callee := .value (.func 14), args := #[.tmp 15, .tmp 20], argTypes := #[33, 4] }) (some 21) := by unfold opIs; kernel_rfl
set_option maxRecDepth 100000 in
set_option maxHeartbeats 4000000 in
theorem Tg4 {Q : Exit → Act → World → Prop} {W : World} {R0 : World → Prop} {R1 : World → Prop} {g h : Nat} {rv : Value} {r m s b : List Int} {c1 c2 c3 c4 c5 c6 c7 c8 c9 c10 c11 c12 c13 c14 c15 c16 c17 c18 c19 c20 c21 c22 c23 c24 c25 c26 c27 c28 c29 c30 c31 c32 c33 c34 c35 c36 c37 c38 c39 c40 c41 c42 c43 c44 c45 : Value}
    (hM : Hid (MS r m s b))
    (hR0 : R0 W.drew) (HS0 : ∀ Y, R0 Y → (fun Y : World => Y.heap[g]? = some (macO rv r m s b h) ∧ True) Y)
    (HK0 : Hid (∀ Y, R0 Y → Calls Try.prog 14 #[rv, .bool (decide (0 < h))] Y fun e w' => e = .returned (.bool (decide (0 < h))) ∧ R1 w'))
    (HS1 : ∀ Y, R1 Y → (fun Y : World => Y.heap[g]? = some (macO rv r m s b h) ∧ True) Y)
    (HPN : ∀ c (a : Act) d v w, Q (.panic c) (a.put d v) w → Q (.panic c) a w)
    (H : ∀ W', R1 W' → Q .normal ⟨#[.pointer (some ⟨g, 0, none⟩), c1, c2, c3, c4, c5, c6, c7, c8, c9, c10, c11, .pointer (some ⟨g, 0, none⟩), .pointer (some ⟨g, 0, none⟩), .pointer (some ⟨g, 0, none⟩), rv, .pointer (some ⟨g, 0, none⟩), .pointer (some ⟨g, 0, none⟩), .pointer (some ⟨g, 44, none⟩), .int .i64 ((h : Nat) : Int), .bool (decide (0 < h)), .bool (decide (0 < h)), c22, c23, c24, c25, c26, c27, c28, c29, c30, c31, c32, c33, c34, c35, c36, c37, c38, c39, c40, c41, c42, c43, c44, c45], []⟩ W') :
    Code.wp Try.prog rgTg4 Q ⟨#[.pointer (some ⟨g, 0, none⟩), c1, c2, c3, c4, c5, c6, c7, c8, c9, c10, c11, c12, c13, c14, c15, c16, c17, c18, c19, c20, c21, c22, c23, c24, c25, c26, c27, c28, c29, c30, c31, c32, c33, c34, c35, c36, c37, c38, c39, c40, c41, c42, c43, c44, c45], []⟩ W := by
  rw [rgTg4_is]
  refine wp_region_held_drew (S := fun Y : World => Y.heap[g]? = some (macO rv r m s b h) ∧ True) (by kernel_rfl) (HS0 _ hR0) (fun hH => ?_)
  obtain ⟨w0, hw00⟩ : ∃ V, W.drew = V := ⟨_, rfl⟩
  clear hH
  rw [hw00] at hR0 ⊢
  have hH := HS0 _ hR0
  have hw0 := hR0
  clear hw00
  obtain ⟨a0, ha⟩ : ∃ a : Act, a = ⟨#[.pointer (some ⟨g, 0, none⟩), c1, c2, c3, c4, c5, c6, c7, c8, c9, c10, c11, c12, c13, c14, c15, c16, c17, c18, c19, c20, c21, c22, c23, c24, c25, c26, c27, c28, c29, c30, c31, c32, c33, c34, c35, c36, c37, c38, c39, c40, c41, c42, c43, c44, c45], []⟩ := ⟨_, rfl⟩
  have sz0 : a0.tmps.size = 46 := by rw [ha]; kernel_rfl
  have e0_0 : a0.eval (.tmp 0) = .pointer (some ⟨g, 0, none⟩) := by rw [ha]; kernel_rfl
  rw [← ha]
  refine wpAnyH_as (l' := #[false, false, false, false, false, false, false, false, false, false]) (by kernel_rfl) ?_
  refine takeH (v := .pointer (some ⟨g, 0, none⟩)) opTg4_0 opTg4_ns (by kernel_rfl) (by kernel_rfl) HPN (fun w hw o ho => run_move ho e0_0 w) hH ?_
  refine wpAnyH_as (l' := #[true, false, false, false, false, false, false, false, false, false]) (by kernel_rfl) ?_
  obtain ⟨a1, h1⟩ : ∃ a' : Act, a' = a0.put (some 12) (.pointer (some ⟨g, 0, none⟩)) := ⟨_, rfl⟩
  rw [← h1]
  have sz1 : a1.tmps.size = 46 := by rw [h1, size_put]; exact sz0
  have e1_0 : a1.eval (.tmp 0) = .pointer (some ⟨g, 0, none⟩) := by rw [h1, eval_put_ne _ _ _ _ (by decide)]; exact e0_0
  have e1_12 : a1.eval (.tmp 12) = .pointer (some ⟨g, 0, none⟩) := by rw [h1]; exact eval_put_eq _ _ _ (by rw [sz0]; decide)
  clear e0_0 sz0
  refine takeH (v := .pointer (some ⟨g, 0, none⟩)) opTg4_1 opTg4_ns (by kernel_rfl) (by kernel_rfl) HPN (fun w hw o ho => run_nilCheck ho e1_12 w) hH ?_
  refine wpAnyH_as (l' := #[true, true, false, false, false, false, false, false, false, false]) (by kernel_rfl) ?_
  obtain ⟨a2, h2⟩ : ∃ a' : Act, a' = a1.put (some 13) (.pointer (some ⟨g, 0, none⟩)) := ⟨_, rfl⟩
  rw [← h2]
  have sz2 : a2.tmps.size = 46 := by rw [h2, size_put]; exact sz1
  have e2_0 : a2.eval (.tmp 0) = .pointer (some ⟨g, 0, none⟩) := by rw [h2, eval_put_ne _ _ _ _ (by decide)]; exact e1_0
  have e2_13 : a2.eval (.tmp 13) = .pointer (some ⟨g, 0, none⟩) := by rw [h2]; exact eval_put_eq _ _ _ (by rw [sz1]; decide)
  clear e1_0 e1_12 sz1
  refine takeH (v := .pointer (some ⟨g, 0, none⟩)) opTg4_2 opTg4_ns (by kernel_rfl) (by kernel_rfl) HPN (fun w hw o ho => run_fM0 ho e2_13 w) hH ?_
  refine wpAnyH_as (l' := #[true, true, true, false, false, false, false, false, false, false]) (by kernel_rfl) ?_
  obtain ⟨a3, h3⟩ : ∃ a' : Act, a' = a2.put (some 14) (.pointer (some ⟨g, 0, none⟩)) := ⟨_, rfl⟩
  rw [← h3]
  have sz3 : a3.tmps.size = 46 := by rw [h3, size_put]; exact sz2
  have e3_0 : a3.eval (.tmp 0) = .pointer (some ⟨g, 0, none⟩) := by rw [h3, eval_put_ne _ _ _ _ (by decide)]; exact e2_0
  have e3_14 : a3.eval (.tmp 14) = .pointer (some ⟨g, 0, none⟩) := by rw [h3]; exact eval_put_eq _ _ _ (by rw [sz2]; decide)
  clear e2_0 e2_13 sz2
  refine takeH (v := rv) opTg4_3 opTg4_ns (by kernel_rfl) (by kernel_rfl) HPN (fun w hw o ho => run_ldR ho e3_14 w (mac_r hw.1)) hH ?_
  refine wpAnyH_as (l' := #[true, true, true, true, false, false, false, false, false, false]) (by kernel_rfl) ?_
  obtain ⟨a4, h4⟩ : ∃ a' : Act, a' = a3.put (some 15) (rv) := ⟨_, rfl⟩
  rw [← h4]
  have sz4 : a4.tmps.size = 46 := by rw [h4, size_put]; exact sz3
  have e4_0 : a4.eval (.tmp 0) = .pointer (some ⟨g, 0, none⟩) := by rw [h4, eval_put_ne _ _ _ _ (by decide)]; exact e3_0
  have e4_15 : a4.eval (.tmp 15) = rv := by rw [h4]; exact eval_put_eq _ _ _ (by rw [sz3]; decide)
  clear e3_0 e3_14 sz3
  refine takeH (v := .pointer (some ⟨g, 0, none⟩)) opTg4_4 opTg4_ns (by kernel_rfl) (by kernel_rfl) HPN (fun w hw o ho => run_move ho e4_0 w) hH ?_
  refine wpAnyH_as (l' := #[true, true, true, true, true, false, false, false, false, false]) (by kernel_rfl) ?_
  obtain ⟨a5, h5⟩ : ∃ a' : Act, a' = a4.put (some 16) (.pointer (some ⟨g, 0, none⟩)) := ⟨_, rfl⟩
  rw [← h5]
  have sz5 : a5.tmps.size = 46 := by rw [h5, size_put]; exact sz4
  have e5_15 : a5.eval (.tmp 15) = rv := by rw [h5, eval_put_ne _ _ _ _ (by decide)]; exact e4_15
  have e5_16 : a5.eval (.tmp 16) = .pointer (some ⟨g, 0, none⟩) := by rw [h5]; exact eval_put_eq _ _ _ (by rw [sz4]; decide)
  clear e4_0 e4_15 sz4
  refine takeH (v := .pointer (some ⟨g, 0, none⟩)) opTg4_5 opTg4_ns (by kernel_rfl) (by kernel_rfl) HPN (fun w hw o ho => run_nilCheck ho e5_16 w) hH ?_
  refine wpAnyH_as (l' := #[true, true, true, true, true, true, false, false, false, false]) (by kernel_rfl) ?_
  obtain ⟨a6, h6⟩ : ∃ a' : Act, a' = a5.put (some 17) (.pointer (some ⟨g, 0, none⟩)) := ⟨_, rfl⟩
  rw [← h6]
  have sz6 : a6.tmps.size = 46 := by rw [h6, size_put]; exact sz5
  have e6_15 : a6.eval (.tmp 15) = rv := by rw [h6, eval_put_ne _ _ _ _ (by decide)]; exact e5_15
  have e6_17 : a6.eval (.tmp 17) = .pointer (some ⟨g, 0, none⟩) := by rw [h6]; exact eval_put_eq _ _ _ (by rw [sz5]; decide)
  clear e5_15 e5_16 sz5
  refine takeH (v := .pointer (some ⟨g, 44, none⟩)) opTg4_6 opTg4_ns (by kernel_rfl) (by kernel_rfl) HPN (fun w hw o ho => run_fM5 ho e6_17 w) hH ?_
  refine wpAnyH_as (l' := #[true, true, true, true, true, true, true, false, false, false]) (by kernel_rfl) ?_
  obtain ⟨a7, h7⟩ : ∃ a' : Act, a' = a6.put (some 18) (.pointer (some ⟨g, 44, none⟩)) := ⟨_, rfl⟩
  rw [← h7]
  have sz7 : a7.tmps.size = 46 := by rw [h7, size_put]; exact sz6
  have e7_15 : a7.eval (.tmp 15) = rv := by rw [h7, eval_put_ne _ _ _ _ (by decide)]; exact e6_15
  have e7_18 : a7.eval (.tmp 18) = .pointer (some ⟨g, 44, none⟩) := by rw [h7]; exact eval_put_eq _ _ _ (by rw [sz6]; decide)
  clear e6_15 e6_17 sz6
  refine takeH (v := .int .i64 ((h : Nat) : Int)) opTg4_7 opTg4_ns (by kernel_rfl) (by kernel_rfl) HPN (fun w hw o ho => run_ldI ho e7_18 w (mac_held hM.out.r.len hM.out.m.len hM.out.s.len hM.out.b.len hw.1)) hH ?_
  refine wpAnyH_as (l' := #[true, true, true, true, true, true, true, true, false, false]) (by kernel_rfl) ?_
  obtain ⟨a8, h8⟩ : ∃ a' : Act, a' = a7.put (some 19) (.int .i64 ((h : Nat) : Int)) := ⟨_, rfl⟩
  rw [← h8]
  have sz8 : a8.tmps.size = 46 := by rw [h8, size_put]; exact sz7
  have e8_15 : a8.eval (.tmp 15) = rv := by rw [h8, eval_put_ne _ _ _ _ (by decide)]; exact e7_15
  have e8_19 : a8.eval (.tmp 19) = .int .i64 ((h : Nat) : Int) := by rw [h8]; exact eval_put_eq _ _ _ (by rw [sz7]; decide)
  clear e7_15 e7_18 sz7
  refine takeH (v := .bool (decide (0 < h))) opTg4_8 opTg4_ns (by kernel_rfl) (by kernel_rfl) HPN (fun w hw o ho => run_gtr ho e8_19 rfl w) hH ?_
  refine wpAnyH_as (l' := #[true, true, true, true, true, true, true, true, true, false]) (by kernel_rfl) ?_
  obtain ⟨a9, h9⟩ : ∃ a' : Act, a' = a8.put (some 20) (.bool (decide (0 < h))) := ⟨_, rfl⟩
  rw [← h9]
  have sz9 : a9.tmps.size = 46 := by rw [h9, size_put]; exact sz8
  have e9_15 : a9.eval (.tmp 15) = rv := by rw [h9, eval_put_ne _ _ _ _ (by decide)]; exact e8_15
  have e9_20 : a9.eval (.tmp 20) = .bool (decide (0 < h)) := by rw [h9]; exact eval_put_eq _ _ _ (by rw [sz8]; decide)
  clear e8_15 e8_19 sz8
  refine readyH opTg4_9 (by kernel_rfl) (fun o ho hd => wpCall (v := .bool (decide (0 < h))) ho hd (args := #[rv, .bool (decide (0 < h))]) (by simp only [List.map_toArray, List.map_cons, List.map_nil, e9_15, e9_20] <;> rfl) (fun _ => rfl) (HK0.out  w0 hw0) (fun w1 hw1 => ?_))
  have hH := HS1  w1 hw1
  refine ⟨hH, ?_⟩
  refine wpAnyH_as (l' := #[true, true, true, true, true, true, true, true, true, true]) (by kernel_rfl) ?_
  obtain ⟨a10, h10⟩ : ∃ a' : Act, a' = a9.put (some 21) (.bool (decide (0 < h))) := ⟨_, rfl⟩
  rw [← h10]
  have sz10 : a10.tmps.size = 46 := by rw [h10, size_put]; exact sz9
  clear e9_15 e9_20 sz9
  refine wpAnyH_done (by kernel_rfl) ?_ _
  have hF : a10 = ⟨#[.pointer (some ⟨g, 0, none⟩), c1, c2, c3, c4, c5, c6, c7, c8, c9, c10, c11, .pointer (some ⟨g, 0, none⟩), .pointer (some ⟨g, 0, none⟩), .pointer (some ⟨g, 0, none⟩), rv, .pointer (some ⟨g, 0, none⟩), .pointer (some ⟨g, 0, none⟩), .pointer (some ⟨g, 44, none⟩), .int .i64 ((h : Nat) : Int), .bool (decide (0 < h)), .bool (decide (0 < h)), c22, c23, c24, c25, c26, c27, c28, c29, c30, c31, c32, c33, c34, c35, c36, c37, c38, c39, c40, c41, c42, c43, c44, c45], []⟩ := by rw [h10, h9, h8, h7, h6, h5, h4, h3, h2, h1, ha]; kernel_rfl
  rw [hF]
  exact H  _ hw1
noncomputable def rgTg6 : Code := ((Try.f17.body.bind (findReg 6)).getD .skip)
noncomputable def opTg6 : Array Oper := opsOf rgTg6
theorem rgTg6_is : rgTg6 = .region 6 opTg6 true := by kernel_rfl
theorem opTg6_ns : Region.noSelect opTg6 = true := by kernel_rfl
theorem opTg6_0 : opIs opTg6 0 (.move (.tmp 0)) (some 26) := by unfold opIs; kernel_rfl
theorem opTg6_1 : opIs opTg6 1 (.nilCheck (.tmp 26)) (some 27) := by unfold opIs; kernel_rfl
theorem opTg6_2 : opIs opTg6 2 (.fieldAddr 73 (.tmp 27) 0) (some 28) := by unfold opIs; kernel_rfl
theorem opTg6_3 : opIs opTg6 3 (.load 33 (.tmp 28)) (some 29) := by unfold opIs; kernel_rfl
theorem opTg6_4 : opIs opTg6 4 (.move (.tmp 0)) (some 30) := by unfold opIs; kernel_rfl
theorem opTg6_5 : opIs opTg6 5 (.nilCheck (.tmp 30)) (some 31) := by unfold opIs; kernel_rfl
theorem opTg6_6 : opIs opTg6 6 (.fieldAddr 73 (.tmp 31) 5) (some 32) := by unfold opIs; kernel_rfl
theorem opTg6_7 : opIs opTg6 7 (.load 3 (.tmp 32)) (some 33) := by unfold opIs; kernel_rfl
theorem opTg6_8 : opIs opTg6 8 (.call { callee := .value (.func 16), args := #[.tmp 29, .tmp 33], argTypes := #[33, 3] }) (some 34) := by unfold opIs; kernel_rfl
theorem opTg6_9 : opIs opTg6 9 (.indexAddr 71 (.tmp 4) (.tmp 34)) (some 35) := by unfold opIs; kernel_rfl
theorem opTg6_10 : opIs opTg6 10 (.store 5 (.tmp 35) (.const (.int .u8 1))) (none) := by unfold opIs; kernel_rfl
set_option maxRecDepth 100000 in
set_option maxHeartbeats 4000000 in
theorem Tg6 {Q : Exit → Act → World → Prop} {W : World} {R0 : World → Prop} {R1 : World → Prop} {R2 : World → Prop} {g h : Nat} {rv : Value} {r m s b : List Int} {p4 : Nat} {c1 c2 c3 c5 c6 c7 c8 c9 c10 c11 c12 c13 c14 c15 c16 c17 c18 c19 c20 c21 c22 c23 c24 c25 c26 c27 c28 c29 c30 c31 c32 c33 c34 c35 c36 c37 c38 c39 c40 c41 c42 c43 c44 c45 : Value}
    (hM : Hid (MS r m s b))
    (hH17 : Hid (h < 17))
    (hR0 : R0 W.drew) (HS0 : ∀ Y, R0 Y → (fun Y : World => Y.heap[g]? = some (macO rv r m s b h) ∧ True) Y)
    (HK0 : Hid (∀ Y, R0 Y → Calls Try.prog 16 #[rv, .int .i64 ((h : Nat) : Int)] Y fun e w' => e = .returned (.int .i64 ((h : Nat) : Int)) ∧ R1 w'))
    (HS1 : ∀ Y, R1 Y → (fun Y : World => Y.heap[g]? = some (macO rv r m s b h) ∧ True) Y)
    (HK1 : Hid (∀ Y, R1 Y → ∀ (a : Act) (o : Oper) (K : Act → World → Prop) (Q : Exit → Act → World → Prop), o.op = .store 5 (.tmp 35) (.const (.int .u8 1)) → o.dst = none → a.eval (.tmp 35) = .pointer (some ⟨p4, h, none⟩) → (∀ w', R2 w' → K a w') → Oper.wp Try.prog o a Y K Q))
    (HS2 : ∀ Y, R2 Y → (fun Y : World => Y.heap[g]? = some (macO rv r m s b h) ∧ True) Y)
    (HPN : ∀ c (a : Act) d v w, Q (.panic c) (a.put d v) w → Q (.panic c) a w)
    (H : ∀ W', R2 W' → Q .normal ⟨#[.pointer (some ⟨g, 0, none⟩), c1, c2, c3, .pointer (some ⟨p4, 0, none⟩), c5, c6, c7, c8, c9, c10, c11, c12, c13, c14, c15, c16, c17, c18, c19, c20, c21, c22, c23, c24, c25, .pointer (some ⟨g, 0, none⟩), .pointer (some ⟨g, 0, none⟩), .pointer (some ⟨g, 0, none⟩), rv, .pointer (some ⟨g, 0, none⟩), .pointer (some ⟨g, 0, none⟩), .pointer (some ⟨g, 44, none⟩), .int .i64 ((h : Nat) : Int), .int .i64 ((h : Nat) : Int), .pointer (some ⟨p4, h, none⟩), c36, c37, c38, c39, c40, c41, c42, c43, c44, c45], []⟩ W') :
    Code.wp Try.prog rgTg6 Q ⟨#[.pointer (some ⟨g, 0, none⟩), c1, c2, c3, .pointer (some ⟨p4, 0, none⟩), c5, c6, c7, c8, c9, c10, c11, c12, c13, c14, c15, c16, c17, c18, c19, c20, c21, c22, c23, c24, c25, c26, c27, c28, c29, c30, c31, c32, c33, c34, c35, c36, c37, c38, c39, c40, c41, c42, c43, c44, c45], []⟩ W := by
  rw [rgTg6_is]
  refine wp_region_held_drew (S := fun Y : World => Y.heap[g]? = some (macO rv r m s b h) ∧ True) (by kernel_rfl) (HS0 _ hR0) (fun hH => ?_)
  obtain ⟨w0, hw00⟩ : ∃ V, W.drew = V := ⟨_, rfl⟩
  clear hH
  rw [hw00] at hR0 ⊢
  have hH := HS0 _ hR0
  have hw0 := hR0
  clear hw00
  obtain ⟨a0, ha⟩ : ∃ a : Act, a = ⟨#[.pointer (some ⟨g, 0, none⟩), c1, c2, c3, .pointer (some ⟨p4, 0, none⟩), c5, c6, c7, c8, c9, c10, c11, c12, c13, c14, c15, c16, c17, c18, c19, c20, c21, c22, c23, c24, c25, c26, c27, c28, c29, c30, c31, c32, c33, c34, c35, c36, c37, c38, c39, c40, c41, c42, c43, c44, c45], []⟩ := ⟨_, rfl⟩
  have sz0 : a0.tmps.size = 46 := by rw [ha]; kernel_rfl
  have e0_0 : a0.eval (.tmp 0) = .pointer (some ⟨g, 0, none⟩) := by rw [ha]; kernel_rfl
  have e0_4 : a0.eval (.tmp 4) = .pointer (some ⟨p4, 0, none⟩) := by rw [ha]; kernel_rfl
  rw [← ha]
  refine wpAnyH_as (l' := #[false, false, false, false, false, false, false, false, false, false, false]) (by kernel_rfl) ?_
  refine takeH (v := .pointer (some ⟨g, 0, none⟩)) opTg6_0 opTg6_ns (by kernel_rfl) (by kernel_rfl) HPN (fun w hw o ho => run_move ho e0_0 w) hH ?_
  refine wpAnyH_as (l' := #[true, false, false, false, false, false, false, false, false, false, false]) (by kernel_rfl) ?_
  obtain ⟨a1, h1⟩ : ∃ a' : Act, a' = a0.put (some 26) (.pointer (some ⟨g, 0, none⟩)) := ⟨_, rfl⟩
  rw [← h1]
  have sz1 : a1.tmps.size = 46 := by rw [h1, size_put]; exact sz0
  have e1_0 : a1.eval (.tmp 0) = .pointer (some ⟨g, 0, none⟩) := by rw [h1, eval_put_ne _ _ _ _ (by decide)]; exact e0_0
  have e1_4 : a1.eval (.tmp 4) = .pointer (some ⟨p4, 0, none⟩) := by rw [h1, eval_put_ne _ _ _ _ (by decide)]; exact e0_4
  have e1_26 : a1.eval (.tmp 26) = .pointer (some ⟨g, 0, none⟩) := by rw [h1]; exact eval_put_eq _ _ _ (by rw [sz0]; decide)
  clear e0_0 e0_4 sz0
  refine takeH (v := .pointer (some ⟨g, 0, none⟩)) opTg6_1 opTg6_ns (by kernel_rfl) (by kernel_rfl) HPN (fun w hw o ho => run_nilCheck ho e1_26 w) hH ?_
  refine wpAnyH_as (l' := #[true, true, false, false, false, false, false, false, false, false, false]) (by kernel_rfl) ?_
  obtain ⟨a2, h2⟩ : ∃ a' : Act, a' = a1.put (some 27) (.pointer (some ⟨g, 0, none⟩)) := ⟨_, rfl⟩
  rw [← h2]
  have sz2 : a2.tmps.size = 46 := by rw [h2, size_put]; exact sz1
  have e2_0 : a2.eval (.tmp 0) = .pointer (some ⟨g, 0, none⟩) := by rw [h2, eval_put_ne _ _ _ _ (by decide)]; exact e1_0
  have e2_4 : a2.eval (.tmp 4) = .pointer (some ⟨p4, 0, none⟩) := by rw [h2, eval_put_ne _ _ _ _ (by decide)]; exact e1_4
  have e2_27 : a2.eval (.tmp 27) = .pointer (some ⟨g, 0, none⟩) := by rw [h2]; exact eval_put_eq _ _ _ (by rw [sz1]; decide)
  clear e1_0 e1_26 e1_4 sz1
  refine takeH (v := .pointer (some ⟨g, 0, none⟩)) opTg6_2 opTg6_ns (by kernel_rfl) (by kernel_rfl) HPN (fun w hw o ho => run_fM0 ho e2_27 w) hH ?_
  refine wpAnyH_as (l' := #[true, true, true, false, false, false, false, false, false, false, false]) (by kernel_rfl) ?_
  obtain ⟨a3, h3⟩ : ∃ a' : Act, a' = a2.put (some 28) (.pointer (some ⟨g, 0, none⟩)) := ⟨_, rfl⟩
  rw [← h3]
  have sz3 : a3.tmps.size = 46 := by rw [h3, size_put]; exact sz2
  have e3_0 : a3.eval (.tmp 0) = .pointer (some ⟨g, 0, none⟩) := by rw [h3, eval_put_ne _ _ _ _ (by decide)]; exact e2_0
  have e3_4 : a3.eval (.tmp 4) = .pointer (some ⟨p4, 0, none⟩) := by rw [h3, eval_put_ne _ _ _ _ (by decide)]; exact e2_4
  have e3_28 : a3.eval (.tmp 28) = .pointer (some ⟨g, 0, none⟩) := by rw [h3]; exact eval_put_eq _ _ _ (by rw [sz2]; decide)
  clear e2_0 e2_27 e2_4 sz2
  refine takeH (v := rv) opTg6_3 opTg6_ns (by kernel_rfl) (by kernel_rfl) HPN (fun w hw o ho => run_ldR ho e3_28 w (mac_r hw.1)) hH ?_
  refine wpAnyH_as (l' := #[true, true, true, true, false, false, false, false, false, false, false]) (by kernel_rfl) ?_
  obtain ⟨a4, h4⟩ : ∃ a' : Act, a' = a3.put (some 29) (rv) := ⟨_, rfl⟩
  rw [← h4]
  have sz4 : a4.tmps.size = 46 := by rw [h4, size_put]; exact sz3
  have e4_0 : a4.eval (.tmp 0) = .pointer (some ⟨g, 0, none⟩) := by rw [h4, eval_put_ne _ _ _ _ (by decide)]; exact e3_0
  have e4_4 : a4.eval (.tmp 4) = .pointer (some ⟨p4, 0, none⟩) := by rw [h4, eval_put_ne _ _ _ _ (by decide)]; exact e3_4
  have e4_29 : a4.eval (.tmp 29) = rv := by rw [h4]; exact eval_put_eq _ _ _ (by rw [sz3]; decide)
  clear e3_0 e3_28 e3_4 sz3
  refine takeH (v := .pointer (some ⟨g, 0, none⟩)) opTg6_4 opTg6_ns (by kernel_rfl) (by kernel_rfl) HPN (fun w hw o ho => run_move ho e4_0 w) hH ?_
  refine wpAnyH_as (l' := #[true, true, true, true, true, false, false, false, false, false, false]) (by kernel_rfl) ?_
  obtain ⟨a5, h5⟩ : ∃ a' : Act, a' = a4.put (some 30) (.pointer (some ⟨g, 0, none⟩)) := ⟨_, rfl⟩
  rw [← h5]
  have sz5 : a5.tmps.size = 46 := by rw [h5, size_put]; exact sz4
  have e5_4 : a5.eval (.tmp 4) = .pointer (some ⟨p4, 0, none⟩) := by rw [h5, eval_put_ne _ _ _ _ (by decide)]; exact e4_4
  have e5_29 : a5.eval (.tmp 29) = rv := by rw [h5, eval_put_ne _ _ _ _ (by decide)]; exact e4_29
  have e5_30 : a5.eval (.tmp 30) = .pointer (some ⟨g, 0, none⟩) := by rw [h5]; exact eval_put_eq _ _ _ (by rw [sz4]; decide)
  clear e4_0 e4_29 e4_4 sz4
  refine takeH (v := .pointer (some ⟨g, 0, none⟩)) opTg6_5 opTg6_ns (by kernel_rfl) (by kernel_rfl) HPN (fun w hw o ho => run_nilCheck ho e5_30 w) hH ?_
  refine wpAnyH_as (l' := #[true, true, true, true, true, true, false, false, false, false, false]) (by kernel_rfl) ?_
  obtain ⟨a6, h6⟩ : ∃ a' : Act, a' = a5.put (some 31) (.pointer (some ⟨g, 0, none⟩)) := ⟨_, rfl⟩
  rw [← h6]
  have sz6 : a6.tmps.size = 46 := by rw [h6, size_put]; exact sz5
  have e6_4 : a6.eval (.tmp 4) = .pointer (some ⟨p4, 0, none⟩) := by rw [h6, eval_put_ne _ _ _ _ (by decide)]; exact e5_4
  have e6_29 : a6.eval (.tmp 29) = rv := by rw [h6, eval_put_ne _ _ _ _ (by decide)]; exact e5_29
  have e6_31 : a6.eval (.tmp 31) = .pointer (some ⟨g, 0, none⟩) := by rw [h6]; exact eval_put_eq _ _ _ (by rw [sz5]; decide)
  clear e5_29 e5_30 e5_4 sz5
  refine takeH (v := .pointer (some ⟨g, 44, none⟩)) opTg6_6 opTg6_ns (by kernel_rfl) (by kernel_rfl) HPN (fun w hw o ho => run_fM5 ho e6_31 w) hH ?_
  refine wpAnyH_as (l' := #[true, true, true, true, true, true, true, false, false, false, false]) (by kernel_rfl) ?_
  obtain ⟨a7, h7⟩ : ∃ a' : Act, a' = a6.put (some 32) (.pointer (some ⟨g, 44, none⟩)) := ⟨_, rfl⟩
  rw [← h7]
  have sz7 : a7.tmps.size = 46 := by rw [h7, size_put]; exact sz6
  have e7_4 : a7.eval (.tmp 4) = .pointer (some ⟨p4, 0, none⟩) := by rw [h7, eval_put_ne _ _ _ _ (by decide)]; exact e6_4
  have e7_29 : a7.eval (.tmp 29) = rv := by rw [h7, eval_put_ne _ _ _ _ (by decide)]; exact e6_29
  have e7_32 : a7.eval (.tmp 32) = .pointer (some ⟨g, 44, none⟩) := by rw [h7]; exact eval_put_eq _ _ _ (by rw [sz6]; decide)
  clear e6_29 e6_31 e6_4 sz6
  refine takeH (v := .int .i64 ((h : Nat) : Int)) opTg6_7 opTg6_ns (by kernel_rfl) (by kernel_rfl) HPN (fun w hw o ho => run_ldI ho e7_32 w (mac_held hM.out.r.len hM.out.m.len hM.out.s.len hM.out.b.len hw.1)) hH ?_
  refine wpAnyH_as (l' := #[true, true, true, true, true, true, true, true, false, false, false]) (by kernel_rfl) ?_
  obtain ⟨a8, h8⟩ : ∃ a' : Act, a' = a7.put (some 33) (.int .i64 ((h : Nat) : Int)) := ⟨_, rfl⟩
  rw [← h8]
  have sz8 : a8.tmps.size = 46 := by rw [h8, size_put]; exact sz7
  have e8_4 : a8.eval (.tmp 4) = .pointer (some ⟨p4, 0, none⟩) := by rw [h8, eval_put_ne _ _ _ _ (by decide)]; exact e7_4
  have e8_29 : a8.eval (.tmp 29) = rv := by rw [h8, eval_put_ne _ _ _ _ (by decide)]; exact e7_29
  have e8_33 : a8.eval (.tmp 33) = .int .i64 ((h : Nat) : Int) := by rw [h8]; exact eval_put_eq _ _ _ (by rw [sz7]; decide)
  clear e7_29 e7_32 e7_4 sz7
  refine readyH opTg6_8 (by kernel_rfl) (fun o ho hd => wpCall (v := .int .i64 ((h : Nat) : Int)) ho hd (args := #[rv, .int .i64 ((h : Nat) : Int)]) (by simp only [List.map_toArray, List.map_cons, List.map_nil, e8_29, e8_33] <;> rfl) (fun _ => rfl) (HK0.out  w0 hw0) (fun w1 hw1 => ?_))
  have hH := HS1  w1 hw1
  refine ⟨hH, ?_⟩
  refine wpAnyH_as (l' := #[true, true, true, true, true, true, true, true, true, false, false]) (by kernel_rfl) ?_
  obtain ⟨a9, h9⟩ : ∃ a' : Act, a' = a8.put (some 34) (.int .i64 ((h : Nat) : Int)) := ⟨_, rfl⟩
  rw [← h9]
  have sz9 : a9.tmps.size = 46 := by rw [h9, size_put]; exact sz8
  have e9_4 : a9.eval (.tmp 4) = .pointer (some ⟨p4, 0, none⟩) := by rw [h9, eval_put_ne _ _ _ _ (by decide)]; exact e8_4
  have e9_34 : a9.eval (.tmp 34) = .int .i64 ((h : Nat) : Int) := by rw [h9]; exact eval_put_eq _ _ _ (by rw [sz8]; decide)
  clear e8_29 e8_33 e8_4 sz8
  refine takeH (v := .pointer (some ⟨p4, h, none⟩)) opTg6_9 opTg6_ns (by kernel_rfl) (by kernel_rfl) HPN (fun w hw o ho => run_ix17 hH17.out ho e9_4 e9_34 w) hH ?_
  refine wpAnyH_as (l' := #[true, true, true, true, true, true, true, true, true, true, false]) (by kernel_rfl) ?_
  obtain ⟨a10, h10⟩ : ∃ a' : Act, a' = a9.put (some 35) (.pointer (some ⟨p4, h, none⟩)) := ⟨_, rfl⟩
  rw [← h10]
  have sz10 : a10.tmps.size = 46 := by rw [h10, size_put]; exact sz9
  have e10_35 : a10.eval (.tmp 35) = .pointer (some ⟨p4, h, none⟩) := by rw [h10]; exact eval_put_eq _ _ _ (by rw [sz9]; decide)
  clear e9_34 e9_4 sz9
  refine readyH opTg6_10 (by kernel_rfl) (fun o ho hd => HK1.out  w1 hw1 _ o _ _ ho hd e10_35 (fun  w2 hw2 => ?_))
  have hH := HS2  w2 hw2
  refine ⟨hH, ?_⟩
  refine wpAnyH_as (l' := #[true, true, true, true, true, true, true, true, true, true, true]) (by kernel_rfl) ?_
  refine wpAnyH_done (by kernel_rfl) ?_ _
  have hF : a10 = ⟨#[.pointer (some ⟨g, 0, none⟩), c1, c2, c3, .pointer (some ⟨p4, 0, none⟩), c5, c6, c7, c8, c9, c10, c11, c12, c13, c14, c15, c16, c17, c18, c19, c20, c21, c22, c23, c24, c25, .pointer (some ⟨g, 0, none⟩), .pointer (some ⟨g, 0, none⟩), .pointer (some ⟨g, 0, none⟩), rv, .pointer (some ⟨g, 0, none⟩), .pointer (some ⟨g, 0, none⟩), .pointer (some ⟨g, 44, none⟩), .int .i64 ((h : Nat) : Int), .int .i64 ((h : Nat) : Int), .pointer (some ⟨p4, h, none⟩), c36, c37, c38, c39, c40, c41, c42, c43, c44, c45], []⟩ := by rw [h10, h9, h8, h7, h6, h5, h4, h3, h2, h1, ha]; kernel_rfl
  rw [hF]
  exact H  _ hw2
noncomputable def rgTg8 : Code := ((Try.f17.body.bind (findReg 8)).getD .skip)
noncomputable def opTg8 : Array Oper := opsOf rgTg8
theorem rgTg8_is : rgTg8 = .region 8 opTg8 true := by kernel_rfl
theorem opTg8_ns : Region.noSelect opTg8 = true := by kernel_rfl
theorem opTg8_0 : opIs opTg8 0 (.load 69 (.tmp 3)) (some 40) := by unfold opIs; kernel_rfl
theorem opTg8_1 : opIs opTg8 1 (.move (.tmp 0)) (some 41) := by unfold opIs; kernel_rfl
theorem opTg8_2 : opIs opTg8 2 (.nilCheck (.tmp 41)) (some 42) := by unfold opIs; kernel_rfl
theorem opTg8_3 : opIs opTg8 3 (.fieldAddr 73 (.tmp 42) 2) (some 43) := by unfold opIs; kernel_rfl
theorem opTg8_4 : opIs opTg8 4 (.load 26 (.tmp 43)) (some 44) := by unfold opIs; kernel_rfl
theorem opTg8_5 : opIs opTg8 5 (.call { callee := .value (.func 28), args := #[.tmp 40, .tmp 44], argTypes := #[69, 26] }) (some 45) := by unfold opIs; kernel_rfl
theorem opTg8_6 : opIs opTg8 6 (.store 27 (.tmp 2) (.tmp 45)) (none) := by unfold opIs; kernel_rfl
set_option maxRecDepth 100000 in
set_option maxHeartbeats 4000000 in
theorem Tg8 {Q : Exit → Act → World → Prop} {W : World} {R0 : World → Prop} {R1 : World → Prop} {R2 : World → Prop} {g h : Nat} {rv : Value} {r m s b : List Int} {p3 p2 : Nat} {sm tg : List Int} {c1 c4 c5 c6 c7 c8 c9 c10 c11 c12 c13 c14 c15 c16 c17 c18 c19 c20 c21 c22 c23 c24 c25 c26 c27 c28 c29 c30 c31 c32 c33 c34 c35 c36 c37 c38 c39 c40 c41 c42 c43 c44 c45 : Value}
    (hM : Hid (MS r m s b))
    (hSm : Hid (sm.length = 5))
    (hR0 : R0 W.drew) (HS0 : ∀ Y, R0 Y → (fun Y : World => Y.heap[g]? = some (macO rv r m s b h) ∧ Y.rangeAt p3 0 (sm.map (Value.int .u64))) Y)
    (HK0 : Hid (∀ Y, R0 Y → Calls Try.prog 28 #[.agg (VI .u64 sm), .agg (VI .u8 m)] Y fun e w' => e = .returned (.agg (VI .u8 tg)) ∧ R1 w'))
    (HS1 : ∀ Y, R1 Y → (fun Y : World => Y.heap[g]? = some (macO rv r m s b h) ∧ Y.rangeAt p3 0 (sm.map (Value.int .u64))) Y)
    (HK1 : Hid (∀ Y, R1 Y → ∀ (a : Act) (o : Oper) (K : Act → World → Prop) (Q : Exit → Act → World → Prop), o.op = .store 27 (.tmp 2) (.tmp 45) → o.dst = none → a.eval (.tmp 2) = .pointer (some ⟨p2, 0, none⟩) → a.eval (.tmp 45) = .agg (VI .u8 tg) → (∀ w', R2 w' → K a w') → Oper.wp Try.prog o a Y K Q))
    (HS2 : ∀ Y, R2 Y → (fun Y : World => Y.heap[g]? = some (macO rv r m s b h) ∧ Y.rangeAt p3 0 (sm.map (Value.int .u64))) Y)
    (HPN : ∀ c (a : Act) d v w, Q (.panic c) (a.put d v) w → Q (.panic c) a w)
    (H : ∀ W', R2 W' → Q .normal ⟨#[.pointer (some ⟨g, 0, none⟩), c1, .pointer (some ⟨p2, 0, none⟩), .pointer (some ⟨p3, 0, none⟩), c4, c5, c6, c7, c8, c9, c10, c11, c12, c13, c14, c15, c16, c17, c18, c19, c20, c21, c22, c23, c24, c25, c26, c27, c28, c29, c30, c31, c32, c33, c34, c35, c36, c37, c38, c39, .agg (VI .u64 sm), .pointer (some ⟨g, 0, none⟩), .pointer (some ⟨g, 0, none⟩), .pointer (some ⟨g, 6, none⟩), .agg (VI .u8 m), .agg (VI .u8 tg)], []⟩ W') :
    Code.wp Try.prog rgTg8 Q ⟨#[.pointer (some ⟨g, 0, none⟩), c1, .pointer (some ⟨p2, 0, none⟩), .pointer (some ⟨p3, 0, none⟩), c4, c5, c6, c7, c8, c9, c10, c11, c12, c13, c14, c15, c16, c17, c18, c19, c20, c21, c22, c23, c24, c25, c26, c27, c28, c29, c30, c31, c32, c33, c34, c35, c36, c37, c38, c39, c40, c41, c42, c43, c44, c45], []⟩ W := by
  rw [rgTg8_is]
  refine wp_region_held_drew (S := fun Y : World => Y.heap[g]? = some (macO rv r m s b h) ∧ Y.rangeAt p3 0 (sm.map (Value.int .u64))) (by kernel_rfl) (HS0 _ hR0) (fun hH => ?_)
  obtain ⟨w0, hw00⟩ : ∃ V, W.drew = V := ⟨_, rfl⟩
  clear hH
  rw [hw00] at hR0 ⊢
  have hH := HS0 _ hR0
  have hw0 := hR0
  clear hw00
  obtain ⟨a0, ha⟩ : ∃ a : Act, a = ⟨#[.pointer (some ⟨g, 0, none⟩), c1, .pointer (some ⟨p2, 0, none⟩), .pointer (some ⟨p3, 0, none⟩), c4, c5, c6, c7, c8, c9, c10, c11, c12, c13, c14, c15, c16, c17, c18, c19, c20, c21, c22, c23, c24, c25, c26, c27, c28, c29, c30, c31, c32, c33, c34, c35, c36, c37, c38, c39, c40, c41, c42, c43, c44, c45], []⟩ := ⟨_, rfl⟩
  have sz0 : a0.tmps.size = 46 := by rw [ha]; kernel_rfl
  have e0_0 : a0.eval (.tmp 0) = .pointer (some ⟨g, 0, none⟩) := by rw [ha]; kernel_rfl
  have e0_2 : a0.eval (.tmp 2) = .pointer (some ⟨p2, 0, none⟩) := by rw [ha]; kernel_rfl
  have e0_3 : a0.eval (.tmp 3) = .pointer (some ⟨p3, 0, none⟩) := by rw [ha]; kernel_rfl
  rw [← ha]
  refine wpAnyH_as (l' := #[false, false, false, false, false, false, false]) (by kernel_rfl) ?_
  refine takeH (v := .agg (VI .u64 sm)) opTg8_0 opTg8_ns (by kernel_rfl) (by kernel_rfl) HPN (fun w hw o ho => run_ldN hSm.out ho e0_3 w hw.2) hH ?_
  refine wpAnyH_as (l' := #[true, false, false, false, false, false, false]) (by kernel_rfl) ?_
  obtain ⟨a1, h1⟩ : ∃ a' : Act, a' = a0.put (some 40) (.agg (VI .u64 sm)) := ⟨_, rfl⟩
  rw [← h1]
  have sz1 : a1.tmps.size = 46 := by rw [h1, size_put]; exact sz0
  have e1_0 : a1.eval (.tmp 0) = .pointer (some ⟨g, 0, none⟩) := by rw [h1, eval_put_ne _ _ _ _ (by decide)]; exact e0_0
  have e1_2 : a1.eval (.tmp 2) = .pointer (some ⟨p2, 0, none⟩) := by rw [h1, eval_put_ne _ _ _ _ (by decide)]; exact e0_2
  have e1_40 : a1.eval (.tmp 40) = .agg (VI .u64 sm) := by rw [h1]; exact eval_put_eq _ _ _ (by rw [sz0]; decide)
  clear e0_0 e0_2 e0_3 sz0
  refine takeH (v := .pointer (some ⟨g, 0, none⟩)) opTg8_1 opTg8_ns (by kernel_rfl) (by kernel_rfl) HPN (fun w hw o ho => run_move ho e1_0 w) hH ?_
  refine wpAnyH_as (l' := #[true, true, false, false, false, false, false]) (by kernel_rfl) ?_
  obtain ⟨a2, h2⟩ : ∃ a' : Act, a' = a1.put (some 41) (.pointer (some ⟨g, 0, none⟩)) := ⟨_, rfl⟩
  rw [← h2]
  have sz2 : a2.tmps.size = 46 := by rw [h2, size_put]; exact sz1
  have e2_2 : a2.eval (.tmp 2) = .pointer (some ⟨p2, 0, none⟩) := by rw [h2, eval_put_ne _ _ _ _ (by decide)]; exact e1_2
  have e2_40 : a2.eval (.tmp 40) = .agg (VI .u64 sm) := by rw [h2, eval_put_ne _ _ _ _ (by decide)]; exact e1_40
  have e2_41 : a2.eval (.tmp 41) = .pointer (some ⟨g, 0, none⟩) := by rw [h2]; exact eval_put_eq _ _ _ (by rw [sz1]; decide)
  clear e1_0 e1_2 e1_40 sz1
  refine takeH (v := .pointer (some ⟨g, 0, none⟩)) opTg8_2 opTg8_ns (by kernel_rfl) (by kernel_rfl) HPN (fun w hw o ho => run_nilCheck ho e2_41 w) hH ?_
  refine wpAnyH_as (l' := #[true, true, true, false, false, false, false]) (by kernel_rfl) ?_
  obtain ⟨a3, h3⟩ : ∃ a' : Act, a' = a2.put (some 42) (.pointer (some ⟨g, 0, none⟩)) := ⟨_, rfl⟩
  rw [← h3]
  have sz3 : a3.tmps.size = 46 := by rw [h3, size_put]; exact sz2
  have e3_2 : a3.eval (.tmp 2) = .pointer (some ⟨p2, 0, none⟩) := by rw [h3, eval_put_ne _ _ _ _ (by decide)]; exact e2_2
  have e3_40 : a3.eval (.tmp 40) = .agg (VI .u64 sm) := by rw [h3, eval_put_ne _ _ _ _ (by decide)]; exact e2_40
  have e3_42 : a3.eval (.tmp 42) = .pointer (some ⟨g, 0, none⟩) := by rw [h3]; exact eval_put_eq _ _ _ (by rw [sz2]; decide)
  clear e2_2 e2_40 e2_41 sz2
  refine takeH (v := .pointer (some ⟨g, 6, none⟩)) opTg8_3 opTg8_ns (by kernel_rfl) (by kernel_rfl) HPN (fun w hw o ho => run_fM2 ho e3_42 w) hH ?_
  refine wpAnyH_as (l' := #[true, true, true, true, false, false, false]) (by kernel_rfl) ?_
  obtain ⟨a4, h4⟩ : ∃ a' : Act, a' = a3.put (some 43) (.pointer (some ⟨g, 6, none⟩)) := ⟨_, rfl⟩
  rw [← h4]
  have sz4 : a4.tmps.size = 46 := by rw [h4, size_put]; exact sz3
  have e4_2 : a4.eval (.tmp 2) = .pointer (some ⟨p2, 0, none⟩) := by rw [h4, eval_put_ne _ _ _ _ (by decide)]; exact e3_2
  have e4_40 : a4.eval (.tmp 40) = .agg (VI .u64 sm) := by rw [h4, eval_put_ne _ _ _ _ (by decide)]; exact e3_40
  have e4_43 : a4.eval (.tmp 43) = .pointer (some ⟨g, 6, none⟩) := by rw [h4]; exact eval_put_eq _ _ _ (by rw [sz3]; decide)
  clear e3_2 e3_40 e3_42 sz3
  refine takeH (v := .agg (VI .u8 m)) opTg8_4 opTg8_ns (by kernel_rfl) (by kernel_rfl) HPN (fun w hw o ho => run_ld16 hM.out.m.len ho e4_43 w (mac_mask hM.out.r.len hw.1)) hH ?_
  refine wpAnyH_as (l' := #[true, true, true, true, true, false, false]) (by kernel_rfl) ?_
  obtain ⟨a5, h5⟩ : ∃ a' : Act, a' = a4.put (some 44) (.agg (VI .u8 m)) := ⟨_, rfl⟩
  rw [← h5]
  have sz5 : a5.tmps.size = 46 := by rw [h5, size_put]; exact sz4
  have e5_2 : a5.eval (.tmp 2) = .pointer (some ⟨p2, 0, none⟩) := by rw [h5, eval_put_ne _ _ _ _ (by decide)]; exact e4_2
  have e5_40 : a5.eval (.tmp 40) = .agg (VI .u64 sm) := by rw [h5, eval_put_ne _ _ _ _ (by decide)]; exact e4_40
  have e5_44 : a5.eval (.tmp 44) = .agg (VI .u8 m) := by rw [h5]; exact eval_put_eq _ _ _ (by rw [sz4]; decide)
  clear e4_2 e4_40 e4_43 sz4
  refine readyH opTg8_5 (by kernel_rfl) (fun o ho hd => wpCall (v := .agg (VI .u8 tg)) ho hd (args := #[.agg (VI .u64 sm), .agg (VI .u8 m)]) (by simp only [List.map_toArray, List.map_cons, List.map_nil, e5_40, e5_44] <;> rfl) (fun _ => rfl) (HK0.out  w0 hw0) (fun w1 hw1 => ?_))
  have hH := HS1  w1 hw1
  refine ⟨hH, ?_⟩
  refine wpAnyH_as (l' := #[true, true, true, true, true, true, false]) (by kernel_rfl) ?_
  obtain ⟨a6, h6⟩ : ∃ a' : Act, a' = a5.put (some 45) (.agg (VI .u8 tg)) := ⟨_, rfl⟩
  rw [← h6]
  have sz6 : a6.tmps.size = 46 := by rw [h6, size_put]; exact sz5
  have e6_2 : a6.eval (.tmp 2) = .pointer (some ⟨p2, 0, none⟩) := by rw [h6, eval_put_ne _ _ _ _ (by decide)]; exact e5_2
  have e6_45 : a6.eval (.tmp 45) = .agg (VI .u8 tg) := by rw [h6]; exact eval_put_eq _ _ _ (by rw [sz5]; decide)
  clear e5_2 e5_40 e5_44 sz5
  refine readyH opTg8_6 (by kernel_rfl) (fun o ho hd => HK1.out  w1 hw1 _ o _ _ ho hd e6_2 e6_45 (fun  w2 hw2 => ?_))
  have hH := HS2  w2 hw2
  refine ⟨hH, ?_⟩
  refine wpAnyH_as (l' := #[true, true, true, true, true, true, true]) (by kernel_rfl) ?_
  refine wpAnyH_done (by kernel_rfl) ?_ _
  have hF : a6 = ⟨#[.pointer (some ⟨g, 0, none⟩), c1, .pointer (some ⟨p2, 0, none⟩), .pointer (some ⟨p3, 0, none⟩), c4, c5, c6, c7, c8, c9, c10, c11, c12, c13, c14, c15, c16, c17, c18, c19, c20, c21, c22, c23, c24, c25, c26, c27, c28, c29, c30, c31, c32, c33, c34, c35, c36, c37, c38, c39, .agg (VI .u64 sm), .pointer (some ⟨g, 0, none⟩), .pointer (some ⟨g, 0, none⟩), .pointer (some ⟨g, 6, none⟩), .agg (VI .u8 m), .agg (VI .u8 tg)], []⟩ := by rw [h6, h5, h4, h3, h2, h1, ha]; kernel_rfl
  rw [hF]
  exact H  _ hw2
end Go.Proofs.Ytgfamcadgahiiab
