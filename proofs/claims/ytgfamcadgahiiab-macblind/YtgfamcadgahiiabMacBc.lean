import Derived.Test.YtgfamcadgahiiabMacR
namespace Go.Proofs.Ytgfamcadgahiiab
set_option linter.unusedSimpArgs false
set_option linter.unusedVariables false
open Go.ChangeShapes Go.WideShapes Go.ChangeAt Go.RowKit Go.Pin Go.Prm
theorem run_eq1 {a : Act} {o : Oper} {x y : Operand} {v : Int} {e : Bool} (h : (v == 1) = e) (ho : o.op = .binOp .eql 46 x y 46) (hx : a.eval x = .int .u64 v) (hy : a.eval y = .int .u64 1) (w : World) : (execOp a.eval o).run Try.prog w = .ok (.value (.bool e)) w := by
  unfold execOp
  simp only [ho, hx, hy]
  go_simp
noncomputable def rgCk1 : Code := ((Try.f7.body.bind (findReg 1)).getD .skip)
noncomputable def opCk1 : Array Oper := opsOf rgCk1
theorem rgCk1_is : rgCk1 = .region 1 opCk1 true := by kernel_rfl
theorem opCk1_ns : Region.noSelect opCk1 = true := by kernel_rfl
theorem opCk1_0 : opIs opCk1 0 (.move (.tmp 0)) (some 9) := by unfold opIs; kernel_rfl
theorem opCk1_1 : opIs opCk1 1 (.move (.tmp 0)) (some 10) := by unfold opIs; kernel_rfl
theorem opCk1_2 : opIs opCk1 2 (.load 23 (.tmp 5)) (some 11) := by unfold opIs; kernel_rfl
theorem opCk1_3 : opIs opCk1 3 (.move (.tmp 3)) (some 12) := by unfold opIs; kernel_rfl
theorem opCk1_4 : opIs opCk1 4 (.call { callee := .value (.func 6), args := #[.tmp 10, .tmp 11, .tmp 12], argTypes := #[33, 23, 24] }) (some 13) := by unfold opIs; kernel_rfl
theorem opCk1_5 : opIs opCk1 5 (.load 27 (.tmp 6)) (some 14) := by unfold opIs; kernel_rfl
theorem opCk1_6 : opIs opCk1 6 (.call { callee := .value (.func 18), args := #[.tmp 13, .tmp 14], argTypes := #[27, 27] }) (some 15) := by unfold opIs; kernel_rfl
theorem opCk1_7 : opIs opCk1 7 (.binOp .eql 46 (.tmp 15) (.const (.int .u64 1)) 46) (some 16) := by unfold opIs; kernel_rfl
theorem opCk1_8 : opIs opCk1 8 (.call { callee := .value (.func 14), args := #[.tmp 9, .tmp 16], argTypes := #[33, 4] }) (some 17) := by unfold opIs; kernel_rfl
theorem opCk1_9 : opIs opCk1 9 (.assign (.tmp 17)) (some 8) := by unfold opIs; kernel_rfl
set_option maxRecDepth 100000 in
set_option maxHeartbeats 4000000 in
theorem Ck1 {Q : Exit → Act → World → Prop} {W : World} {R0 : World → Prop} {R1 : World → Prop} {R2 : World → Prop} {R3 : World → Prop} {p5 p6 : Nat} {rv pv : Value} {key tg tv : List Int} {eb : Int} {eq : Bool} {c1 c2 c4 c7 c8 c9 c10 c11 c12 c13 c14 c15 c16 c17 : Value}
    (hK : Hid (key.length = 32)) (hT : Hid (tg.length = 16)) (hE : Hid ((eb == 1) = eq))
    (hR0 : R0 W.drew) (HS0 : ∀ Y, R0 Y → (fun Y : World => Y.rangeAt p5 0 (key.map (Value.int .u8)) ∧ Y.rangeAt p6 0 (tg.map (Value.int .u8))) Y)
    (HK0 : Hid (∀ Y, R0 Y → Calls Try.prog 6 #[rv, .agg (VI .u8 key), pv] Y fun e w' => e = .returned (.agg (VI .u8 tv)) ∧ R1 w'))
    (HS1 : ∀ Y, R1 Y → (fun Y : World => Y.rangeAt p5 0 (key.map (Value.int .u8)) ∧ Y.rangeAt p6 0 (tg.map (Value.int .u8))) Y)
    (HK1 : Hid (∀ Y, R1 Y → Calls Try.prog 18 #[.agg (VI .u8 tv), .agg (VI .u8 tg)] Y fun e w' => e = .returned (.int .u64 eb) ∧ R2 w'))
    (HS2 : ∀ Y, R2 Y → (fun Y : World => Y.rangeAt p5 0 (key.map (Value.int .u8)) ∧ Y.rangeAt p6 0 (tg.map (Value.int .u8))) Y)
    (HK2 : Hid (∀ Y, R2 Y → Calls Try.prog 14 #[rv, .bool eq] Y fun e w' => e = .returned (.bool eq) ∧ R3 w'))
    (HS3 : ∀ Y, R3 Y → (fun Y : World => Y.rangeAt p5 0 (key.map (Value.int .u8)) ∧ Y.rangeAt p6 0 (tg.map (Value.int .u8))) Y)
    (HPN : ∀ c (a : Act) d v w, Q (.panic c) (a.put d v) w → Q (.panic c) a w)
    (H : ∀ W', R3 W' → Q .normal ⟨#[rv, c1, c2, pv, c4, .pointer (some ⟨p5, 0, none⟩), .pointer (some ⟨p6, 0, none⟩), c7, .bool eq, rv, rv, .agg (VI .u8 key), pv, .agg (VI .u8 tv), .agg (VI .u8 tg), .int .u64 eb, .bool eq, .bool eq], []⟩ W') :
    Code.wp Try.prog rgCk1 Q ⟨#[rv, c1, c2, pv, c4, .pointer (some ⟨p5, 0, none⟩), .pointer (some ⟨p6, 0, none⟩), c7, c8, c9, c10, c11, c12, c13, c14, c15, c16, c17], []⟩ W := by
  rw [rgCk1_is]
  refine wp_region_held_drew (S := fun Y : World => Y.rangeAt p5 0 (key.map (Value.int .u8)) ∧ Y.rangeAt p6 0 (tg.map (Value.int .u8))) (by kernel_rfl) (HS0 _ hR0) (fun hH => ?_)
  obtain ⟨w0, hw00⟩ : ∃ V, W.drew = V := ⟨_, rfl⟩
  clear hH
  rw [hw00] at hR0 ⊢
  have hH := HS0 _ hR0
  have hw0 := hR0
  clear hw00
  obtain ⟨a0, ha⟩ : ∃ a : Act, a = ⟨#[rv, c1, c2, pv, c4, .pointer (some ⟨p5, 0, none⟩), .pointer (some ⟨p6, 0, none⟩), c7, c8, c9, c10, c11, c12, c13, c14, c15, c16, c17], []⟩ := ⟨_, rfl⟩
  have sz0 : a0.tmps.size = 18 := by rw [ha]; kernel_rfl
  have e0_0 : a0.eval (.tmp 0) = rv := by rw [ha]; kernel_rfl
  have e0_3 : a0.eval (.tmp 3) = pv := by rw [ha]; kernel_rfl
  have e0_5 : a0.eval (.tmp 5) = .pointer (some ⟨p5, 0, none⟩) := by rw [ha]; kernel_rfl
  have e0_6 : a0.eval (.tmp 6) = .pointer (some ⟨p6, 0, none⟩) := by rw [ha]; kernel_rfl
  rw [← ha]
  refine wpAnyH_as (l' := #[false, false, false, false, false, false, false, false, false, false]) (by kernel_rfl) ?_
  refine takeH (v := rv) opCk1_0 opCk1_ns (by kernel_rfl) (by kernel_rfl) HPN (fun w hw o ho => run_move ho e0_0 w) hH ?_
  refine wpAnyH_as (l' := #[true, false, false, false, false, false, false, false, false, false]) (by kernel_rfl) ?_
  obtain ⟨a1, h1⟩ : ∃ a' : Act, a' = a0.put (some 9) (rv) := ⟨_, rfl⟩
  rw [← h1]
  have sz1 : a1.tmps.size = 18 := by rw [h1, size_put]; exact sz0
  have e1_0 : a1.eval (.tmp 0) = rv := by rw [h1, eval_put_ne _ _ _ _ (by decide)]; exact e0_0
  have e1_3 : a1.eval (.tmp 3) = pv := by rw [h1, eval_put_ne _ _ _ _ (by decide)]; exact e0_3
  have e1_5 : a1.eval (.tmp 5) = .pointer (some ⟨p5, 0, none⟩) := by rw [h1, eval_put_ne _ _ _ _ (by decide)]; exact e0_5
  have e1_6 : a1.eval (.tmp 6) = .pointer (some ⟨p6, 0, none⟩) := by rw [h1, eval_put_ne _ _ _ _ (by decide)]; exact e0_6
  have e1_9 : a1.eval (.tmp 9) = rv := by rw [h1]; exact eval_put_eq _ _ _ (by rw [sz0]; decide)
  clear e0_0 e0_3 e0_5 e0_6 sz0
  refine takeH (v := rv) opCk1_1 opCk1_ns (by kernel_rfl) (by kernel_rfl) HPN (fun w hw o ho => run_move ho e1_0 w) hH ?_
  refine wpAnyH_as (l' := #[true, true, false, false, false, false, false, false, false, false]) (by kernel_rfl) ?_
  obtain ⟨a2, h2⟩ : ∃ a' : Act, a' = a1.put (some 10) (rv) := ⟨_, rfl⟩
  rw [← h2]
  have sz2 : a2.tmps.size = 18 := by rw [h2, size_put]; exact sz1
  have e2_3 : a2.eval (.tmp 3) = pv := by rw [h2, eval_put_ne _ _ _ _ (by decide)]; exact e1_3
  have e2_5 : a2.eval (.tmp 5) = .pointer (some ⟨p5, 0, none⟩) := by rw [h2, eval_put_ne _ _ _ _ (by decide)]; exact e1_5
  have e2_6 : a2.eval (.tmp 6) = .pointer (some ⟨p6, 0, none⟩) := by rw [h2, eval_put_ne _ _ _ _ (by decide)]; exact e1_6
  have e2_9 : a2.eval (.tmp 9) = rv := by rw [h2, eval_put_ne _ _ _ _ (by decide)]; exact e1_9
  have e2_10 : a2.eval (.tmp 10) = rv := by rw [h2]; exact eval_put_eq _ _ _ (by rw [sz1]; decide)
  clear e1_0 e1_3 e1_5 e1_6 e1_9 sz1
  refine takeH (v := .agg (VI .u8 key)) opCk1_2 opCk1_ns (by kernel_rfl) (by kernel_rfl) HPN (fun w hw o ho => run_ldK hK.out ho e2_5 w hw.1) hH ?_
  refine wpAnyH_as (l' := #[true, true, true, false, false, false, false, false, false, false]) (by kernel_rfl) ?_
  obtain ⟨a3, h3⟩ : ∃ a' : Act, a' = a2.put (some 11) (.agg (VI .u8 key)) := ⟨_, rfl⟩
  rw [← h3]
  have sz3 : a3.tmps.size = 18 := by rw [h3, size_put]; exact sz2
  have e3_3 : a3.eval (.tmp 3) = pv := by rw [h3, eval_put_ne _ _ _ _ (by decide)]; exact e2_3
  have e3_6 : a3.eval (.tmp 6) = .pointer (some ⟨p6, 0, none⟩) := by rw [h3, eval_put_ne _ _ _ _ (by decide)]; exact e2_6
  have e3_9 : a3.eval (.tmp 9) = rv := by rw [h3, eval_put_ne _ _ _ _ (by decide)]; exact e2_9
  have e3_10 : a3.eval (.tmp 10) = rv := by rw [h3, eval_put_ne _ _ _ _ (by decide)]; exact e2_10
  have e3_11 : a3.eval (.tmp 11) = .agg (VI .u8 key) := by rw [h3]; exact eval_put_eq _ _ _ (by rw [sz2]; decide)
  clear e2_10 e2_3 e2_5 e2_6 e2_9 sz2
  refine takeH (v := pv) opCk1_3 opCk1_ns (by kernel_rfl) (by kernel_rfl) HPN (fun w hw o ho => run_move ho e3_3 w) hH ?_
  refine wpAnyH_as (l' := #[true, true, true, true, false, false, false, false, false, false]) (by kernel_rfl) ?_
  obtain ⟨a4, h4⟩ : ∃ a' : Act, a' = a3.put (some 12) (pv) := ⟨_, rfl⟩
  rw [← h4]
  have sz4 : a4.tmps.size = 18 := by rw [h4, size_put]; exact sz3
  have e4_6 : a4.eval (.tmp 6) = .pointer (some ⟨p6, 0, none⟩) := by rw [h4, eval_put_ne _ _ _ _ (by decide)]; exact e3_6
  have e4_9 : a4.eval (.tmp 9) = rv := by rw [h4, eval_put_ne _ _ _ _ (by decide)]; exact e3_9
  have e4_10 : a4.eval (.tmp 10) = rv := by rw [h4, eval_put_ne _ _ _ _ (by decide)]; exact e3_10
  have e4_11 : a4.eval (.tmp 11) = .agg (VI .u8 key) := by rw [h4, eval_put_ne _ _ _ _ (by decide)]; exact e3_11
  have e4_12 : a4.eval (.tmp 12) = pv := by rw [h4]; exact eval_put_eq _ _ _ (by rw [sz3]; decide)
  clear e3_10 e3_11 e3_3 e3_6 e3_9 sz3
  refine takeH (v := .agg (VI .u8 tg)) opCk1_5 opCk1_ns (by kernel_rfl) (by kernel_rfl) HPN (fun w hw o ho => run_ldT hT.out ho e4_6 w hw.2) hH ?_
  refine wpAnyH_as (l' := #[true, true, true, true, false, true, false, false, false, false]) (by kernel_rfl) ?_
  obtain ⟨a5, h5⟩ : ∃ a' : Act, a' = a4.put (some 14) (.agg (VI .u8 tg)) := ⟨_, rfl⟩
  rw [← h5]
  have sz5 : a5.tmps.size = 18 := by rw [h5, size_put]; exact sz4
  have e5_9 : a5.eval (.tmp 9) = rv := by rw [h5, eval_put_ne _ _ _ _ (by decide)]; exact e4_9
  have e5_10 : a5.eval (.tmp 10) = rv := by rw [h5, eval_put_ne _ _ _ _ (by decide)]; exact e4_10
  have e5_11 : a5.eval (.tmp 11) = .agg (VI .u8 key) := by rw [h5, eval_put_ne _ _ _ _ (by decide)]; exact e4_11
  have e5_12 : a5.eval (.tmp 12) = pv := by rw [h5, eval_put_ne _ _ _ _ (by decide)]; exact e4_12
  have e5_14 : a5.eval (.tmp 14) = .agg (VI .u8 tg) := by rw [h5]; exact eval_put_eq _ _ _ (by rw [sz4]; decide)
  clear e4_10 e4_11 e4_12 e4_6 e4_9 sz4
  refine readyH opCk1_4 (by kernel_rfl) (fun o ho hd => wpCall (v := .agg (VI .u8 tv)) ho hd (args := #[rv, .agg (VI .u8 key), pv]) (by simp only [List.map_toArray, List.map_cons, List.map_nil, e5_10, e5_11, e5_12] <;> rfl) (fun _ => rfl) (HK0.out  w0 hw0) (fun w1 hw1 => ?_))
  have hH := HS1  w1 hw1
  refine ⟨hH, ?_⟩
  refine wpAnyH_as (l' := #[true, true, true, true, true, true, false, false, false, false]) (by kernel_rfl) ?_
  obtain ⟨a6, h6⟩ : ∃ a' : Act, a' = a5.put (some 13) (.agg (VI .u8 tv)) := ⟨_, rfl⟩
  rw [← h6]
  have sz6 : a6.tmps.size = 18 := by rw [h6, size_put]; exact sz5
  have e6_9 : a6.eval (.tmp 9) = rv := by rw [h6, eval_put_ne _ _ _ _ (by decide)]; exact e5_9
  have e6_14 : a6.eval (.tmp 14) = .agg (VI .u8 tg) := by rw [h6, eval_put_ne _ _ _ _ (by decide)]; exact e5_14
  have e6_13 : a6.eval (.tmp 13) = .agg (VI .u8 tv) := by rw [h6]; exact eval_put_eq _ _ _ (by rw [sz5]; decide)
  clear e5_10 e5_11 e5_12 e5_14 e5_9 sz5
  refine readyH opCk1_6 (by kernel_rfl) (fun o ho hd => wpCall (v := .int .u64 eb) ho hd (args := #[.agg (VI .u8 tv), .agg (VI .u8 tg)]) (by simp only [List.map_toArray, List.map_cons, List.map_nil, e6_13, e6_14] <;> rfl) (fun _ => rfl) (HK1.out  w1 hw1) (fun w2 hw2 => ?_))
  have hH := HS2  w2 hw2
  refine ⟨hH, ?_⟩
  refine wpAnyH_as (l' := #[true, true, true, true, true, true, true, false, false, false]) (by kernel_rfl) ?_
  obtain ⟨a7, h7⟩ : ∃ a' : Act, a' = a6.put (some 15) (.int .u64 eb) := ⟨_, rfl⟩
  rw [← h7]
  have sz7 : a7.tmps.size = 18 := by rw [h7, size_put]; exact sz6
  have e7_9 : a7.eval (.tmp 9) = rv := by rw [h7, eval_put_ne _ _ _ _ (by decide)]; exact e6_9
  have e7_15 : a7.eval (.tmp 15) = .int .u64 eb := by rw [h7]; exact eval_put_eq _ _ _ (by rw [sz6]; decide)
  clear e6_13 e6_14 e6_9 sz6
  refine takeH (v := .bool eq) opCk1_7 opCk1_ns (by kernel_rfl) (by kernel_rfl) HPN (fun w hw o ho => run_eq1 hE.out ho e7_15 rfl w) hH ?_
  refine wpAnyH_as (l' := #[true, true, true, true, true, true, true, true, false, false]) (by kernel_rfl) ?_
  obtain ⟨a8, h8⟩ : ∃ a' : Act, a' = a7.put (some 16) (.bool eq) := ⟨_, rfl⟩
  rw [← h8]
  have sz8 : a8.tmps.size = 18 := by rw [h8, size_put]; exact sz7
  have e8_9 : a8.eval (.tmp 9) = rv := by rw [h8, eval_put_ne _ _ _ _ (by decide)]; exact e7_9
  have e8_16 : a8.eval (.tmp 16) = .bool eq := by rw [h8]; exact eval_put_eq _ _ _ (by rw [sz7]; decide)
  clear e7_15 e7_9 sz7
  refine readyH opCk1_8 (by kernel_rfl) (fun o ho hd => wpCall (v := .bool eq) ho hd (args := #[rv, .bool eq]) (by simp only [List.map_toArray, List.map_cons, List.map_nil, e8_9, e8_16] <;> rfl) (fun _ => rfl) (HK2.out  w2 hw2) (fun w3 hw3 => ?_))
  have hH := HS3  w3 hw3
  refine ⟨hH, ?_⟩
  refine wpAnyH_as (l' := #[true, true, true, true, true, true, true, true, true, false]) (by kernel_rfl) ?_
  obtain ⟨a9, h9⟩ : ∃ a' : Act, a' = a8.put (some 17) (.bool eq) := ⟨_, rfl⟩
  rw [← h9]
  have sz9 : a9.tmps.size = 18 := by rw [h9, size_put]; exact sz8
  have e9_17 : a9.eval (.tmp 17) = .bool eq := by rw [h9]; exact eval_put_eq _ _ _ (by rw [sz8]; decide)
  clear e8_16 e8_9 sz8
  refine readyH opCk1_9 (by kernel_rfl) (fun o ho hd => wpRun (v := .bool eq) (w' := w3) hd (run_assign ho e9_17 w3) ⟨hH, ?_⟩)
  refine wpAnyH_as (l' := #[true, true, true, true, true, true, true, true, true, true]) (by kernel_rfl) ?_
  obtain ⟨a10, h10⟩ : ∃ a' : Act, a' = a9.put (some 8) (.bool eq) := ⟨_, rfl⟩
  rw [← h10]
  have sz10 : a10.tmps.size = 18 := by rw [h10, size_put]; exact sz9
  clear e9_17 sz9
  refine wpAnyH_done (by kernel_rfl) ?_ _
  have hF : a10 = ⟨#[rv, c1, c2, pv, c4, .pointer (some ⟨p5, 0, none⟩), .pointer (some ⟨p6, 0, none⟩), c7, .bool eq, rv, rv, .agg (VI .u8 key), pv, .agg (VI .u8 tv), .agg (VI .u8 tg), .int .u64 eb, .bool eq, .bool eq], []⟩ := by rw [h10, h9, h8, h7, h6, h5, h4, h3, h2, h1, ha]; kernel_rfl
  rw [hF]
  exact H  _ hw3
end Go.Proofs.Ytgfamcadgahiiab
