import Derived.Test.YtgfamcadgahiiaaMmae
namespace Go.Proofs.Ytgfamcadgahiiaa
set_option linter.unusedSimpArgs false
set_option linter.unusedVariables false
open Go.ChangeShapes Go.WideShapes Go.ChangeAt Go.RowKit Go.Pin Go.Prm
noncomputable def rgWi1 : Code := ((Try.f38.body.bind (findReg 1)).getD .skip)
noncomputable def opWi1 : Array Oper := opsOf rgWi1
theorem rgWi1_is : rgWi1 = .region 1 opWi1 true := by kernel_rfl
theorem opWi1_ns : Region.noSelect opWi1 = true := by kernel_rfl
theorem opWi1_0 : opIs opWi1 0 (.move (.tmp 0)) (some 7) := by unfold opIs; kernel_rfl
theorem opWi1_1 : opIs opWi1 1 (.nilCheck (.tmp 7)) (some 8) := by unfold opIs; kernel_rfl
theorem opWi1_2 : opIs opWi1 2 (.fieldAddr 69 (.tmp 8) 0) (some 9) := by unfold opIs; kernel_rfl
theorem opWi1_3 : opIs opWi1 3 (.load 25 (.tmp 9)) (some 10) := by unfold opIs; kernel_rfl
theorem opWi1_4 : opIs opWi1 4 (.move (.tmp 0)) (some 11) := by unfold opIs; kernel_rfl
theorem opWi1_5 : opIs opWi1 5 (.nilCheck (.tmp 11)) (some 12) := by unfold opIs; kernel_rfl
theorem opWi1_6 : opIs opWi1 6 (.fieldAddr 69 (.tmp 12) 0) (some 13) := by unfold opIs; kernel_rfl
theorem opWi1_7 : opIs opWi1 7 (.load 25 (.tmp 13)) (some 14) := by unfold opIs; kernel_rfl
theorem opWi1_8 : opIs opWi1 8 (.load 66 (.tmp 4)) (some 15) := by unfold opIs; kernel_rfl
theorem opWi1_9 : opIs opWi1 9 (.load 67 (.tmp 5)) (some 16) := by unfold opIs; kernel_rfl
theorem opWi1_10 : opIs opWi1 10 (.call { callee := .value (.func 49), args := #[.tmp 16], argTypes := #[67] }) (some 17) := by unfold opIs; kernel_rfl
theorem opWi1_11 : opIs opWi1 11 (.call { callee := .value (.func 54), args := #[.tmp 14, .tmp 15, .tmp 17], argTypes := #[25, 66, 66] }) (some 18) := by unfold opIs; kernel_rfl
theorem opWi1_12 : opIs opWi1 12 (.move (.tmp 0)) (some 19) := by unfold opIs; kernel_rfl
theorem opWi1_13 : opIs opWi1 13 (.nilCheck (.tmp 19)) (some 20) := by unfold opIs; kernel_rfl
theorem opWi1_14 : opIs opWi1 14 (.fieldAddr 69 (.tmp 20) 1) (some 21) := by unfold opIs; kernel_rfl
theorem opWi1_15 : opIs opWi1 15 (.load 66 (.tmp 21)) (some 22) := by unfold opIs; kernel_rfl
theorem opWi1_16 : opIs opWi1 16 (.call { callee := .value (.func 53), args := #[.tmp 10, .tmp 18, .tmp 22], argTypes := #[25, 66, 66] }) (some 23) := by unfold opIs; kernel_rfl
theorem opWi1_17 : opIs opWi1 17 (.store 66 (.tmp 6) (.tmp 23)) (none) := by unfold opIs; kernel_rfl
set_option maxRecDepth 100000 in
set_option maxHeartbeats 4000000 in
theorem Wi1 {Q : Exit → Act → World → Prop} {W : World} {R0 : World → Prop} {R1 : World → Prop} {R2 : World → Prop} {R3 : World → Prop} {R4 : World → Prop} {g h : Nat} {rv : Value} {r m s b : List Int} {p4 p5 p6 : Nat} {sm bb z0 z1 z2 : List Int} {c1 c2 c3 c7 c8 c9 c10 c11 c12 c13 c14 c15 c16 c17 c18 c19 c20 c21 c22 c23 : Value}
    (hM : Hid (MS r m s b))
    (hSm : Hid (sm.length = 5)) (hB : Hid (bb.length = 17))
    (hR0 : R0 W.drew) (HS0 : ∀ Y, R0 Y → (fun Y : World => Y.heap[g]? = some (macO rv r m s b h) ∧ Y.rangeAt p4 0 (sm.map (Value.int .u64)) ∧ Y.rangeAt p5 0 (bb.map (Value.int .u8))) Y)
    (HK0 : Hid (∀ Y, R0 Y → Calls Try.prog 49 #[.agg (VI .u8 bb)] Y fun e w' => e = .returned (.agg (VI .u64 z0)) ∧ R1 w'))
    (HS1 : ∀ Y, R1 Y → (fun Y : World => Y.heap[g]? = some (macO rv r m s b h) ∧ Y.rangeAt p4 0 (sm.map (Value.int .u64)) ∧ Y.rangeAt p5 0 (bb.map (Value.int .u8))) Y)
    (HK1 : Hid (∀ Y, R1 Y → Calls Try.prog 54 #[rv, .agg (VI .u64 sm), .agg (VI .u64 z0)] Y fun e w' => e = .returned (.agg (VI .u64 z1)) ∧ R2 w'))
    (HS2 : ∀ Y, R2 Y → (fun Y : World => Y.heap[g]? = some (macO rv r m s b h) ∧ Y.rangeAt p4 0 (sm.map (Value.int .u64)) ∧ Y.rangeAt p5 0 (bb.map (Value.int .u8))) Y)
    (HK2 : Hid (∀ Y, R2 Y → Calls Try.prog 53 #[rv, .agg (VI .u64 z1), .agg (VI .u64 r)] Y fun e w' => e = .returned (.agg (VI .u64 z2)) ∧ R3 w'))
    (HS3 : ∀ Y, R3 Y → (fun Y : World => Y.heap[g]? = some (macO rv r m s b h) ∧ Y.rangeAt p4 0 (sm.map (Value.int .u64)) ∧ Y.rangeAt p5 0 (bb.map (Value.int .u8))) Y)
    (HK3 : Hid (∀ Y, R3 Y → ∀ (a : Act) (o : Oper) (K : Act → World → Prop) (Q : Exit → Act → World → Prop), o.op = .store 66 (.tmp 6) (.tmp 23) → o.dst = none → a.eval (.tmp 6) = .pointer (some ⟨p6, 0, none⟩) → a.eval (.tmp 23) = .agg (VI .u64 z2) → (∀ w', R4 w' → K a w') → Oper.wp Try.prog o a Y K Q))
    (HS4 : ∀ Y, R4 Y → (fun Y : World => Y.heap[g]? = some (macO rv r m s b h) ∧ Y.rangeAt p4 0 (sm.map (Value.int .u64)) ∧ Y.rangeAt p5 0 (bb.map (Value.int .u8))) Y)
    (HPN : ∀ c (a : Act) d v w, Q (.panic c) (a.put d v) w → Q (.panic c) a w)
    (H : ∀ W', R4 W' → Q .normal ⟨#[.pointer (some ⟨g, 0, none⟩), c1, c2, c3, .pointer (some ⟨p4, 0, none⟩), .pointer (some ⟨p5, 0, none⟩), .pointer (some ⟨p6, 0, none⟩), .pointer (some ⟨g, 0, none⟩), .pointer (some ⟨g, 0, none⟩), .pointer (some ⟨g, 0, none⟩), rv, .pointer (some ⟨g, 0, none⟩), .pointer (some ⟨g, 0, none⟩), .pointer (some ⟨g, 0, none⟩), rv, .agg (VI .u64 sm), .agg (VI .u8 bb), .agg (VI .u64 z0), .agg (VI .u64 z1), .pointer (some ⟨g, 0, none⟩), .pointer (some ⟨g, 0, none⟩), .pointer (some ⟨g, 1, none⟩), .agg (VI .u64 r), .agg (VI .u64 z2)], []⟩ W') :
    Code.wp Try.prog rgWi1 Q ⟨#[.pointer (some ⟨g, 0, none⟩), c1, c2, c3, .pointer (some ⟨p4, 0, none⟩), .pointer (some ⟨p5, 0, none⟩), .pointer (some ⟨p6, 0, none⟩), c7, c8, c9, c10, c11, c12, c13, c14, c15, c16, c17, c18, c19, c20, c21, c22, c23], []⟩ W := by
  rw [rgWi1_is]
  refine wp_region_held_drew (S := fun Y : World => Y.heap[g]? = some (macO rv r m s b h) ∧ Y.rangeAt p4 0 (sm.map (Value.int .u64)) ∧ Y.rangeAt p5 0 (bb.map (Value.int .u8))) (by kernel_rfl) (HS0 _ hR0) (fun hH => ?_)
  obtain ⟨w0, hw00⟩ : ∃ V, W.drew = V := ⟨_, rfl⟩
  clear hH
  rw [hw00] at hR0 ⊢
  have hH := HS0 _ hR0
  have hw0 := hR0
  clear hw00
  obtain ⟨a0, ha⟩ : ∃ a : Act, a = ⟨#[.pointer (some ⟨g, 0, none⟩), c1, c2, c3, .pointer (some ⟨p4, 0, none⟩), .pointer (some ⟨p5, 0, none⟩), .pointer (some ⟨p6, 0, none⟩), c7, c8, c9, c10, c11, c12, c13, c14, c15, c16, c17, c18, c19, c20, c21, c22, c23], []⟩ := ⟨_, rfl⟩
  have sz0 : a0.tmps.size = 24 := by rw [ha]; kernel_rfl
  have e0_0 : a0.eval (.tmp 0) = .pointer (some ⟨g, 0, none⟩) := by rw [ha]; kernel_rfl
  have e0_4 : a0.eval (.tmp 4) = .pointer (some ⟨p4, 0, none⟩) := by rw [ha]; kernel_rfl
  have e0_5 : a0.eval (.tmp 5) = .pointer (some ⟨p5, 0, none⟩) := by rw [ha]; kernel_rfl
  have e0_6 : a0.eval (.tmp 6) = .pointer (some ⟨p6, 0, none⟩) := by rw [ha]; kernel_rfl
  rw [← ha]
  refine wpAnyH_as (l' := #[false, false, false, false, false, false, false, false, false, false, false, false, false, false, false, false, false, false]) (by kernel_rfl) ?_
  refine takeH (v := .pointer (some ⟨g, 0, none⟩)) opWi1_0 opWi1_ns (by kernel_rfl) (by kernel_rfl) HPN (fun w hw o ho => run_move ho e0_0 w) hH ?_
  refine wpAnyH_as (l' := #[true, false, false, false, false, false, false, false, false, false, false, false, false, false, false, false, false, false]) (by kernel_rfl) ?_
  obtain ⟨a1, h1⟩ : ∃ a' : Act, a' = a0.put (some 7) (.pointer (some ⟨g, 0, none⟩)) := ⟨_, rfl⟩
  rw [← h1]
  have sz1 : a1.tmps.size = 24 := by rw [h1, size_put]; exact sz0
  have e1_0 : a1.eval (.tmp 0) = .pointer (some ⟨g, 0, none⟩) := by rw [h1, eval_put_ne _ _ _ _ (by decide)]; exact e0_0
  have e1_4 : a1.eval (.tmp 4) = .pointer (some ⟨p4, 0, none⟩) := by rw [h1, eval_put_ne _ _ _ _ (by decide)]; exact e0_4
  have e1_5 : a1.eval (.tmp 5) = .pointer (some ⟨p5, 0, none⟩) := by rw [h1, eval_put_ne _ _ _ _ (by decide)]; exact e0_5
  have e1_6 : a1.eval (.tmp 6) = .pointer (some ⟨p6, 0, none⟩) := by rw [h1, eval_put_ne _ _ _ _ (by decide)]; exact e0_6
  have e1_7 : a1.eval (.tmp 7) = .pointer (some ⟨g, 0, none⟩) := by rw [h1]; exact eval_put_eq _ _ _ (by rw [sz0]; decide)
  clear e0_0 e0_4 e0_5 e0_6 sz0
  refine takeH (v := .pointer (some ⟨g, 0, none⟩)) opWi1_1 opWi1_ns (by kernel_rfl) (by kernel_rfl) HPN (fun w hw o ho => run_nilCheck ho e1_7 w) hH ?_
  refine wpAnyH_as (l' := #[true, true, false, false, false, false, false, false, false, false, false, false, false, false, false, false, false, false]) (by kernel_rfl) ?_
  obtain ⟨a2, h2⟩ : ∃ a' : Act, a' = a1.put (some 8) (.pointer (some ⟨g, 0, none⟩)) := ⟨_, rfl⟩
  rw [← h2]
  have sz2 : a2.tmps.size = 24 := by rw [h2, size_put]; exact sz1
  have e2_0 : a2.eval (.tmp 0) = .pointer (some ⟨g, 0, none⟩) := by rw [h2, eval_put_ne _ _ _ _ (by decide)]; exact e1_0
  have e2_4 : a2.eval (.tmp 4) = .pointer (some ⟨p4, 0, none⟩) := by rw [h2, eval_put_ne _ _ _ _ (by decide)]; exact e1_4
  have e2_5 : a2.eval (.tmp 5) = .pointer (some ⟨p5, 0, none⟩) := by rw [h2, eval_put_ne _ _ _ _ (by decide)]; exact e1_5
  have e2_6 : a2.eval (.tmp 6) = .pointer (some ⟨p6, 0, none⟩) := by rw [h2, eval_put_ne _ _ _ _ (by decide)]; exact e1_6
  have e2_8 : a2.eval (.tmp 8) = .pointer (some ⟨g, 0, none⟩) := by rw [h2]; exact eval_put_eq _ _ _ (by rw [sz1]; decide)
  clear e1_0 e1_4 e1_5 e1_6 e1_7 sz1
  refine takeH (v := .pointer (some ⟨g, 0, none⟩)) opWi1_2 opWi1_ns (by kernel_rfl) (by kernel_rfl) HPN (fun w hw o ho => run_fM0 ho e2_8 w) hH ?_
  refine wpAnyH_as (l' := #[true, true, true, false, false, false, false, false, false, false, false, false, false, false, false, false, false, false]) (by kernel_rfl) ?_
  obtain ⟨a3, h3⟩ : ∃ a' : Act, a' = a2.put (some 9) (.pointer (some ⟨g, 0, none⟩)) := ⟨_, rfl⟩
  rw [← h3]
  have sz3 : a3.tmps.size = 24 := by rw [h3, size_put]; exact sz2
  have e3_0 : a3.eval (.tmp 0) = .pointer (some ⟨g, 0, none⟩) := by rw [h3, eval_put_ne _ _ _ _ (by decide)]; exact e2_0
  have e3_4 : a3.eval (.tmp 4) = .pointer (some ⟨p4, 0, none⟩) := by rw [h3, eval_put_ne _ _ _ _ (by decide)]; exact e2_4
  have e3_5 : a3.eval (.tmp 5) = .pointer (some ⟨p5, 0, none⟩) := by rw [h3, eval_put_ne _ _ _ _ (by decide)]; exact e2_5
  have e3_6 : a3.eval (.tmp 6) = .pointer (some ⟨p6, 0, none⟩) := by rw [h3, eval_put_ne _ _ _ _ (by decide)]; exact e2_6
  have e3_9 : a3.eval (.tmp 9) = .pointer (some ⟨g, 0, none⟩) := by rw [h3]; exact eval_put_eq _ _ _ (by rw [sz2]; decide)
  clear e2_0 e2_4 e2_5 e2_6 e2_8 sz2
  refine takeH (v := rv) opWi1_3 opWi1_ns (by kernel_rfl) (by kernel_rfl) HPN (fun w hw o ho => run_ldR ho e3_9 w (mac_r hw.1)) hH ?_
  refine wpAnyH_as (l' := #[true, true, true, true, false, false, false, false, false, false, false, false, false, false, false, false, false, false]) (by kernel_rfl) ?_
  obtain ⟨a4, h4⟩ : ∃ a' : Act, a' = a3.put (some 10) (rv) := ⟨_, rfl⟩
  rw [← h4]
  have sz4 : a4.tmps.size = 24 := by rw [h4, size_put]; exact sz3
  have e4_0 : a4.eval (.tmp 0) = .pointer (some ⟨g, 0, none⟩) := by rw [h4, eval_put_ne _ _ _ _ (by decide)]; exact e3_0
  have e4_4 : a4.eval (.tmp 4) = .pointer (some ⟨p4, 0, none⟩) := by rw [h4, eval_put_ne _ _ _ _ (by decide)]; exact e3_4
  have e4_5 : a4.eval (.tmp 5) = .pointer (some ⟨p5, 0, none⟩) := by rw [h4, eval_put_ne _ _ _ _ (by decide)]; exact e3_5
  have e4_6 : a4.eval (.tmp 6) = .pointer (some ⟨p6, 0, none⟩) := by rw [h4, eval_put_ne _ _ _ _ (by decide)]; exact e3_6
  have e4_10 : a4.eval (.tmp 10) = rv := by rw [h4]; exact eval_put_eq _ _ _ (by rw [sz3]; decide)
  clear e3_0 e3_4 e3_5 e3_6 e3_9 sz3
  refine takeH (v := .pointer (some ⟨g, 0, none⟩)) opWi1_4 opWi1_ns (by kernel_rfl) (by kernel_rfl) HPN (fun w hw o ho => run_move ho e4_0 w) hH ?_
  refine wpAnyH_as (l' := #[true, true, true, true, true, false, false, false, false, false, false, false, false, false, false, false, false, false]) (by kernel_rfl) ?_
  obtain ⟨a5, h5⟩ : ∃ a' : Act, a' = a4.put (some 11) (.pointer (some ⟨g, 0, none⟩)) := ⟨_, rfl⟩
  rw [← h5]
  have sz5 : a5.tmps.size = 24 := by rw [h5, size_put]; exact sz4
  have e5_0 : a5.eval (.tmp 0) = .pointer (some ⟨g, 0, none⟩) := by rw [h5, eval_put_ne _ _ _ _ (by decide)]; exact e4_0
  have e5_4 : a5.eval (.tmp 4) = .pointer (some ⟨p4, 0, none⟩) := by rw [h5, eval_put_ne _ _ _ _ (by decide)]; exact e4_4
  have e5_5 : a5.eval (.tmp 5) = .pointer (some ⟨p5, 0, none⟩) := by rw [h5, eval_put_ne _ _ _ _ (by decide)]; exact e4_5
  have e5_6 : a5.eval (.tmp 6) = .pointer (some ⟨p6, 0, none⟩) := by rw [h5, eval_put_ne _ _ _ _ (by decide)]; exact e4_6
  have e5_10 : a5.eval (.tmp 10) = rv := by rw [h5, eval_put_ne _ _ _ _ (by decide)]; exact e4_10
  have e5_11 : a5.eval (.tmp 11) = .pointer (some ⟨g, 0, none⟩) := by rw [h5]; exact eval_put_eq _ _ _ (by rw [sz4]; decide)
  clear e4_0 e4_10 e4_4 e4_5 e4_6 sz4
  refine takeH (v := .pointer (some ⟨g, 0, none⟩)) opWi1_5 opWi1_ns (by kernel_rfl) (by kernel_rfl) HPN (fun w hw o ho => run_nilCheck ho e5_11 w) hH ?_
  refine wpAnyH_as (l' := #[true, true, true, true, true, true, false, false, false, false, false, false, false, false, false, false, false, false]) (by kernel_rfl) ?_
  obtain ⟨a6, h6⟩ : ∃ a' : Act, a' = a5.put (some 12) (.pointer (some ⟨g, 0, none⟩)) := ⟨_, rfl⟩
  rw [← h6]
  have sz6 : a6.tmps.size = 24 := by rw [h6, size_put]; exact sz5
  have e6_0 : a6.eval (.tmp 0) = .pointer (some ⟨g, 0, none⟩) := by rw [h6, eval_put_ne _ _ _ _ (by decide)]; exact e5_0
  have e6_4 : a6.eval (.tmp 4) = .pointer (some ⟨p4, 0, none⟩) := by rw [h6, eval_put_ne _ _ _ _ (by decide)]; exact e5_4
  have e6_5 : a6.eval (.tmp 5) = .pointer (some ⟨p5, 0, none⟩) := by rw [h6, eval_put_ne _ _ _ _ (by decide)]; exact e5_5
  have e6_6 : a6.eval (.tmp 6) = .pointer (some ⟨p6, 0, none⟩) := by rw [h6, eval_put_ne _ _ _ _ (by decide)]; exact e5_6
  have e6_10 : a6.eval (.tmp 10) = rv := by rw [h6, eval_put_ne _ _ _ _ (by decide)]; exact e5_10
  have e6_12 : a6.eval (.tmp 12) = .pointer (some ⟨g, 0, none⟩) := by rw [h6]; exact eval_put_eq _ _ _ (by rw [sz5]; decide)
  clear e5_0 e5_10 e5_11 e5_4 e5_5 e5_6 sz5
  refine takeH (v := .pointer (some ⟨g, 0, none⟩)) opWi1_6 opWi1_ns (by kernel_rfl) (by kernel_rfl) HPN (fun w hw o ho => run_fM0 ho e6_12 w) hH ?_
  refine wpAnyH_as (l' := #[true, true, true, true, true, true, true, false, false, false, false, false, false, false, false, false, false, false]) (by kernel_rfl) ?_
  obtain ⟨a7, h7⟩ : ∃ a' : Act, a' = a6.put (some 13) (.pointer (some ⟨g, 0, none⟩)) := ⟨_, rfl⟩
  rw [← h7]
  have sz7 : a7.tmps.size = 24 := by rw [h7, size_put]; exact sz6
  have e7_0 : a7.eval (.tmp 0) = .pointer (some ⟨g, 0, none⟩) := by rw [h7, eval_put_ne _ _ _ _ (by decide)]; exact e6_0
  have e7_4 : a7.eval (.tmp 4) = .pointer (some ⟨p4, 0, none⟩) := by rw [h7, eval_put_ne _ _ _ _ (by decide)]; exact e6_4
  have e7_5 : a7.eval (.tmp 5) = .pointer (some ⟨p5, 0, none⟩) := by rw [h7, eval_put_ne _ _ _ _ (by decide)]; exact e6_5
  have e7_6 : a7.eval (.tmp 6) = .pointer (some ⟨p6, 0, none⟩) := by rw [h7, eval_put_ne _ _ _ _ (by decide)]; exact e6_6
  have e7_10 : a7.eval (.tmp 10) = rv := by rw [h7, eval_put_ne _ _ _ _ (by decide)]; exact e6_10
  have e7_13 : a7.eval (.tmp 13) = .pointer (some ⟨g, 0, none⟩) := by rw [h7]; exact eval_put_eq _ _ _ (by rw [sz6]; decide)
  clear e6_0 e6_10 e6_12 e6_4 e6_5 e6_6 sz6
  refine takeH (v := rv) opWi1_7 opWi1_ns (by kernel_rfl) (by kernel_rfl) HPN (fun w hw o ho => run_ldR ho e7_13 w (mac_r hw.1)) hH ?_
  refine wpAnyH_as (l' := #[true, true, true, true, true, true, true, true, false, false, false, false, false, false, false, false, false, false]) (by kernel_rfl) ?_
  obtain ⟨a8, h8⟩ : ∃ a' : Act, a' = a7.put (some 14) (rv) := ⟨_, rfl⟩
  rw [← h8]
  have sz8 : a8.tmps.size = 24 := by rw [h8, size_put]; exact sz7
  have e8_0 : a8.eval (.tmp 0) = .pointer (some ⟨g, 0, none⟩) := by rw [h8, eval_put_ne _ _ _ _ (by decide)]; exact e7_0
  have e8_4 : a8.eval (.tmp 4) = .pointer (some ⟨p4, 0, none⟩) := by rw [h8, eval_put_ne _ _ _ _ (by decide)]; exact e7_4
  have e8_5 : a8.eval (.tmp 5) = .pointer (some ⟨p5, 0, none⟩) := by rw [h8, eval_put_ne _ _ _ _ (by decide)]; exact e7_5
  have e8_6 : a8.eval (.tmp 6) = .pointer (some ⟨p6, 0, none⟩) := by rw [h8, eval_put_ne _ _ _ _ (by decide)]; exact e7_6
  have e8_10 : a8.eval (.tmp 10) = rv := by rw [h8, eval_put_ne _ _ _ _ (by decide)]; exact e7_10
  have e8_14 : a8.eval (.tmp 14) = rv := by rw [h8]; exact eval_put_eq _ _ _ (by rw [sz7]; decide)
  clear e7_0 e7_10 e7_13 e7_4 e7_5 e7_6 sz7
  refine takeH (v := .agg (VI .u64 sm)) opWi1_8 opWi1_ns (by kernel_rfl) (by kernel_rfl) HPN (fun w hw o ho => run_ldN hSm.out ho e8_4 w hw.2.1) hH ?_
  refine wpAnyH_as (l' := #[true, true, true, true, true, true, true, true, true, false, false, false, false, false, false, false, false, false]) (by kernel_rfl) ?_
  obtain ⟨a9, h9⟩ : ∃ a' : Act, a' = a8.put (some 15) (.agg (VI .u64 sm)) := ⟨_, rfl⟩
  rw [← h9]
  have sz9 : a9.tmps.size = 24 := by rw [h9, size_put]; exact sz8
  have e9_0 : a9.eval (.tmp 0) = .pointer (some ⟨g, 0, none⟩) := by rw [h9, eval_put_ne _ _ _ _ (by decide)]; exact e8_0
  have e9_5 : a9.eval (.tmp 5) = .pointer (some ⟨p5, 0, none⟩) := by rw [h9, eval_put_ne _ _ _ _ (by decide)]; exact e8_5
  have e9_6 : a9.eval (.tmp 6) = .pointer (some ⟨p6, 0, none⟩) := by rw [h9, eval_put_ne _ _ _ _ (by decide)]; exact e8_6
  have e9_10 : a9.eval (.tmp 10) = rv := by rw [h9, eval_put_ne _ _ _ _ (by decide)]; exact e8_10
  have e9_14 : a9.eval (.tmp 14) = rv := by rw [h9, eval_put_ne _ _ _ _ (by decide)]; exact e8_14
  have e9_15 : a9.eval (.tmp 15) = .agg (VI .u64 sm) := by rw [h9]; exact eval_put_eq _ _ _ (by rw [sz8]; decide)
  clear e8_0 e8_10 e8_14 e8_4 e8_5 e8_6 sz8
  refine takeH (v := .agg (VI .u8 bb)) opWi1_9 opWi1_ns (by kernel_rfl) (by kernel_rfl) HPN (fun w hw o ho => run_ld17 hB.out ho e9_5 w hw.2.2) hH ?_
  refine wpAnyH_as (l' := #[true, true, true, true, true, true, true, true, true, true, false, false, false, false, false, false, false, false]) (by kernel_rfl) ?_
  obtain ⟨a10, h10⟩ : ∃ a' : Act, a' = a9.put (some 16) (.agg (VI .u8 bb)) := ⟨_, rfl⟩
  rw [← h10]
  have sz10 : a10.tmps.size = 24 := by rw [h10, size_put]; exact sz9
  have e10_0 : a10.eval (.tmp 0) = .pointer (some ⟨g, 0, none⟩) := by rw [h10, eval_put_ne _ _ _ _ (by decide)]; exact e9_0
  have e10_6 : a10.eval (.tmp 6) = .pointer (some ⟨p6, 0, none⟩) := by rw [h10, eval_put_ne _ _ _ _ (by decide)]; exact e9_6
  have e10_10 : a10.eval (.tmp 10) = rv := by rw [h10, eval_put_ne _ _ _ _ (by decide)]; exact e9_10
  have e10_14 : a10.eval (.tmp 14) = rv := by rw [h10, eval_put_ne _ _ _ _ (by decide)]; exact e9_14
  have e10_15 : a10.eval (.tmp 15) = .agg (VI .u64 sm) := by rw [h10, eval_put_ne _ _ _ _ (by decide)]; exact e9_15
  have e10_16 : a10.eval (.tmp 16) = .agg (VI .u8 bb) := by rw [h10]; exact eval_put_eq _ _ _ (by rw [sz9]; decide)
  clear e9_0 e9_10 e9_14 e9_15 e9_5 e9_6 sz9
  refine takeH (v := .pointer (some ⟨g, 0, none⟩)) opWi1_12 opWi1_ns (by kernel_rfl) (by kernel_rfl) HPN (fun w hw o ho => run_move ho e10_0 w) hH ?_
  refine wpAnyH_as (l' := #[true, true, true, true, true, true, true, true, true, true, false, false, true, false, false, false, false, false]) (by kernel_rfl) ?_
  obtain ⟨a11, h11⟩ : ∃ a' : Act, a' = a10.put (some 19) (.pointer (some ⟨g, 0, none⟩)) := ⟨_, rfl⟩
  rw [← h11]
  have sz11 : a11.tmps.size = 24 := by rw [h11, size_put]; exact sz10
  have e11_6 : a11.eval (.tmp 6) = .pointer (some ⟨p6, 0, none⟩) := by rw [h11, eval_put_ne _ _ _ _ (by decide)]; exact e10_6
  have e11_10 : a11.eval (.tmp 10) = rv := by rw [h11, eval_put_ne _ _ _ _ (by decide)]; exact e10_10
  have e11_14 : a11.eval (.tmp 14) = rv := by rw [h11, eval_put_ne _ _ _ _ (by decide)]; exact e10_14
  have e11_15 : a11.eval (.tmp 15) = .agg (VI .u64 sm) := by rw [h11, eval_put_ne _ _ _ _ (by decide)]; exact e10_15
  have e11_16 : a11.eval (.tmp 16) = .agg (VI .u8 bb) := by rw [h11, eval_put_ne _ _ _ _ (by decide)]; exact e10_16
  have e11_19 : a11.eval (.tmp 19) = .pointer (some ⟨g, 0, none⟩) := by rw [h11]; exact eval_put_eq _ _ _ (by rw [sz10]; decide)
  clear e10_0 e10_10 e10_14 e10_15 e10_16 e10_6 sz10
  refine takeH (v := .pointer (some ⟨g, 0, none⟩)) opWi1_13 opWi1_ns (by kernel_rfl) (by kernel_rfl) HPN (fun w hw o ho => run_nilCheck ho e11_19 w) hH ?_
  refine wpAnyH_as (l' := #[true, true, true, true, true, true, true, true, true, true, false, false, true, true, false, false, false, false]) (by kernel_rfl) ?_
  obtain ⟨a12, h12⟩ : ∃ a' : Act, a' = a11.put (some 20) (.pointer (some ⟨g, 0, none⟩)) := ⟨_, rfl⟩
  rw [← h12]
  have sz12 : a12.tmps.size = 24 := by rw [h12, size_put]; exact sz11
  have e12_6 : a12.eval (.tmp 6) = .pointer (some ⟨p6, 0, none⟩) := by rw [h12, eval_put_ne _ _ _ _ (by decide)]; exact e11_6
  have e12_10 : a12.eval (.tmp 10) = rv := by rw [h12, eval_put_ne _ _ _ _ (by decide)]; exact e11_10
  have e12_14 : a12.eval (.tmp 14) = rv := by rw [h12, eval_put_ne _ _ _ _ (by decide)]; exact e11_14
  have e12_15 : a12.eval (.tmp 15) = .agg (VI .u64 sm) := by rw [h12, eval_put_ne _ _ _ _ (by decide)]; exact e11_15
  have e12_16 : a12.eval (.tmp 16) = .agg (VI .u8 bb) := by rw [h12, eval_put_ne _ _ _ _ (by decide)]; exact e11_16
  have e12_20 : a12.eval (.tmp 20) = .pointer (some ⟨g, 0, none⟩) := by rw [h12]; exact eval_put_eq _ _ _ (by rw [sz11]; decide)
  clear e11_10 e11_14 e11_15 e11_16 e11_19 e11_6 sz11
  refine takeH (v := .pointer (some ⟨g, 1, none⟩)) opWi1_14 opWi1_ns (by kernel_rfl) (by kernel_rfl) HPN (fun w hw o ho => run_fM1 ho e12_20 w) hH ?_
  refine wpAnyH_as (l' := #[true, true, true, true, true, true, true, true, true, true, false, false, true, true, true, false, false, false]) (by kernel_rfl) ?_
  obtain ⟨a13, h13⟩ : ∃ a' : Act, a' = a12.put (some 21) (.pointer (some ⟨g, 1, none⟩)) := ⟨_, rfl⟩
  rw [← h13]
  have sz13 : a13.tmps.size = 24 := by rw [h13, size_put]; exact sz12
  have e13_6 : a13.eval (.tmp 6) = .pointer (some ⟨p6, 0, none⟩) := by rw [h13, eval_put_ne _ _ _ _ (by decide)]; exact e12_6
  have e13_10 : a13.eval (.tmp 10) = rv := by rw [h13, eval_put_ne _ _ _ _ (by decide)]; exact e12_10
  have e13_14 : a13.eval (.tmp 14) = rv := by rw [h13, eval_put_ne _ _ _ _ (by decide)]; exact e12_14
  have e13_15 : a13.eval (.tmp 15) = .agg (VI .u64 sm) := by rw [h13, eval_put_ne _ _ _ _ (by decide)]; exact e12_15
  have e13_16 : a13.eval (.tmp 16) = .agg (VI .u8 bb) := by rw [h13, eval_put_ne _ _ _ _ (by decide)]; exact e12_16
  have e13_21 : a13.eval (.tmp 21) = .pointer (some ⟨g, 1, none⟩) := by rw [h13]; exact eval_put_eq _ _ _ (by rw [sz12]; decide)
  clear e12_10 e12_14 e12_15 e12_16 e12_20 e12_6 sz12
  refine takeH (v := .agg (VI .u64 r)) opWi1_15 opWi1_ns (by kernel_rfl) (by kernel_rfl) HPN (fun w hw o ho => run_ldN hM.out.r.len ho e13_21 w (mac_mul hw.1)) hH ?_
  refine wpAnyH_as (l' := #[true, true, true, true, true, true, true, true, true, true, false, false, true, true, true, true, false, false]) (by kernel_rfl) ?_
  obtain ⟨a14, h14⟩ : ∃ a' : Act, a' = a13.put (some 22) (.agg (VI .u64 r)) := ⟨_, rfl⟩
  rw [← h14]
  have sz14 : a14.tmps.size = 24 := by rw [h14, size_put]; exact sz13
  have e14_6 : a14.eval (.tmp 6) = .pointer (some ⟨p6, 0, none⟩) := by rw [h14, eval_put_ne _ _ _ _ (by decide)]; exact e13_6
  have e14_10 : a14.eval (.tmp 10) = rv := by rw [h14, eval_put_ne _ _ _ _ (by decide)]; exact e13_10
  have e14_14 : a14.eval (.tmp 14) = rv := by rw [h14, eval_put_ne _ _ _ _ (by decide)]; exact e13_14
  have e14_15 : a14.eval (.tmp 15) = .agg (VI .u64 sm) := by rw [h14, eval_put_ne _ _ _ _ (by decide)]; exact e13_15
  have e14_16 : a14.eval (.tmp 16) = .agg (VI .u8 bb) := by rw [h14, eval_put_ne _ _ _ _ (by decide)]; exact e13_16
  have e14_22 : a14.eval (.tmp 22) = .agg (VI .u64 r) := by rw [h14]; exact eval_put_eq _ _ _ (by rw [sz13]; decide)
  clear e13_10 e13_14 e13_15 e13_16 e13_21 e13_6 sz13
  refine readyH opWi1_10 (by kernel_rfl) (fun o ho hd => wpCall (v := .agg (VI .u64 z0)) ho hd (args := #[.agg (VI .u8 bb)]) (by simp only [List.map_toArray, List.map_cons, List.map_nil, e14_16] <;> rfl) (fun _ => rfl) (HK0.out  w0 hw0) (fun w1 hw1 => ?_))
  have hH := HS1  w1 hw1
  refine ⟨hH, ?_⟩
  refine wpAnyH_as (l' := #[true, true, true, true, true, true, true, true, true, true, true, false, true, true, true, true, false, false]) (by kernel_rfl) ?_
  obtain ⟨a15, h15⟩ : ∃ a' : Act, a' = a14.put (some 17) (.agg (VI .u64 z0)) := ⟨_, rfl⟩
  rw [← h15]
  have sz15 : a15.tmps.size = 24 := by rw [h15, size_put]; exact sz14
  have e15_6 : a15.eval (.tmp 6) = .pointer (some ⟨p6, 0, none⟩) := by rw [h15, eval_put_ne _ _ _ _ (by decide)]; exact e14_6
  have e15_10 : a15.eval (.tmp 10) = rv := by rw [h15, eval_put_ne _ _ _ _ (by decide)]; exact e14_10
  have e15_14 : a15.eval (.tmp 14) = rv := by rw [h15, eval_put_ne _ _ _ _ (by decide)]; exact e14_14
  have e15_15 : a15.eval (.tmp 15) = .agg (VI .u64 sm) := by rw [h15, eval_put_ne _ _ _ _ (by decide)]; exact e14_15
  have e15_22 : a15.eval (.tmp 22) = .agg (VI .u64 r) := by rw [h15, eval_put_ne _ _ _ _ (by decide)]; exact e14_22
  have e15_17 : a15.eval (.tmp 17) = .agg (VI .u64 z0) := by rw [h15]; exact eval_put_eq _ _ _ (by rw [sz14]; decide)
  clear e14_10 e14_14 e14_15 e14_16 e14_22 e14_6 sz14
  refine readyH opWi1_11 (by kernel_rfl) (fun o ho hd => wpCall (v := .agg (VI .u64 z1)) ho hd (args := #[rv, .agg (VI .u64 sm), .agg (VI .u64 z0)]) (by simp only [List.map_toArray, List.map_cons, List.map_nil, e15_14, e15_15, e15_17] <;> rfl) (fun _ => rfl) (HK1.out  w1 hw1) (fun w2 hw2 => ?_))
  have hH := HS2  w2 hw2
  refine ⟨hH, ?_⟩
  refine wpAnyH_as (l' := #[true, true, true, true, true, true, true, true, true, true, true, true, true, true, true, true, false, false]) (by kernel_rfl) ?_
  obtain ⟨a16, h16⟩ : ∃ a' : Act, a' = a15.put (some 18) (.agg (VI .u64 z1)) := ⟨_, rfl⟩
  rw [← h16]
  have sz16 : a16.tmps.size = 24 := by rw [h16, size_put]; exact sz15
  have e16_6 : a16.eval (.tmp 6) = .pointer (some ⟨p6, 0, none⟩) := by rw [h16, eval_put_ne _ _ _ _ (by decide)]; exact e15_6
  have e16_10 : a16.eval (.tmp 10) = rv := by rw [h16, eval_put_ne _ _ _ _ (by decide)]; exact e15_10
  have e16_22 : a16.eval (.tmp 22) = .agg (VI .u64 r) := by rw [h16, eval_put_ne _ _ _ _ (by decide)]; exact e15_22
  have e16_18 : a16.eval (.tmp 18) = .agg (VI .u64 z1) := by rw [h16]; exact eval_put_eq _ _ _ (by rw [sz15]; decide)
  clear e15_10 e15_14 e15_15 e15_17 e15_22 e15_6 sz15
  refine readyH opWi1_16 (by kernel_rfl) (fun o ho hd => wpCall (v := .agg (VI .u64 z2)) ho hd (args := #[rv, .agg (VI .u64 z1), .agg (VI .u64 r)]) (by simp only [List.map_toArray, List.map_cons, List.map_nil, e16_10, e16_18, e16_22] <;> rfl) (fun _ => rfl) (HK2.out  w2 hw2) (fun w3 hw3 => ?_))
  have hH := HS3  w3 hw3
  refine ⟨hH, ?_⟩
  refine wpAnyH_as (l' := #[true, true, true, true, true, true, true, true, true, true, true, true, true, true, true, true, true, false]) (by kernel_rfl) ?_
  obtain ⟨a17, h17⟩ : ∃ a' : Act, a' = a16.put (some 23) (.agg (VI .u64 z2)) := ⟨_, rfl⟩
  rw [← h17]
  have sz17 : a17.tmps.size = 24 := by rw [h17, size_put]; exact sz16
  have e17_6 : a17.eval (.tmp 6) = .pointer (some ⟨p6, 0, none⟩) := by rw [h17, eval_put_ne _ _ _ _ (by decide)]; exact e16_6
  have e17_23 : a17.eval (.tmp 23) = .agg (VI .u64 z2) := by rw [h17]; exact eval_put_eq _ _ _ (by rw [sz16]; decide)
  clear e16_10 e16_18 e16_22 e16_6 sz16
  refine readyH opWi1_17 (by kernel_rfl) (fun o ho hd => HK3.out  w3 hw3 _ o _ _ ho hd e17_6 e17_23 (fun  w4 hw4 => ?_))
  have hH := HS4  w4 hw4
  refine ⟨hH, ?_⟩
  refine wpAnyH_as (l' := #[true, true, true, true, true, true, true, true, true, true, true, true, true, true, true, true, true, true]) (by kernel_rfl) ?_
  refine wpAnyH_done (by kernel_rfl) ?_ _
  have hF : a17 = ⟨#[.pointer (some ⟨g, 0, none⟩), c1, c2, c3, .pointer (some ⟨p4, 0, none⟩), .pointer (some ⟨p5, 0, none⟩), .pointer (some ⟨p6, 0, none⟩), .pointer (some ⟨g, 0, none⟩), .pointer (some ⟨g, 0, none⟩), .pointer (some ⟨g, 0, none⟩), rv, .pointer (some ⟨g, 0, none⟩), .pointer (some ⟨g, 0, none⟩), .pointer (some ⟨g, 0, none⟩), rv, .agg (VI .u64 sm), .agg (VI .u8 bb), .agg (VI .u64 z0), .agg (VI .u64 z1), .pointer (some ⟨g, 0, none⟩), .pointer (some ⟨g, 0, none⟩), .pointer (some ⟨g, 1, none⟩), .agg (VI .u64 r), .agg (VI .u64 z2)], []⟩ := by rw [h17, h16, h15, h14, h13, h12, h11, h10, h9, h8, h7, h6, h5, h4, h3, h2, h1, ha]; kernel_rfl
  rw [hF]
  exact H  _ hw4
noncomputable def rgTa1 : Code := ((Try.f45.body.bind (findReg 1)).getD .skip)
noncomputable def opTa1 : Array Oper := opsOf rgTa1
theorem rgTa1_is : rgTa1 = .region 1 opTa1 true := by kernel_rfl
theorem opTa1_ns : Region.noSelect opTa1 = true := by kernel_rfl
theorem opTa1_0 : opIs opTa1 0 (.slice 67 (.tmp 4) none none none) (some 5) := by unfold opIs; kernel_rfl
theorem opTa1_1 : opIs opTa1 1 (.move (.tmp 1)) (some 6) := by unfold opIs; kernel_rfl
theorem opTa1_2 : opIs opTa1 2 (.nilCheck (.tmp 6)) (some 7) := by unfold opIs; kernel_rfl
theorem opTa1_3 : opIs opTa1 3 (.slice 35 (.tmp 7) none none none) (some 8) := by unfold opIs; kernel_rfl
theorem opTa1_4 : opIs opTa1 4 (.call { callee := .builtin .copy, args := #[.tmp 5, .tmp 8], argTypes := #[30, 30] }) (some 9) := by unfold opIs; kernel_rfl
set_option maxRecDepth 100000 in
set_option maxHeartbeats 4000000 in
theorem Ta1 {Q : Exit → Act → World → Prop} {W : World} {R0 : World → Prop} {R1 : World → Prop} {bb oo p4 : Nat} {c0 c2 c3 c5 c6 c7 c8 c9 c10 c11 c12 c13 c14 c15 c16 c17 c18 c19 c20 : Value}
    (hR0 : R0 W.drew) (HS0 : ∀ Y, R0 Y → (fun _ => True) Y)
    (HK0 : Hid (∀ Y, R0 Y → ∀ (a : Act) (o : Oper) (K : Act → World → Prop) (Q : Exit → Act → World → Prop), o.op = .call { callee := .builtin .copy, args := #[.tmp 5, .tmp 8], argTypes := #[30, 30] } → o.dst = some 9 → a.eval (.tmp 5) = .slice (some ⟨p4, 0, none⟩) 17 17 → a.eval (.tmp 8) = .slice (some ⟨bb, oo, none⟩) 16 16 → (∀ w', R1 w' → K (a.put (some 9) (.int .i64 16)) w') → Oper.wp Try.prog o a Y K Q))
    (HS1 : ∀ Y, R1 Y → (fun _ => True) Y)
    (HPN : ∀ c (a : Act) d v w, Q (.panic c) (a.put d v) w → Q (.panic c) a w)
    (H : ∀ W', R1 W' → Q .normal ⟨#[c0, .pointer (some ⟨bb, oo, none⟩), c2, c3, .pointer (some ⟨p4, 0, none⟩), .slice (some ⟨p4, 0, none⟩) 17 17, .pointer (some ⟨bb, oo, none⟩), .pointer (some ⟨bb, oo, none⟩), .slice (some ⟨bb, oo, none⟩) 16 16, .int .i64 16, c10, c11, c12, c13, c14, c15, c16, c17, c18, c19, c20], []⟩ W') :
    Code.wp Try.prog rgTa1 Q ⟨#[c0, .pointer (some ⟨bb, oo, none⟩), c2, c3, .pointer (some ⟨p4, 0, none⟩), c5, c6, c7, c8, c9, c10, c11, c12, c13, c14, c15, c16, c17, c18, c19, c20], []⟩ W := by
  rw [rgTa1_is]
  refine wp_region_held_drew (S := fun _ => True) (by kernel_rfl) (HS0 _ hR0) (fun hH => ?_)
  obtain ⟨w0, hw00⟩ : ∃ V, W.drew = V := ⟨_, rfl⟩
  clear hH
  rw [hw00] at hR0 ⊢
  have hH := HS0 _ hR0
  have hw0 := hR0
  clear hw00
  obtain ⟨a0, ha⟩ : ∃ a : Act, a = ⟨#[c0, .pointer (some ⟨bb, oo, none⟩), c2, c3, .pointer (some ⟨p4, 0, none⟩), c5, c6, c7, c8, c9, c10, c11, c12, c13, c14, c15, c16, c17, c18, c19, c20], []⟩ := ⟨_, rfl⟩
  have sz0 : a0.tmps.size = 21 := by rw [ha]; kernel_rfl
  have e0_1 : a0.eval (.tmp 1) = .pointer (some ⟨bb, oo, none⟩) := by rw [ha]; kernel_rfl
  have e0_4 : a0.eval (.tmp 4) = .pointer (some ⟨p4, 0, none⟩) := by rw [ha]; kernel_rfl
  rw [← ha]
  refine wpAnyH_as (l' := #[false, false, false, false, false]) (by kernel_rfl) ?_
  refine takeH (v := .slice (some ⟨p4, 0, none⟩) 17 17) opTa1_0 opTa1_ns (by kernel_rfl) (by kernel_rfl) HPN (fun w hw o ho => run_sl17 ho e0_4 w) hH ?_
  refine wpAnyH_as (l' := #[true, false, false, false, false]) (by kernel_rfl) ?_
  obtain ⟨a1, h1⟩ : ∃ a' : Act, a' = a0.put (some 5) (.slice (some ⟨p4, 0, none⟩) 17 17) := ⟨_, rfl⟩
  rw [← h1]
  have sz1 : a1.tmps.size = 21 := by rw [h1, size_put]; exact sz0
  have e1_1 : a1.eval (.tmp 1) = .pointer (some ⟨bb, oo, none⟩) := by rw [h1, eval_put_ne _ _ _ _ (by decide)]; exact e0_1
  have e1_5 : a1.eval (.tmp 5) = .slice (some ⟨p4, 0, none⟩) 17 17 := by rw [h1]; exact eval_put_eq _ _ _ (by rw [sz0]; decide)
  clear e0_1 e0_4 sz0
  refine takeH (v := .pointer (some ⟨bb, oo, none⟩)) opTa1_1 opTa1_ns (by kernel_rfl) (by kernel_rfl) HPN (fun w hw o ho => run_move ho e1_1 w) hH ?_
  refine wpAnyH_as (l' := #[true, true, false, false, false]) (by kernel_rfl) ?_
  obtain ⟨a2, h2⟩ : ∃ a' : Act, a' = a1.put (some 6) (.pointer (some ⟨bb, oo, none⟩)) := ⟨_, rfl⟩
  rw [← h2]
  have sz2 : a2.tmps.size = 21 := by rw [h2, size_put]; exact sz1
  have e2_5 : a2.eval (.tmp 5) = .slice (some ⟨p4, 0, none⟩) 17 17 := by rw [h2, eval_put_ne _ _ _ _ (by decide)]; exact e1_5
  have e2_6 : a2.eval (.tmp 6) = .pointer (some ⟨bb, oo, none⟩) := by rw [h2]; exact eval_put_eq _ _ _ (by rw [sz1]; decide)
  clear e1_1 e1_5 sz1
  refine takeH (v := .pointer (some ⟨bb, oo, none⟩)) opTa1_2 opTa1_ns (by kernel_rfl) (by kernel_rfl) HPN (fun w hw o ho => run_nilCheck ho e2_6 w) hH ?_
  refine wpAnyH_as (l' := #[true, true, true, false, false]) (by kernel_rfl) ?_
  obtain ⟨a3, h3⟩ : ∃ a' : Act, a' = a2.put (some 7) (.pointer (some ⟨bb, oo, none⟩)) := ⟨_, rfl⟩
  rw [← h3]
  have sz3 : a3.tmps.size = 21 := by rw [h3, size_put]; exact sz2
  have e3_5 : a3.eval (.tmp 5) = .slice (some ⟨p4, 0, none⟩) 17 17 := by rw [h3, eval_put_ne _ _ _ _ (by decide)]; exact e2_5
  have e3_7 : a3.eval (.tmp 7) = .pointer (some ⟨bb, oo, none⟩) := by rw [h3]; exact eval_put_eq _ _ _ (by rw [sz2]; decide)
  clear e2_5 e2_6 sz2
  refine takeH (v := .slice (some ⟨bb, oo, none⟩) 16 16) opTa1_3 opTa1_ns (by kernel_rfl) (by kernel_rfl) HPN (fun w hw o ho => run_sl16 ho e3_7 w) hH ?_
  refine wpAnyH_as (l' := #[true, true, true, true, false]) (by kernel_rfl) ?_
  obtain ⟨a4, h4⟩ : ∃ a' : Act, a' = a3.put (some 8) (.slice (some ⟨bb, oo, none⟩) 16 16) := ⟨_, rfl⟩
  rw [← h4]
  have sz4 : a4.tmps.size = 21 := by rw [h4, size_put]; exact sz3
  have e4_5 : a4.eval (.tmp 5) = .slice (some ⟨p4, 0, none⟩) 17 17 := by rw [h4, eval_put_ne _ _ _ _ (by decide)]; exact e3_5
  have e4_8 : a4.eval (.tmp 8) = .slice (some ⟨bb, oo, none⟩) 16 16 := by rw [h4]; exact eval_put_eq _ _ _ (by rw [sz3]; decide)
  clear e3_5 e3_7 sz3
  refine readyH opTa1_4 (by kernel_rfl) (fun o ho hd => HK0.out  w0 hw0 _ o _ _ ho hd e4_5 e4_8 (fun  w1 hw1 => ?_))
  have hH := HS1  w1 hw1
  refine ⟨hH, ?_⟩
  refine wpAnyH_as (l' := #[true, true, true, true, true]) (by kernel_rfl) ?_
  obtain ⟨a5, h5⟩ : ∃ a' : Act, a' = a4.put (some 9) (.int .i64 16) := ⟨_, rfl⟩
  rw [← h5]
  have sz5 : a5.tmps.size = 21 := by rw [h5, size_put]; exact sz4
  clear e4_5 e4_8 sz4
  refine wpAnyH_done (by kernel_rfl) ?_ _
  have hF : a5 = ⟨#[c0, .pointer (some ⟨bb, oo, none⟩), c2, c3, .pointer (some ⟨p4, 0, none⟩), .slice (some ⟨p4, 0, none⟩) 17 17, .pointer (some ⟨bb, oo, none⟩), .pointer (some ⟨bb, oo, none⟩), .slice (some ⟨bb, oo, none⟩) 16 16, .int .i64 16, c10, c11, c12, c13, c14, c15, c16, c17, c18, c19, c20], []⟩ := by rw [h5, h4, h3, h2, h1, ha]; kernel_rfl
  rw [hF]
  exact H  _ hw1
noncomputable def rgTa3 : Code := ((Try.f45.body.bind (findReg 3)).getD .skip)
noncomputable def opTa3 : Array Oper := opsOf rgTa3
theorem rgTa3_is : rgTa3 = .region 3 opTa3 true := by kernel_rfl
theorem opTa3_ns : Region.noSelect opTa3 = true := by kernel_rfl
theorem opTa3_0 : opIs opTa3 0 (.move (.tmp 0)) (some 11) := by unfold opIs; kernel_rfl
theorem opTa3_1 : opIs opTa3 1 (.move (.tmp 0)) (some 12) := by unfold opIs; kernel_rfl
theorem opTa3_2 : opIs opTa3 2 (.move (.tmp 0)) (some 13) := by unfold opIs; kernel_rfl
theorem opTa3_3 : opIs opTa3 3 (.nilCheck (.tmp 13)) (some 14) := by unfold opIs; kernel_rfl
theorem opTa3_4 : opIs opTa3 4 (.fieldAddr 69 (.tmp 14) 3) (some 15) := by unfold opIs; kernel_rfl
theorem opTa3_5 : opIs opTa3 5 (.load 66 (.tmp 15)) (some 16) := by unfold opIs; kernel_rfl
theorem opTa3_6 : opIs opTa3 6 (.load 67 (.tmp 4)) (some 17) := by unfold opIs; kernel_rfl
theorem opTa3_7 : opIs opTa3 7 (.call { callee := .value (.func 38), args := #[.tmp 12, .tmp 16, .tmp 17], argTypes := #[27, 66, 67] }) (some 18) := by unfold opIs; kernel_rfl
theorem opTa3_8 : opIs opTa3 8 (.nilCheck (.tmp 11)) (some 19) := by unfold opIs; kernel_rfl
theorem opTa3_9 : opIs opTa3 9 (.fieldAddr 69 (.tmp 19) 3) (some 20) := by unfold opIs; kernel_rfl
theorem opTa3_10 : opIs opTa3 10 (.store 66 (.tmp 20) (.tmp 18)) (none) := by unfold opIs; kernel_rfl
set_option maxRecDepth 100000 in
set_option maxHeartbeats 4000000 in
theorem Ta3 {Q : Exit → Act → World → Prop} {W : World} {R0 : World → Prop} {R1 : World → Prop} {R2 : World → Prop} {g h : Nat} {rv : Value} {r m s b : List Int} {p4 : Nat} {bb z : List Int} {c1 c2 c3 c5 c6 c7 c8 c9 c10 c11 c12 c13 c14 c15 c16 c17 c18 c19 c20 : Value}
    (hM : Hid (MS r m s b))
    (hB : Hid (bb.length = 17)) (HLd : ∀ Y, R0 Y → Y.rangeAt g 22 (s.map (Value.int .u64)))
    (hR0 : R0 W.drew) (HS0 : ∀ Y, R0 Y → (fun Y : World => Y.rangeAt p4 0 (bb.map (Value.int .u8))) Y)
    (HK0 : Hid (∀ Y, R0 Y → Calls Try.prog 38 #[.pointer (some ⟨g, 0, none⟩), .agg (VI .u64 s), .agg (VI .u8 bb)] Y fun e w' => e = .returned (.agg (VI .u64 z)) ∧ R1 w'))
    (HS1 : ∀ Y, R1 Y → (fun Y : World => Y.rangeAt p4 0 (bb.map (Value.int .u8))) Y)
    (HK1 : Hid (∀ Y, R1 Y → ∀ (a : Act) (o : Oper) (K : Act → World → Prop) (Q : Exit → Act → World → Prop), o.op = .store 66 (.tmp 20) (.tmp 18) → o.dst = none → a.eval (.tmp 20) = .pointer (some ⟨g, 22, none⟩) → a.eval (.tmp 18) = .agg (VI .u64 z) → (∀ w', R2 w' → K a w') → Oper.wp Try.prog o a Y K Q))
    (HS2 : ∀ Y, R2 Y → (fun Y : World => Y.rangeAt p4 0 (bb.map (Value.int .u8))) Y)
    (HPN : ∀ c (a : Act) d v w, Q (.panic c) (a.put d v) w → Q (.panic c) a w)
    (H : ∀ W', R2 W' → Q .normal ⟨#[.pointer (some ⟨g, 0, none⟩), c1, c2, c3, .pointer (some ⟨p4, 0, none⟩), c5, c6, c7, c8, c9, c10, .pointer (some ⟨g, 0, none⟩), .pointer (some ⟨g, 0, none⟩), .pointer (some ⟨g, 0, none⟩), .pointer (some ⟨g, 0, none⟩), .pointer (some ⟨g, 22, none⟩), .agg (VI .u64 s), .agg (VI .u8 bb), .agg (VI .u64 z), .pointer (some ⟨g, 0, none⟩), .pointer (some ⟨g, 22, none⟩)], []⟩ W') :
    Code.wp Try.prog rgTa3 Q ⟨#[.pointer (some ⟨g, 0, none⟩), c1, c2, c3, .pointer (some ⟨p4, 0, none⟩), c5, c6, c7, c8, c9, c10, c11, c12, c13, c14, c15, c16, c17, c18, c19, c20], []⟩ W := by
  rw [rgTa3_is]
  refine wp_region_held_drew (S := fun Y : World => Y.rangeAt p4 0 (bb.map (Value.int .u8))) (by kernel_rfl) (HS0 _ hR0) (fun hH => ?_)
  obtain ⟨w0, hw00⟩ : ∃ V, W.drew = V := ⟨_, rfl⟩
  clear hH
  rw [hw00] at hR0 ⊢
  have hH := HS0 _ hR0
  have hw0 := hR0
  clear hw00
  obtain ⟨a0, ha⟩ : ∃ a : Act, a = ⟨#[.pointer (some ⟨g, 0, none⟩), c1, c2, c3, .pointer (some ⟨p4, 0, none⟩), c5, c6, c7, c8, c9, c10, c11, c12, c13, c14, c15, c16, c17, c18, c19, c20], []⟩ := ⟨_, rfl⟩
  have sz0 : a0.tmps.size = 21 := by rw [ha]; kernel_rfl
  have e0_0 : a0.eval (.tmp 0) = .pointer (some ⟨g, 0, none⟩) := by rw [ha]; kernel_rfl
  have e0_4 : a0.eval (.tmp 4) = .pointer (some ⟨p4, 0, none⟩) := by rw [ha]; kernel_rfl
  rw [← ha]
  refine wpAnyH_as (l' := #[false, false, false, false, false, false, false, false, false, false, false]) (by kernel_rfl) ?_
  refine takeH (v := .pointer (some ⟨g, 0, none⟩)) opTa3_0 opTa3_ns (by kernel_rfl) (by kernel_rfl) HPN (fun w hw o ho => run_move ho e0_0 w) hH ?_
  refine wpAnyH_as (l' := #[true, false, false, false, false, false, false, false, false, false, false]) (by kernel_rfl) ?_
  obtain ⟨a1, h1⟩ : ∃ a' : Act, a' = a0.put (some 11) (.pointer (some ⟨g, 0, none⟩)) := ⟨_, rfl⟩
  rw [← h1]
  have sz1 : a1.tmps.size = 21 := by rw [h1, size_put]; exact sz0
  have e1_0 : a1.eval (.tmp 0) = .pointer (some ⟨g, 0, none⟩) := by rw [h1, eval_put_ne _ _ _ _ (by decide)]; exact e0_0
  have e1_4 : a1.eval (.tmp 4) = .pointer (some ⟨p4, 0, none⟩) := by rw [h1, eval_put_ne _ _ _ _ (by decide)]; exact e0_4
  have e1_11 : a1.eval (.tmp 11) = .pointer (some ⟨g, 0, none⟩) := by rw [h1]; exact eval_put_eq _ _ _ (by rw [sz0]; decide)
  clear e0_0 e0_4 sz0
  refine takeH (v := .pointer (some ⟨g, 0, none⟩)) opTa3_1 opTa3_ns (by kernel_rfl) (by kernel_rfl) HPN (fun w hw o ho => run_move ho e1_0 w) hH ?_
  refine wpAnyH_as (l' := #[true, true, false, false, false, false, false, false, false, false, false]) (by kernel_rfl) ?_
  obtain ⟨a2, h2⟩ : ∃ a' : Act, a' = a1.put (some 12) (.pointer (some ⟨g, 0, none⟩)) := ⟨_, rfl⟩
  rw [← h2]
  have sz2 : a2.tmps.size = 21 := by rw [h2, size_put]; exact sz1
  have e2_0 : a2.eval (.tmp 0) = .pointer (some ⟨g, 0, none⟩) := by rw [h2, eval_put_ne _ _ _ _ (by decide)]; exact e1_0
  have e2_4 : a2.eval (.tmp 4) = .pointer (some ⟨p4, 0, none⟩) := by rw [h2, eval_put_ne _ _ _ _ (by decide)]; exact e1_4
  have e2_11 : a2.eval (.tmp 11) = .pointer (some ⟨g, 0, none⟩) := by rw [h2, eval_put_ne _ _ _ _ (by decide)]; exact e1_11
  have e2_12 : a2.eval (.tmp 12) = .pointer (some ⟨g, 0, none⟩) := by rw [h2]; exact eval_put_eq _ _ _ (by rw [sz1]; decide)
  clear e1_0 e1_11 e1_4 sz1
  refine takeH (v := .pointer (some ⟨g, 0, none⟩)) opTa3_2 opTa3_ns (by kernel_rfl) (by kernel_rfl) HPN (fun w hw o ho => run_move ho e2_0 w) hH ?_
  refine wpAnyH_as (l' := #[true, true, true, false, false, false, false, false, false, false, false]) (by kernel_rfl) ?_
  obtain ⟨a3, h3⟩ : ∃ a' : Act, a' = a2.put (some 13) (.pointer (some ⟨g, 0, none⟩)) := ⟨_, rfl⟩
  rw [← h3]
  have sz3 : a3.tmps.size = 21 := by rw [h3, size_put]; exact sz2
  have e3_4 : a3.eval (.tmp 4) = .pointer (some ⟨p4, 0, none⟩) := by rw [h3, eval_put_ne _ _ _ _ (by decide)]; exact e2_4
  have e3_11 : a3.eval (.tmp 11) = .pointer (some ⟨g, 0, none⟩) := by rw [h3, eval_put_ne _ _ _ _ (by decide)]; exact e2_11
  have e3_12 : a3.eval (.tmp 12) = .pointer (some ⟨g, 0, none⟩) := by rw [h3, eval_put_ne _ _ _ _ (by decide)]; exact e2_12
  have e3_13 : a3.eval (.tmp 13) = .pointer (some ⟨g, 0, none⟩) := by rw [h3]; exact eval_put_eq _ _ _ (by rw [sz2]; decide)
  clear e2_0 e2_11 e2_12 e2_4 sz2
  refine takeH (v := .pointer (some ⟨g, 0, none⟩)) opTa3_3 opTa3_ns (by kernel_rfl) (by kernel_rfl) HPN (fun w hw o ho => run_nilCheck ho e3_13 w) hH ?_
  refine wpAnyH_as (l' := #[true, true, true, true, false, false, false, false, false, false, false]) (by kernel_rfl) ?_
  obtain ⟨a4, h4⟩ : ∃ a' : Act, a' = a3.put (some 14) (.pointer (some ⟨g, 0, none⟩)) := ⟨_, rfl⟩
  rw [← h4]
  have sz4 : a4.tmps.size = 21 := by rw [h4, size_put]; exact sz3
  have e4_4 : a4.eval (.tmp 4) = .pointer (some ⟨p4, 0, none⟩) := by rw [h4, eval_put_ne _ _ _ _ (by decide)]; exact e3_4
  have e4_11 : a4.eval (.tmp 11) = .pointer (some ⟨g, 0, none⟩) := by rw [h4, eval_put_ne _ _ _ _ (by decide)]; exact e3_11
  have e4_12 : a4.eval (.tmp 12) = .pointer (some ⟨g, 0, none⟩) := by rw [h4, eval_put_ne _ _ _ _ (by decide)]; exact e3_12
  have e4_14 : a4.eval (.tmp 14) = .pointer (some ⟨g, 0, none⟩) := by rw [h4]; exact eval_put_eq _ _ _ (by rw [sz3]; decide)
  clear e3_11 e3_12 e3_13 e3_4 sz3
  refine takeH (v := .pointer (some ⟨g, 22, none⟩)) opTa3_4 opTa3_ns (by kernel_rfl) (by kernel_rfl) HPN (fun w hw o ho => run_fM3 ho e4_14 w) hH ?_
  refine wpAnyH_as (l' := #[true, true, true, true, true, false, false, false, false, false, false]) (by kernel_rfl) ?_
  obtain ⟨a5, h5⟩ : ∃ a' : Act, a' = a4.put (some 15) (.pointer (some ⟨g, 22, none⟩)) := ⟨_, rfl⟩
  rw [← h5]
  have sz5 : a5.tmps.size = 21 := by rw [h5, size_put]; exact sz4
  have e5_4 : a5.eval (.tmp 4) = .pointer (some ⟨p4, 0, none⟩) := by rw [h5, eval_put_ne _ _ _ _ (by decide)]; exact e4_4
  have e5_11 : a5.eval (.tmp 11) = .pointer (some ⟨g, 0, none⟩) := by rw [h5, eval_put_ne _ _ _ _ (by decide)]; exact e4_11
  have e5_12 : a5.eval (.tmp 12) = .pointer (some ⟨g, 0, none⟩) := by rw [h5, eval_put_ne _ _ _ _ (by decide)]; exact e4_12
  have e5_15 : a5.eval (.tmp 15) = .pointer (some ⟨g, 22, none⟩) := by rw [h5]; exact eval_put_eq _ _ _ (by rw [sz4]; decide)
  clear e4_11 e4_12 e4_14 e4_4 sz4
  refine takeH (v := .agg (VI .u8 bb)) opTa3_6 opTa3_ns (by kernel_rfl) (by kernel_rfl) HPN (fun w hw o ho => run_ld17 hB.out ho e5_4 w hw) hH ?_
  refine wpAnyH_as (l' := #[true, true, true, true, true, false, true, false, false, false, false]) (by kernel_rfl) ?_
  obtain ⟨a6, h6⟩ : ∃ a' : Act, a' = a5.put (some 17) (.agg (VI .u8 bb)) := ⟨_, rfl⟩
  rw [← h6]
  have sz6 : a6.tmps.size = 21 := by rw [h6, size_put]; exact sz5
  have e6_11 : a6.eval (.tmp 11) = .pointer (some ⟨g, 0, none⟩) := by rw [h6, eval_put_ne _ _ _ _ (by decide)]; exact e5_11
  have e6_12 : a6.eval (.tmp 12) = .pointer (some ⟨g, 0, none⟩) := by rw [h6, eval_put_ne _ _ _ _ (by decide)]; exact e5_12
  have e6_15 : a6.eval (.tmp 15) = .pointer (some ⟨g, 22, none⟩) := by rw [h6, eval_put_ne _ _ _ _ (by decide)]; exact e5_15
  have e6_17 : a6.eval (.tmp 17) = .agg (VI .u8 bb) := by rw [h6]; exact eval_put_eq _ _ _ (by rw [sz5]; decide)
  clear e5_11 e5_12 e5_15 e5_4 sz5
  refine readyLd1 (v := .agg (VI .u64 s)) opTa3_5 (by kernel_rfl) hH (fun o ho => run_ldN hM.out.s.len ho e6_15 w0 (HLd w0 hw0)) ?_
  refine wpAnyH_as (l' := #[true, true, true, true, true, true, true, false, false, false, false]) (by kernel_rfl) ?_
  obtain ⟨a7, h7⟩ : ∃ a' : Act, a' = a6.put (some 16) (.agg (VI .u64 s)) := ⟨_, rfl⟩
  rw [← h7]
  have sz7 : a7.tmps.size = 21 := by rw [h7, size_put]; exact sz6
  have e7_11 : a7.eval (.tmp 11) = .pointer (some ⟨g, 0, none⟩) := by rw [h7, eval_put_ne _ _ _ _ (by decide)]; exact e6_11
  have e7_12 : a7.eval (.tmp 12) = .pointer (some ⟨g, 0, none⟩) := by rw [h7, eval_put_ne _ _ _ _ (by decide)]; exact e6_12
  have e7_17 : a7.eval (.tmp 17) = .agg (VI .u8 bb) := by rw [h7, eval_put_ne _ _ _ _ (by decide)]; exact e6_17
  have e7_16 : a7.eval (.tmp 16) = .agg (VI .u64 s) := by rw [h7]; exact eval_put_eq _ _ _ (by rw [sz6]; decide)
  clear e6_11 e6_12 e6_15 e6_17 sz6
  refine readyH opTa3_7 (by kernel_rfl) (fun o ho hd => wpCall (v := .agg (VI .u64 z)) ho hd (args := #[.pointer (some ⟨g, 0, none⟩), .agg (VI .u64 s), .agg (VI .u8 bb)]) (by simp only [List.map_toArray, List.map_cons, List.map_nil, e7_12, e7_16, e7_17] <;> rfl) (fun _ => rfl) (HK0.out  w0 hw0) (fun w1 hw1 => ?_))
  have hH := HS1  w1 hw1
  refine ⟨hH, ?_⟩
  refine wpAnyH_as (l' := #[true, true, true, true, true, true, true, true, false, false, false]) (by kernel_rfl) ?_
  obtain ⟨a8, h8⟩ : ∃ a' : Act, a' = a7.put (some 18) (.agg (VI .u64 z)) := ⟨_, rfl⟩
  rw [← h8]
  have sz8 : a8.tmps.size = 21 := by rw [h8, size_put]; exact sz7
  have e8_11 : a8.eval (.tmp 11) = .pointer (some ⟨g, 0, none⟩) := by rw [h8, eval_put_ne _ _ _ _ (by decide)]; exact e7_11
  have e8_18 : a8.eval (.tmp 18) = .agg (VI .u64 z) := by rw [h8]; exact eval_put_eq _ _ _ (by rw [sz7]; decide)
  clear e7_11 e7_12 e7_16 e7_17 sz7
  refine takeH (v := .pointer (some ⟨g, 0, none⟩)) opTa3_8 opTa3_ns (by kernel_rfl) (by kernel_rfl) HPN (fun w hw o ho => run_nilCheck ho e8_11 w) hH ?_
  refine wpAnyH_as (l' := #[true, true, true, true, true, true, true, true, true, false, false]) (by kernel_rfl) ?_
  obtain ⟨a9, h9⟩ : ∃ a' : Act, a' = a8.put (some 19) (.pointer (some ⟨g, 0, none⟩)) := ⟨_, rfl⟩
  rw [← h9]
  have sz9 : a9.tmps.size = 21 := by rw [h9, size_put]; exact sz8
  have e9_18 : a9.eval (.tmp 18) = .agg (VI .u64 z) := by rw [h9, eval_put_ne _ _ _ _ (by decide)]; exact e8_18
  have e9_19 : a9.eval (.tmp 19) = .pointer (some ⟨g, 0, none⟩) := by rw [h9]; exact eval_put_eq _ _ _ (by rw [sz8]; decide)
  clear e8_11 e8_18 sz8
  refine takeH (v := .pointer (some ⟨g, 22, none⟩)) opTa3_9 opTa3_ns (by kernel_rfl) (by kernel_rfl) HPN (fun w hw o ho => run_fM3 ho e9_19 w) hH ?_
  refine wpAnyH_as (l' := #[true, true, true, true, true, true, true, true, true, true, false]) (by kernel_rfl) ?_
  obtain ⟨a10, h10⟩ : ∃ a' : Act, a' = a9.put (some 20) (.pointer (some ⟨g, 22, none⟩)) := ⟨_, rfl⟩
  rw [← h10]
  have sz10 : a10.tmps.size = 21 := by rw [h10, size_put]; exact sz9
  have e10_18 : a10.eval (.tmp 18) = .agg (VI .u64 z) := by rw [h10, eval_put_ne _ _ _ _ (by decide)]; exact e9_18
  have e10_20 : a10.eval (.tmp 20) = .pointer (some ⟨g, 22, none⟩) := by rw [h10]; exact eval_put_eq _ _ _ (by rw [sz9]; decide)
  clear e9_18 e9_19 sz9
  refine readyH opTa3_10 (by kernel_rfl) (fun o ho hd => HK1.out  w1 hw1 _ o _ _ ho hd e10_20 e10_18 (fun  w2 hw2 => ?_))
  have hH := HS2  w2 hw2
  refine ⟨hH, ?_⟩
  refine wpAnyH_as (l' := #[true, true, true, true, true, true, true, true, true, true, true]) (by kernel_rfl) ?_
  refine wpAnyH_done (by kernel_rfl) ?_ _
  have hF : a10 = ⟨#[.pointer (some ⟨g, 0, none⟩), c1, c2, c3, .pointer (some ⟨p4, 0, none⟩), c5, c6, c7, c8, c9, c10, .pointer (some ⟨g, 0, none⟩), .pointer (some ⟨g, 0, none⟩), .pointer (some ⟨g, 0, none⟩), .pointer (some ⟨g, 0, none⟩), .pointer (some ⟨g, 22, none⟩), .agg (VI .u64 s), .agg (VI .u8 bb), .agg (VI .u64 z), .pointer (some ⟨g, 0, none⟩), .pointer (some ⟨g, 22, none⟩)], []⟩ := by rw [h10, h9, h8, h7, h6, h5, h4, h3, h2, h1, ha]; kernel_rfl
  rw [hF]
  exact H  _ hw2
noncomputable def rgNe1 : Code := ((Try.f10.body.bind (findReg 1)).getD .skip)
noncomputable def opNe1 : Array Oper := opsOf rgNe1
theorem rgNe1_is : rgNe1 = .region 1 opNe1 true := by kernel_rfl
theorem opNe1_ns : Region.noSelect opNe1 = true := by kernel_rfl
theorem opNe1_0 : opIs opNe1 0 (.move (.tmp 0)) (some 5) := by unfold opIs; kernel_rfl
theorem opNe1_1 : opIs opNe1 1 (.slice 23 (.tmp 3) none (some (.const (.int .i64 16))) none) (some 6) := by unfold opIs; kernel_rfl
theorem opNe1_2 : opIs opNe1 2 (.sliceToArrayPointer 35 (.tmp 6)) (some 7) := by unfold opIs; kernel_rfl
theorem opNe1_3 : opIs opNe1 3 (.load 35 (.tmp 7)) (some 8) := by unfold opIs; kernel_rfl
theorem opNe1_4 : opIs opNe1 4 (.call { callee := .value (.func 31), args := #[.tmp 8], argTypes := #[35] }) (some 9) := by unfold opIs; kernel_rfl
theorem opNe1_5 : opIs opNe1 5 (.slice 23 (.tmp 3) (some (.const (.int .i64 16))) none none) (some 10) := by unfold opIs; kernel_rfl
theorem opNe1_6 : opIs opNe1 6 (.sliceToArrayPointer 35 (.tmp 10)) (some 11) := by unfold opIs; kernel_rfl
theorem opNe1_7 : opIs opNe1 7 (.load 35 (.tmp 11)) (some 12) := by unfold opIs; kernel_rfl
theorem opNe1_8 : opIs opNe1 8 (.build 69 #[(0, .tmp 5), (1, .tmp 9), (2, .tmp 12)]) (some 13) := by unfold opIs; kernel_rfl
theorem opNe1_9 : opIs opNe1 9 (.box 69 (.tmp 13)) (some 14) := by unfold opIs; kernel_rfl
theorem opNe1_10 : opIs opNe1 10 (.assign (.tmp 14)) (some 4) := by unfold opIs; kernel_rfl
set_option maxRecDepth 100000 in
set_option maxHeartbeats 4000000 in
theorem Ne1 {Q : Exit → Act → World → Prop} {W : World} {R0 : World → Prop} {R1 : World → Prop} {R2 : Nat → World → Prop} {q : Nat} {ra : Option Addr} {key z : List Int} {c1 c2 c4 c5 c6 c7 c8 c9 c10 c11 c12 c13 c14 : Value}
    (hK16 : Hid ((key.take 16).length = 16 ∧ (key.drop 16).length = 16)) (hz : Hid (z.length = 5))
    (hR0 : R0 W.drew) (HS0 : ∀ Y, R0 Y → (fun Y : World => Y.rangeAt q 0 ((key.take 16).map (Value.int .u8)) ∧ Y.rangeAt q 16 ((key.drop 16).map (Value.int .u8))) Y)
    (HK0 : Hid (∀ Y, R0 Y → Calls Try.prog 31 #[.agg (VI .u8 (key.take 16))] Y fun e w' => e = .returned (.agg (VI .u64 z)) ∧ R1 w'))
    (HS1 : ∀ Y, R1 Y → (fun Y : World => Y.rangeAt q 0 ((key.take 16).map (Value.int .u8)) ∧ Y.rangeAt q 16 ((key.drop 16).map (Value.int .u8))) Y)
    (HK1 : Hid (∀ Y, R1 Y → ∀ (a : Act) (o : Oper) (K : Act → World → Prop) (Q : Exit → Act → World → Prop), o.op = .box 69 (.tmp 13) → o.dst = some 14 → a.eval (.tmp 13) = .agg (macL (.pointer ra) z (key.drop 16) z5 z17 0).toArray → (∀ gg : Nat, ∀ w', R2 gg w' → K (a.put (some 14) (.pointer (some ⟨gg, 0, none⟩))) w') → Oper.wp Try.prog o a Y K Q))
    (HS2 : ∀ gg : Nat, ∀ Y, R2 gg Y → (fun Y : World => Y.rangeAt q 0 ((key.take 16).map (Value.int .u8)) ∧ Y.rangeAt q 16 ((key.drop 16).map (Value.int .u8))) Y)
    (HPN : ∀ c (a : Act) d v w, Q (.panic c) (a.put d v) w → Q (.panic c) a w)
    (H : ∀ gg : Nat, ∀ W', R2 gg W' → Q .normal ⟨#[.pointer ra, c1, c2, .pointer (some ⟨q, 0, none⟩), .pointer (some ⟨gg, 0, none⟩), .pointer ra, .slice (some ⟨q, 0, none⟩) 16 32, .pointer (some ⟨q, 0, none⟩), .agg (VI .u8 (key.take 16)), .agg (VI .u64 z), .slice (some ⟨q, 16, none⟩) 16 16, .pointer (some ⟨q, 16, none⟩), .agg (VI .u8 (key.drop 16)), .agg (macL (.pointer ra) z (key.drop 16) z5 z17 0).toArray, .pointer (some ⟨gg, 0, none⟩)], []⟩ W') :
    Code.wp Try.prog rgNe1 Q ⟨#[.pointer ra, c1, c2, .pointer (some ⟨q, 0, none⟩), c4, c5, c6, c7, c8, c9, c10, c11, c12, c13, c14], []⟩ W := by
  rw [rgNe1_is]
  refine wp_region_held_drew (S := fun Y : World => Y.rangeAt q 0 ((key.take 16).map (Value.int .u8)) ∧ Y.rangeAt q 16 ((key.drop 16).map (Value.int .u8))) (by kernel_rfl) (HS0 _ hR0) (fun hH => ?_)
  obtain ⟨w0, hw00⟩ : ∃ V, W.drew = V := ⟨_, rfl⟩
  clear hH
  rw [hw00] at hR0 ⊢
  have hH := HS0 _ hR0
  have hw0 := hR0
  clear hw00
  obtain ⟨a0, ha⟩ : ∃ a : Act, a = ⟨#[.pointer ra, c1, c2, .pointer (some ⟨q, 0, none⟩), c4, c5, c6, c7, c8, c9, c10, c11, c12, c13, c14], []⟩ := ⟨_, rfl⟩
  have sz0 : a0.tmps.size = 15 := by rw [ha]; kernel_rfl
  have e0_0 : a0.eval (.tmp 0) = .pointer ra := by rw [ha]; kernel_rfl
  have e0_3 : a0.eval (.tmp 3) = .pointer (some ⟨q, 0, none⟩) := by rw [ha]; kernel_rfl
  rw [← ha]
  refine wpAnyH_as (l' := #[false, false, false, false, false, false, false, false, false, false, false]) (by kernel_rfl) ?_
  refine takeH (v := .pointer ra) opNe1_0 opNe1_ns (by kernel_rfl) (by kernel_rfl) HPN (fun w hw o ho => run_move ho e0_0 w) hH ?_
  refine wpAnyH_as (l' := #[true, false, false, false, false, false, false, false, false, false, false]) (by kernel_rfl) ?_
  obtain ⟨a1, h1⟩ : ∃ a' : Act, a' = a0.put (some 5) (.pointer ra) := ⟨_, rfl⟩
  rw [← h1]
  have sz1 : a1.tmps.size = 15 := by rw [h1, size_put]; exact sz0
  have e1_3 : a1.eval (.tmp 3) = .pointer (some ⟨q, 0, none⟩) := by rw [h1, eval_put_ne _ _ _ _ (by decide)]; exact e0_3
  have e1_5 : a1.eval (.tmp 5) = .pointer ra := by rw [h1]; exact eval_put_eq _ _ _ (by rw [sz0]; decide)
  clear e0_0 e0_3 sz0
  refine takeH (v := .slice (some ⟨q, 0, none⟩) 16 32) opNe1_1 opNe1_ns (by kernel_rfl) (by kernel_rfl) HPN (fun w hw o ho => run_slKlo ho e1_3 rfl w) hH ?_
  refine wpAnyH_as (l' := #[true, true, false, false, false, false, false, false, false, false, false]) (by kernel_rfl) ?_
  obtain ⟨a2, h2⟩ : ∃ a' : Act, a' = a1.put (some 6) (.slice (some ⟨q, 0, none⟩) 16 32) := ⟨_, rfl⟩
  rw [← h2]
  have sz2 : a2.tmps.size = 15 := by rw [h2, size_put]; exact sz1
  have e2_3 : a2.eval (.tmp 3) = .pointer (some ⟨q, 0, none⟩) := by rw [h2, eval_put_ne _ _ _ _ (by decide)]; exact e1_3
  have e2_5 : a2.eval (.tmp 5) = .pointer ra := by rw [h2, eval_put_ne _ _ _ _ (by decide)]; exact e1_5
  have e2_6 : a2.eval (.tmp 6) = .slice (some ⟨q, 0, none⟩) 16 32 := by rw [h2]; exact eval_put_eq _ _ _ (by rw [sz1]; decide)
  clear e1_3 e1_5 sz1
  refine takeH (v := .pointer (some ⟨q, 0, none⟩)) opNe1_2 opNe1_ns (by kernel_rfl) (by kernel_rfl) HPN (fun w hw o ho => run_ap (by decide) ho e2_6 w) hH ?_
  refine wpAnyH_as (l' := #[true, true, true, false, false, false, false, false, false, false, false]) (by kernel_rfl) ?_
  obtain ⟨a3, h3⟩ : ∃ a' : Act, a' = a2.put (some 7) (.pointer (some ⟨q, 0, none⟩)) := ⟨_, rfl⟩
  rw [← h3]
  have sz3 : a3.tmps.size = 15 := by rw [h3, size_put]; exact sz2
  have e3_3 : a3.eval (.tmp 3) = .pointer (some ⟨q, 0, none⟩) := by rw [h3, eval_put_ne _ _ _ _ (by decide)]; exact e2_3
  have e3_5 : a3.eval (.tmp 5) = .pointer ra := by rw [h3, eval_put_ne _ _ _ _ (by decide)]; exact e2_5
  have e3_7 : a3.eval (.tmp 7) = .pointer (some ⟨q, 0, none⟩) := by rw [h3]; exact eval_put_eq _ _ _ (by rw [sz2]; decide)
  clear e2_3 e2_5 e2_6 sz2
  refine takeH (v := .agg (VI .u8 (key.take 16))) opNe1_3 opNe1_ns (by kernel_rfl) (by kernel_rfl) HPN (fun w hw o ho => run_ld16 hK16.out.1 ho e3_7 w hw.1) hH ?_
  refine wpAnyH_as (l' := #[true, true, true, true, false, false, false, false, false, false, false]) (by kernel_rfl) ?_
  obtain ⟨a4, h4⟩ : ∃ a' : Act, a' = a3.put (some 8) (.agg (VI .u8 (key.take 16))) := ⟨_, rfl⟩
  rw [← h4]
  have sz4 : a4.tmps.size = 15 := by rw [h4, size_put]; exact sz3
  have e4_3 : a4.eval (.tmp 3) = .pointer (some ⟨q, 0, none⟩) := by rw [h4, eval_put_ne _ _ _ _ (by decide)]; exact e3_3
  have e4_5 : a4.eval (.tmp 5) = .pointer ra := by rw [h4, eval_put_ne _ _ _ _ (by decide)]; exact e3_5
  have e4_8 : a4.eval (.tmp 8) = .agg (VI .u8 (key.take 16)) := by rw [h4]; exact eval_put_eq _ _ _ (by rw [sz3]; decide)
  clear e3_3 e3_5 e3_7 sz3
  refine takeH (v := .slice (some ⟨q, 16, none⟩) 16 16) opNe1_5 opNe1_ns (by kernel_rfl) (by kernel_rfl) HPN (fun w hw o ho => run_slKhi ho e4_3 rfl w) hH ?_
  refine wpAnyH_as (l' := #[true, true, true, true, false, true, false, false, false, false, false]) (by kernel_rfl) ?_
  obtain ⟨a5, h5⟩ : ∃ a' : Act, a' = a4.put (some 10) (.slice (some ⟨q, 16, none⟩) 16 16) := ⟨_, rfl⟩
  rw [← h5]
  have sz5 : a5.tmps.size = 15 := by rw [h5, size_put]; exact sz4
  have e5_5 : a5.eval (.tmp 5) = .pointer ra := by rw [h5, eval_put_ne _ _ _ _ (by decide)]; exact e4_5
  have e5_8 : a5.eval (.tmp 8) = .agg (VI .u8 (key.take 16)) := by rw [h5, eval_put_ne _ _ _ _ (by decide)]; exact e4_8
  have e5_10 : a5.eval (.tmp 10) = .slice (some ⟨q, 16, none⟩) 16 16 := by rw [h5]; exact eval_put_eq _ _ _ (by rw [sz4]; decide)
  clear e4_3 e4_5 e4_8 sz4
  refine takeH (v := .pointer (some ⟨q, 16, none⟩)) opNe1_6 opNe1_ns (by kernel_rfl) (by kernel_rfl) HPN (fun w hw o ho => run_ap (by decide) ho e5_10 w) hH ?_
  refine wpAnyH_as (l' := #[true, true, true, true, false, true, true, false, false, false, false]) (by kernel_rfl) ?_
  obtain ⟨a6, h6⟩ : ∃ a' : Act, a' = a5.put (some 11) (.pointer (some ⟨q, 16, none⟩)) := ⟨_, rfl⟩
  rw [← h6]
  have sz6 : a6.tmps.size = 15 := by rw [h6, size_put]; exact sz5
  have e6_5 : a6.eval (.tmp 5) = .pointer ra := by rw [h6, eval_put_ne _ _ _ _ (by decide)]; exact e5_5
  have e6_8 : a6.eval (.tmp 8) = .agg (VI .u8 (key.take 16)) := by rw [h6, eval_put_ne _ _ _ _ (by decide)]; exact e5_8
  have e6_11 : a6.eval (.tmp 11) = .pointer (some ⟨q, 16, none⟩) := by rw [h6]; exact eval_put_eq _ _ _ (by rw [sz5]; decide)
  clear e5_10 e5_5 e5_8 sz5
  refine takeH (v := .agg (VI .u8 (key.drop 16))) opNe1_7 opNe1_ns (by kernel_rfl) (by kernel_rfl) HPN (fun w hw o ho => run_ld16 hK16.out.2 ho e6_11 w hw.2) hH ?_
  refine wpAnyH_as (l' := #[true, true, true, true, false, true, true, true, false, false, false]) (by kernel_rfl) ?_
  obtain ⟨a7, h7⟩ : ∃ a' : Act, a' = a6.put (some 12) (.agg (VI .u8 (key.drop 16))) := ⟨_, rfl⟩
  rw [← h7]
  have sz7 : a7.tmps.size = 15 := by rw [h7, size_put]; exact sz6
  have e7_5 : a7.eval (.tmp 5) = .pointer ra := by rw [h7, eval_put_ne _ _ _ _ (by decide)]; exact e6_5
  have e7_8 : a7.eval (.tmp 8) = .agg (VI .u8 (key.take 16)) := by rw [h7, eval_put_ne _ _ _ _ (by decide)]; exact e6_8
  have e7_12 : a7.eval (.tmp 12) = .agg (VI .u8 (key.drop 16)) := by rw [h7]; exact eval_put_eq _ _ _ (by rw [sz6]; decide)
  clear e6_11 e6_5 e6_8 sz6
  refine readyH opNe1_4 (by kernel_rfl) (fun o ho hd => wpCall (v := .agg (VI .u64 z)) ho hd (args := #[.agg (VI .u8 (key.take 16))]) (by simp only [List.map_toArray, List.map_cons, List.map_nil, e7_8] <;> rfl) (fun _ => rfl) (HK0.out  w0 hw0) (fun w1 hw1 => ?_))
  have hH := HS1  w1 hw1
  refine ⟨hH, ?_⟩
  refine wpAnyH_as (l' := #[true, true, true, true, true, true, true, true, false, false, false]) (by kernel_rfl) ?_
  obtain ⟨a8, h8⟩ : ∃ a' : Act, a' = a7.put (some 9) (.agg (VI .u64 z)) := ⟨_, rfl⟩
  rw [← h8]
  have sz8 : a8.tmps.size = 15 := by rw [h8, size_put]; exact sz7
  have e8_5 : a8.eval (.tmp 5) = .pointer ra := by rw [h8, eval_put_ne _ _ _ _ (by decide)]; exact e7_5
  have e8_12 : a8.eval (.tmp 12) = .agg (VI .u8 (key.drop 16)) := by rw [h8, eval_put_ne _ _ _ _ (by decide)]; exact e7_12
  have e8_9 : a8.eval (.tmp 9) = .agg (VI .u64 z) := by rw [h8]; exact eval_put_eq _ _ _ (by rw [sz7]; decide)
  clear e7_12 e7_5 e7_8 sz7
  refine takeH (v := .agg (macL (.pointer ra) z (key.drop 16) z5 z17 0).toArray) opNe1_8 opNe1_ns (by kernel_rfl) (by kernel_rfl) HPN (fun w hw o ho => run_buildM hz.out hK16.out.2 ho e8_5 e8_9 e8_12 w) hH ?_
  refine wpAnyH_as (l' := #[true, true, true, true, true, true, true, true, true, false, false]) (by kernel_rfl) ?_
  obtain ⟨a9, h9⟩ : ∃ a' : Act, a' = a8.put (some 13) (.agg (macL (.pointer ra) z (key.drop 16) z5 z17 0).toArray) := ⟨_, rfl⟩
  rw [← h9]
  have sz9 : a9.tmps.size = 15 := by rw [h9, size_put]; exact sz8
  have e9_13 : a9.eval (.tmp 13) = .agg (macL (.pointer ra) z (key.drop 16) z5 z17 0).toArray := by rw [h9]; exact eval_put_eq _ _ _ (by rw [sz8]; decide)
  clear e8_12 e8_5 e8_9 sz8
  refine readyH opNe1_9 (by kernel_rfl) (fun o ho hd => HK1.out  w1 hw1 _ o _ _ ho hd e9_13 (fun gg w2 hw2 => ?_))
  have hH := HS2 gg w2 hw2
  refine ⟨hH, ?_⟩
  refine wpAnyH_as (l' := #[true, true, true, true, true, true, true, true, true, true, false]) (by kernel_rfl) ?_
  obtain ⟨a10, h10⟩ : ∃ a' : Act, a' = a9.put (some 14) (.pointer (some ⟨gg, 0, none⟩)) := ⟨_, rfl⟩
  rw [← h10]
  have sz10 : a10.tmps.size = 15 := by rw [h10, size_put]; exact sz9
  have e10_14 : a10.eval (.tmp 14) = .pointer (some ⟨gg, 0, none⟩) := by rw [h10]; exact eval_put_eq _ _ _ (by rw [sz9]; decide)
  clear e9_13 sz9
  refine readyH opNe1_10 (by kernel_rfl) (fun o ho hd => wpRun (v := .pointer (some ⟨gg, 0, none⟩)) (w' := w2) hd (run_assign ho e10_14 w2) ⟨hH, ?_⟩)
  refine wpAnyH_as (l' := #[true, true, true, true, true, true, true, true, true, true, true]) (by kernel_rfl) ?_
  obtain ⟨a11, h11⟩ : ∃ a' : Act, a' = a10.put (some 4) (.pointer (some ⟨gg, 0, none⟩)) := ⟨_, rfl⟩
  rw [← h11]
  have sz11 : a11.tmps.size = 15 := by rw [h11, size_put]; exact sz10
  clear e10_14 sz10
  refine wpAnyH_done (by kernel_rfl) ?_ _
  have hF : a11 = ⟨#[.pointer ra, c1, c2, .pointer (some ⟨q, 0, none⟩), .pointer (some ⟨gg, 0, none⟩), .pointer ra, .slice (some ⟨q, 0, none⟩) 16 32, .pointer (some ⟨q, 0, none⟩), .agg (VI .u8 (key.take 16)), .agg (VI .u64 z), .slice (some ⟨q, 16, none⟩) 16 16, .pointer (some ⟨q, 16, none⟩), .agg (VI .u8 (key.drop 16)), .agg (macL (.pointer ra) z (key.drop 16) z5 z17 0).toArray, .pointer (some ⟨gg, 0, none⟩)], []⟩ := by rw [h11, h10, h9, h8, h7, h6, h5, h4, h3, h2, h1, ha]; kernel_rfl
  rw [hF]
  exact H gg _ hw2
end Go.Proofs.Ytgfamcadgahiiaa
