import Derived.Deep.Slices
import Derived.Maps.AppendAt
import Derived.Deep.QuietTactic
import Derived.BigQuiet
import Derived.Test.YtgfamcadgahiiaaMmae
import Derived.Test.YtgfamcadgahiiaaMmaj
import Derived.Test.YtgfamcadgahiiaaMmab
namespace Go.Proofs.Ytgfamcadgahiiaa
set_option linter.unusedSimpArgs false
set_option linter.unusedVariables false
open Go.ChangeShapes Go.WideShapes Go.ChangeAt Go.RowKit Go.Pin Go.Prm
theorem run_eq1 {a : Act} {o : Oper} {x y : Operand} {v : Int} {e : Bool} (h : (v == 1) = e) (ho : o.op = .binOp .eql 63 x y 63) (hx : a.eval x = .int .u64 v) (hy : a.eval y = .int .u64 1) (w : World) : (execOp a.eval o).run Try.prog w = .ok (.value (.bool e)) w := by
  unfold execOp
  simp only [ho, hx, hy]
  go_simp
noncomputable def rgCk1 : Code := ((Try.f29.body.bind (findReg 1)).getD .skip)
noncomputable def opCk1 : Array Oper := opsOf rgCk1
theorem rgCk1_is : rgCk1 = .region 1 opCk1 true := by kernel_rfl
theorem opCk1_ns : Region.noSelect opCk1 = true := by kernel_rfl
theorem opCk1_0 : opIs opCk1 0 (.move (.tmp 0)) (some 9) := by unfold opIs; kernel_rfl
theorem opCk1_1 : opIs opCk1 1 (.move (.tmp 0)) (some 10) := by unfold opIs; kernel_rfl
theorem opCk1_2 : opIs opCk1 2 (.load 23 (.tmp 5)) (some 11) := by unfold opIs; kernel_rfl
theorem opCk1_3 : opIs opCk1 3 (.move (.tmp 3)) (some 12) := by unfold opIs; kernel_rfl
theorem opCk1_4 : opIs opCk1 4 (.call { callee := .value (.func 24), args := #[.tmp 10, .tmp 11, .tmp 12], argTypes := #[25, 23, 48] }) (some 13) := by unfold opIs; kernel_rfl
theorem opCk1_5 : opIs opCk1 5 (.load 36 (.tmp 6)) (some 14) := by unfold opIs; kernel_rfl
theorem opCk1_6 : opIs opCk1 6 (.call { callee := .value (.func 48), args := #[.tmp 13, .tmp 14], argTypes := #[36, 36] }) (some 15) := by unfold opIs; kernel_rfl
theorem opCk1_7 : opIs opCk1 7 (.binOp .eql 63 (.tmp 15) (.const (.int .u64 1)) 63) (some 16) := by unfold opIs; kernel_rfl
theorem opCk1_8 : opIs opCk1 8 (.call { callee := .value (.func 36), args := #[.tmp 9, .tmp 16], argTypes := #[25, 4] }) (some 17) := by unfold opIs; kernel_rfl
theorem opCk1_9 : opIs opCk1 9 (.assign (.tmp 17)) (some 8) := by unfold opIs; kernel_rfl
set_option maxRecDepth 100000 in
set_option maxHeartbeats 4000000 in
theorem Ck1 {Q : Exit → Act → World → Prop} {W : World} {R0 : World → Prop} {R1 : World → Prop} {R2 : World → Prop} {R3 : World → Prop} {p5 p6 : Nat} {rv pv : Value} {key tg tv : List Int} {eb : Int} {eq : Bool} {c1 c2 c4 c7 c8 c9 c10 c11 c12 c13 c14 c15 c16 c17 : Value}
    (hK : Hid (key.length = 32)) (hT : Hid (tg.length = 16)) (hE : Hid ((eb == 1) = eq))
    (hR0 : R0 W.drew) (HS0 : ∀ Y, R0 Y → (fun Y : World => Y.rangeAt p5 0 (key.map (Value.int .u8)) ∧ Y.rangeAt p6 0 (tg.map (Value.int .u8))) Y)
    (HK0 : Hid (∀ Y, R0 Y → Calls Try.prog 24 #[rv, .agg (VI .u8 key), pv] Y fun e w' => e = .returned (.agg (VI .u8 tv)) ∧ R1 w'))
    (HS1 : ∀ Y, R1 Y → (fun Y : World => Y.rangeAt p5 0 (key.map (Value.int .u8)) ∧ Y.rangeAt p6 0 (tg.map (Value.int .u8))) Y)
    (HK1 : Hid (∀ Y, R1 Y → Calls Try.prog 48 #[.agg (VI .u8 tv), .agg (VI .u8 tg)] Y fun e w' => e = .returned (.int .u64 eb) ∧ R2 w'))
    (HS2 : ∀ Y, R2 Y → (fun Y : World => Y.rangeAt p5 0 (key.map (Value.int .u8)) ∧ Y.rangeAt p6 0 (tg.map (Value.int .u8))) Y)
    (HK2 : Hid (∀ Y, R2 Y → Calls Try.prog 36 #[rv, .bool eq] Y fun e w' => e = .returned (.bool eq) ∧ R3 w'))
    (HS3 : ∀ Y, R3 Y → (fun Y : World => Y.rangeAt p5 0 (key.map (Value.int .u8)) ∧ Y.rangeAt p6 0 (tg.map (Value.int .u8))) Y)
    (HPN : ∀ c (a : Act) d v w, Q (.panic c) (a.put d v) w → Q (.panic c) a w)
    (H : ∀ W', R3 W' → Q .normal ⟨#[rv, c1, c2, pv, c4, .pointer (some ⟨p5, 0, none⟩), .pointer (some ⟨p6, 0, none⟩), c7, .bool eq, rv, rv, .agg (VI .u8 key), pv, .agg (VI .u8 tv), .agg (VI .u8 tg), .int .u64 eb, .bool eq, .bool eq], []⟩ W') :
    Code.wp Try.prog rgCk1 Q ⟨#[rv, c1, c2, pv, c4, .pointer (some ⟨p5, 0, none⟩), .pointer (some ⟨p6, 0, none⟩), c7, c8, c9, c10, c11, c12, c13, c14, c15, c16, c17], []⟩ W := by
  rw [rgCk1_is]
  refine wp_region_held_drew (S := fun Y : World => Y.rangeAt p5 0 (key.map (Value.int .u8)) ∧ Y.rangeAt p6 0 (tg.map (Value.int .u8))) (by kernel_rfl) (HS0 _ hR0) (fun hH => ?_)
  obtain ⟨w0, hw00⟩ : ∃ V, W.drew = V := ⟨_, rfl⟩
  clear hH
  rw [hw00] at hR0 ⊢
  have hH := HS0 _ hR0
  have hw0 := hR0
  clear hw00
  obtain ⟨a0, ha⟩ : ∃ a : Act, a = ⟨#[rv, c1, c2, pv, c4, .pointer (some ⟨p5, 0, none⟩), .pointer (some ⟨p6, 0, none⟩), c7, c8, c9, c10, c11, c12, c13, c14, c15, c16, c17], []⟩ := ⟨_, rfl⟩
  have sz0 : a0.tmps.size = 18 := by rw [ha]; kernel_rfl
  have e0_0 : a0.eval (.tmp 0) = rv := by rw [ha]; kernel_rfl
  have e0_3 : a0.eval (.tmp 3) = pv := by rw [ha]; kernel_rfl
  have e0_5 : a0.eval (.tmp 5) = .pointer (some ⟨p5, 0, none⟩) := by rw [ha]; kernel_rfl
  have e0_6 : a0.eval (.tmp 6) = .pointer (some ⟨p6, 0, none⟩) := by rw [ha]; kernel_rfl
  rw [← ha]
  refine wpAnyH_as (l' := #[false, false, false, false, false, false, false, false, false, false]) (by kernel_rfl) ?_
  refine takeH (v := rv) opCk1_0 opCk1_ns (by kernel_rfl) (by kernel_rfl) HPN (fun w hw o ho => run_move ho e0_0 w) hH ?_
  refine wpAnyH_as (l' := #[true, false, false, false, false, false, false, false, false, false]) (by kernel_rfl) ?_
  obtain ⟨a1, h1⟩ : ∃ a' : Act, a' = a0.put (some 9) (rv) := ⟨_, rfl⟩
  rw [← h1]
  have sz1 : a1.tmps.size = 18 := by rw [h1, size_put]; exact sz0
  have e1_0 : a1.eval (.tmp 0) = rv := by rw [h1, eval_put_ne _ _ _ _ (by decide)]; exact e0_0
  have e1_3 : a1.eval (.tmp 3) = pv := by rw [h1, eval_put_ne _ _ _ _ (by decide)]; exact e0_3
  have e1_5 : a1.eval (.tmp 5) = .pointer (some ⟨p5, 0, none⟩) := by rw [h1, eval_put_ne _ _ _ _ (by decide)]; exact e0_5
  have e1_6 : a1.eval (.tmp 6) = .pointer (some ⟨p6, 0, none⟩) := by rw [h1, eval_put_ne _ _ _ _ (by decide)]; exact e0_6
  have e1_9 : a1.eval (.tmp 9) = rv := by rw [h1]; exact eval_put_eq _ _ _ (by rw [sz0]; decide)
  clear e0_0 e0_3 e0_5 e0_6 sz0
  refine takeH (v := rv) opCk1_1 opCk1_ns (by kernel_rfl) (by kernel_rfl) HPN (fun w hw o ho => run_move ho e1_0 w) hH ?_
  refine wpAnyH_as (l' := #[true, true, false, false, false, false, false, false, false, false]) (by kernel_rfl) ?_
  obtain ⟨a2, h2⟩ : ∃ a' : Act, a' = a1.put (some 10) (rv) := ⟨_, rfl⟩
  rw [← h2]
  have sz2 : a2.tmps.size = 18 := by rw [h2, size_put]; exact sz1
  have e2_3 : a2.eval (.tmp 3) = pv := by rw [h2, eval_put_ne _ _ _ _ (by decide)]; exact e1_3
  have e2_5 : a2.eval (.tmp 5) = .pointer (some ⟨p5, 0, none⟩) := by rw [h2, eval_put_ne _ _ _ _ (by decide)]; exact e1_5
  have e2_6 : a2.eval (.tmp 6) = .pointer (some ⟨p6, 0, none⟩) := by rw [h2, eval_put_ne _ _ _ _ (by decide)]; exact e1_6
  have e2_9 : a2.eval (.tmp 9) = rv := by rw [h2, eval_put_ne _ _ _ _ (by decide)]; exact e1_9
  have e2_10 : a2.eval (.tmp 10) = rv := by rw [h2]; exact eval_put_eq _ _ _ (by rw [sz1]; decide)
  clear e1_0 e1_3 e1_5 e1_6 e1_9 sz1
  refine takeH (v := .agg (VI .u8 key)) opCk1_2 opCk1_ns (by kernel_rfl) (by kernel_rfl) HPN (fun w hw o ho => run_ldK hK.out ho e2_5 w hw.1) hH ?_
  refine wpAnyH_as (l' := #[true, true, true, false, false, false, false, false, false, false]) (by kernel_rfl) ?_
  obtain ⟨a3, h3⟩ : ∃ a' : Act, a' = a2.put (some 11) (.agg (VI .u8 key)) := ⟨_, rfl⟩
  rw [← h3]
  have sz3 : a3.tmps.size = 18 := by rw [h3, size_put]; exact sz2
  have e3_3 : a3.eval (.tmp 3) = pv := by rw [h3, eval_put_ne _ _ _ _ (by decide)]; exact e2_3
  have e3_6 : a3.eval (.tmp 6) = .pointer (some ⟨p6, 0, none⟩) := by rw [h3, eval_put_ne _ _ _ _ (by decide)]; exact e2_6
  have e3_9 : a3.eval (.tmp 9) = rv := by rw [h3, eval_put_ne _ _ _ _ (by decide)]; exact e2_9
  have e3_10 : a3.eval (.tmp 10) = rv := by rw [h3, eval_put_ne _ _ _ _ (by decide)]; exact e2_10
  have e3_11 : a3.eval (.tmp 11) = .agg (VI .u8 key) := by rw [h3]; exact eval_put_eq _ _ _ (by rw [sz2]; decide)
  clear e2_10 e2_3 e2_5 e2_6 e2_9 sz2
  refine takeH (v := pv) opCk1_3 opCk1_ns (by kernel_rfl) (by kernel_rfl) HPN (fun w hw o ho => run_move ho e3_3 w) hH ?_
  refine wpAnyH_as (l' := #[true, true, true, true, false, false, false, false, false, false]) (by kernel_rfl) ?_
  obtain ⟨a4, h4⟩ : ∃ a' : Act, a' = a3.put (some 12) (pv) := ⟨_, rfl⟩
  rw [← h4]
  have sz4 : a4.tmps.size = 18 := by rw [h4, size_put]; exact sz3
  have e4_6 : a4.eval (.tmp 6) = .pointer (some ⟨p6, 0, none⟩) := by rw [h4, eval_put_ne _ _ _ _ (by decide)]; exact e3_6
  have e4_9 : a4.eval (.tmp 9) = rv := by rw [h4, eval_put_ne _ _ _ _ (by decide)]; exact e3_9
  have e4_10 : a4.eval (.tmp 10) = rv := by rw [h4, eval_put_ne _ _ _ _ (by decide)]; exact e3_10
  have e4_11 : a4.eval (.tmp 11) = .agg (VI .u8 key) := by rw [h4, eval_put_ne _ _ _ _ (by decide)]; exact e3_11
  have e4_12 : a4.eval (.tmp 12) = pv := by rw [h4]; exact eval_put_eq _ _ _ (by rw [sz3]; decide)
  clear e3_10 e3_11 e3_3 e3_6 e3_9 sz3
  refine takeH (v := .agg (VI .u8 tg)) opCk1_5 opCk1_ns (by kernel_rfl) (by kernel_rfl) HPN (fun w hw o ho => run_ldT hT.out ho e4_6 w hw.2) hH ?_
  refine wpAnyH_as (l' := #[true, true, true, true, false, true, false, false, false, false]) (by kernel_rfl) ?_
  obtain ⟨a5, h5⟩ : ∃ a' : Act, a' = a4.put (some 14) (.agg (VI .u8 tg)) := ⟨_, rfl⟩
  rw [← h5]
  have sz5 : a5.tmps.size = 18 := by rw [h5, size_put]; exact sz4
  have e5_9 : a5.eval (.tmp 9) = rv := by rw [h5, eval_put_ne _ _ _ _ (by decide)]; exact e4_9
  have e5_10 : a5.eval (.tmp 10) = rv := by rw [h5, eval_put_ne _ _ _ _ (by decide)]; exact e4_10
  have e5_11 : a5.eval (.tmp 11) = .agg (VI .u8 key) := by rw [h5, eval_put_ne _ _ _ _ (by decide)]; exact e4_11
  have e5_12 : a5.eval (.tmp 12) = pv := by rw [h5, eval_put_ne _ _ _ _ (by decide)]; exact e4_12
  have e5_14 : a5.eval (.tmp 14) = .agg (VI .u8 tg) := by rw [h5]; exact eval_put_eq _ _ _ (by rw [sz4]; decide)
  clear e4_10 e4_11 e4_12 e4_6 e4_9 sz4
  refine readyH opCk1_4 (by kernel_rfl) (fun o ho hd => wpCall (v := .agg (VI .u8 tv)) ho hd (args := #[rv, .agg (VI .u8 key), pv]) (by simp only [List.map_toArray, List.map_cons, List.map_nil, e5_10, e5_11, e5_12] <;> rfl) (fun _ => rfl) (HK0.out  w0 hw0) (fun w1 hw1 => ?_))
  have hH := HS1  w1 hw1
  refine ⟨hH, ?_⟩
  refine wpAnyH_as (l' := #[true, true, true, true, true, true, false, false, false, false]) (by kernel_rfl) ?_
  obtain ⟨a6, h6⟩ : ∃ a' : Act, a' = a5.put (some 13) (.agg (VI .u8 tv)) := ⟨_, rfl⟩
  rw [← h6]
  have sz6 : a6.tmps.size = 18 := by rw [h6, size_put]; exact sz5
  have e6_9 : a6.eval (.tmp 9) = rv := by rw [h6, eval_put_ne _ _ _ _ (by decide)]; exact e5_9
  have e6_14 : a6.eval (.tmp 14) = .agg (VI .u8 tg) := by rw [h6, eval_put_ne _ _ _ _ (by decide)]; exact e5_14
  have e6_13 : a6.eval (.tmp 13) = .agg (VI .u8 tv) := by rw [h6]; exact eval_put_eq _ _ _ (by rw [sz5]; decide)
  clear e5_10 e5_11 e5_12 e5_14 e5_9 sz5
  refine readyH opCk1_6 (by kernel_rfl) (fun o ho hd => wpCall (v := .int .u64 eb) ho hd (args := #[.agg (VI .u8 tv), .agg (VI .u8 tg)]) (by simp only [List.map_toArray, List.map_cons, List.map_nil, e6_13, e6_14] <;> rfl) (fun _ => rfl) (HK1.out  w1 hw1) (fun w2 hw2 => ?_))
  have hH := HS2  w2 hw2
  refine ⟨hH, ?_⟩
  refine wpAnyH_as (l' := #[true, true, true, true, true, true, true, false, false, false]) (by kernel_rfl) ?_
  obtain ⟨a7, h7⟩ : ∃ a' : Act, a' = a6.put (some 15) (.int .u64 eb) := ⟨_, rfl⟩
  rw [← h7]
  have sz7 : a7.tmps.size = 18 := by rw [h7, size_put]; exact sz6
  have e7_9 : a7.eval (.tmp 9) = rv := by rw [h7, eval_put_ne _ _ _ _ (by decide)]; exact e6_9
  have e7_15 : a7.eval (.tmp 15) = .int .u64 eb := by rw [h7]; exact eval_put_eq _ _ _ (by rw [sz6]; decide)
  clear e6_13 e6_14 e6_9 sz6
  refine takeH (v := .bool eq) opCk1_7 opCk1_ns (by kernel_rfl) (by kernel_rfl) HPN (fun w hw o ho => run_eq1 hE.out ho e7_15 rfl w) hH ?_
  refine wpAnyH_as (l' := #[true, true, true, true, true, true, true, true, false, false]) (by kernel_rfl) ?_
  obtain ⟨a8, h8⟩ : ∃ a' : Act, a' = a7.put (some 16) (.bool eq) := ⟨_, rfl⟩
  rw [← h8]
  have sz8 : a8.tmps.size = 18 := by rw [h8, size_put]; exact sz7
  have e8_9 : a8.eval (.tmp 9) = rv := by rw [h8, eval_put_ne _ _ _ _ (by decide)]; exact e7_9
  have e8_16 : a8.eval (.tmp 16) = .bool eq := by rw [h8]; exact eval_put_eq _ _ _ (by rw [sz7]; decide)
  clear e7_15 e7_9 sz7
  refine readyH opCk1_8 (by kernel_rfl) (fun o ho hd => wpCall (v := .bool eq) ho hd (args := #[rv, .bool eq]) (by simp only [List.map_toArray, List.map_cons, List.map_nil, e8_9, e8_16] <;> rfl) (fun _ => rfl) (HK2.out  w2 hw2) (fun w3 hw3 => ?_))
  have hH := HS3  w3 hw3
  refine ⟨hH, ?_⟩
  refine wpAnyH_as (l' := #[true, true, true, true, true, true, true, true, true, false]) (by kernel_rfl) ?_
  obtain ⟨a9, h9⟩ : ∃ a' : Act, a' = a8.put (some 17) (.bool eq) := ⟨_, rfl⟩
  rw [← h9]
  have sz9 : a9.tmps.size = 18 := by rw [h9, size_put]; exact sz8
  have e9_17 : a9.eval (.tmp 17) = .bool eq := by rw [h9]; exact eval_put_eq _ _ _ (by rw [sz8]; decide)
  clear e8_16 e8_9 sz8
  refine readyH opCk1_9 (by kernel_rfl) (fun o ho hd => wpRun (v := .bool eq) (w' := w3) hd (run_assign ho e9_17 w3) ⟨hH, ?_⟩)
  refine wpAnyH_as (l' := #[true, true, true, true, true, true, true, true, true, true]) (by kernel_rfl) ?_
  obtain ⟨a10, h10⟩ : ∃ a' : Act, a' = a9.put (some 8) (.bool eq) := ⟨_, rfl⟩
  rw [← h10]
  have sz10 : a10.tmps.size = 18 := by rw [h10, size_put]; exact sz9
  clear e9_17 sz9
  refine wpAnyH_done (by kernel_rfl) ?_ _
  have hF : a10 = ⟨#[rv, c1, c2, pv, c4, .pointer (some ⟨p5, 0, none⟩), .pointer (some ⟨p6, 0, none⟩), c7, .bool eq, rv, rv, .agg (VI .u8 key), pv, .agg (VI .u8 tv), .agg (VI .u8 tg), .int .u64 eb, .bool eq, .bool eq], []⟩ := by rw [h10, h9, h8, h7, h6, h5, h4, h3, h2, h1, ha]; kernel_rfl
  rw [hF]
  exact H  _ hw3
end Go.Proofs.Ytgfamcadgahiiaa
namespace Go.Proofs.Ytgfamcadgahiiaa
set_option linter.unusedSimpArgs false
set_option linter.unusedVariables false
open Go.ChangeShapes Go.WideShapes Go.ChangeAt Go.RowKit Go.Pin Go.Prm
theorem eqL_is (a b : List Int) : (eqL a b == 1) = decide (a = b) := by
  unfold eqL
  by_cases h : a = b
  · rw [if_pos h]; simp [h]
  · rw [if_neg h]; simp [h]
/-- 16 bytes -/
structure Tag16 (b : List Int) : Prop where
  len : b.length = 16
  bd : Byt b
theorem mtag_t (key D : List Int) : Tag16 (mtag key D) := ⟨mtag_len _ _, mtag_byt _ _⟩
set_option maxRecDepth 100000 in
set_option maxHeartbeats 4000000 in
theorem check_any {B : Nat} {w : World} {rv : Value} {l : List (Int × Int)} {bx : List (Nat × Obj)} {W : World} (h : Ev B w rv l bx W) {key tg : List Int} (hk : Key32 key) (ht : Tag16 tg) {a : Option Addr} {n cap : Nat} {Ds : List (List Int)} (hP : PSrc B w bx a n Ds) (hD : BytL Ds) (hl : rv ≠ .pointer none → l.length + 25 * n + Ds.flatten.length ≤ 600000) :
    Calls Try.prog 29 #[rv, .agg (VI .u8 key), .agg (VI .u8 tg), .slice a n cap] W fun e w' => e = .returned (.bool (decide (mtag key Ds.flatten = tg))) ∧ Ev B w rv (l ++ olg (Ds.map List.length) ++ [ifl (decide (mtag key Ds.flatten = tg))]) bx w' := by
  obtain ⟨q, hq⟩ : ∃ q, W.heap.size = q := ⟨_, rfl⟩
  have e3 := (h.new (.cells (VI .u8 key) 23)).new (.cells (VI .u8 tg) 36)
  simp only [size_alloc, hq] at e3
  obtain ⟨V0, hV0⟩ : ∃ V, W.alloc (.cells (VI .u8 key) 23) = V := ⟨_, rfl⟩
  obtain ⟨W0, hW0⟩ : ∃ V, V0.alloc (.cells (VI .u8 tg) 36) = V := ⟨_, rfl⟩
  have hsV : V0.heap.size = q + 1 := by rw [← hV0, size_alloc, hq]
  rw [hV0, hW0] at e3
  have E3 : Hid (Ev B w rv l ((q + 1, .cells (VI .u8 tg) 36) :: (q, .cells (VI .u8 key) 23) :: bx) W0) := e3
  have HS : Hid (V0.heap.size = q + 1) := hsV
  have HL : Hid ((rv ≠ .pointer none → l.length + 25 * n + Ds.flatten.length ≤ 600000) ∧ BytL Ds ∧ Key32 key ∧ Tag16 tg ∧ PSrc B w bx a n Ds) := ⟨hl, hD, hk, ht, hP⟩
  have HI : Hid ((Try.prog.info? 23).map (·.size) = some (VI .u8 key).size) := by
    have : (Try.prog.info? 23).map (·.size) = some (VI .u8 key).size := by rw [VI_size, hk.len]; exact infoK
    exact this
  have HIT : Hid ((Try.prog.info? 36).map (·.size) = some (VI .u8 tg).size) := by
    have : (Try.prog.info? 36).map (·.size) = some (VI .u8 tg).size := by rw [VI_size, ht.len]; exact infoT
    exact this
  clear e3 h hk hP hD hl ht hsV
  go_enter Try.func29, Try.ntmps29
  go_upto_region 1 with fail
  refine wp_as (c' := rgCk1) (by kernel_rfl) ?_
  rw [HS.out]
  have hol : (olg (Ds.map List.length)).length ≤ 5 + 22 * n + Ds.flatten.length := by
    have := olg_len (Ds.map List.length)
    rw [← flat_len, List.length_map, HL.out.2.2.2.2.1.1] at this
    exact this
  refine Ck1 (p5 := q) (p6 := q + 1) (rv := rv) (pv := .slice a n cap) (key := key) (tg := tg) (tv := mtag key Ds.flatten) (eb := eqL (mtag key Ds.flatten) tg) (eq := decide (mtag key Ds.flatten = tg))
    (R0 := Ev B w rv l ((q + 1, .cells (VI .u8 tg) 36) :: (q, .cells (VI .u8 key) 23) :: bx))
    (R1 := Ev B w rv (l ++ olg (Ds.map List.length)) ((q + 1, .cells (VI .u8 tg) 36) :: (q, .cells (VI .u8 key) 23) :: bx))
    (R2 := Ev B w rv (l ++ olg (Ds.map List.length)) ((q + 1, .cells (VI .u8 tg) 36) :: (q, .cells (VI .u8 key) 23) :: bx))
    (R3 := Ev B w rv (l ++ olg (Ds.map List.length) ++ [ifl (decide (mtag key Ds.flatten = tg))]) ((q + 1, .cells (VI .u8 tg) 36) :: (q, .cells (VI .u8 key) 23) :: bx))
    HL.out.2.2.1.len HL.out.2.2.2.1.len (eqL_is _ _) E3.out.drew (fun Y h => ⟨row_range (h.row mem1), row_range (h.row mem0)⟩) ?_ (fun Y h => ⟨row_range (h.row mem1), row_range (h.row mem0)⟩) ?_ (fun Y h => ⟨row_range (h.row mem1), row_range (h.row mem0)⟩) ?_ (fun Y h => ⟨row_range (h.row mem1), row_range (h.row mem0)⟩) (fun _ _ d _ _ h => by cases d <;> exact h) ?_
  · exact fun Y h => of_any h HL.out.2.2.1 (HL.out.2.2.2.2.sub (fun p hp => memr2 hp)) HL.out.2.1 HL.out.1
  · exact fun Y h => (tags_any (mtag key Ds.flatten) tg (mtag_len _ _) HL.out.2.2.2.1.len (mtag_byt _ _) HL.out.2.2.2.1.bd Y).mono fun e w' hh => ⟨hh.1, h.below hh.2⟩
  · exact fun Y h => v_if h (fun hr => by have := HL.out.1 hr; rw [List.length_append]; omega) _
  intro W9 h9
  have HF : Hid (Ev B w rv (l ++ olg (Ds.map List.length) ++ [ifl (decide (mtag key Ds.flatten = tg))]) bx W9) := h9.tail.tail
  clear h9 hol
  go_wp2
  go_ret
  exact ⟨rfl, HF.out⟩
end Go.Proofs.Ytgfamcadgahiiaa
namespace Go.Proofs.Ytgfamcadgahiiaa
set_option linter.unusedSimpArgs false
set_option linter.unusedVariables false
open Go.ChangeShapes Go.WideShapes Go.ChangeAt Go.RowKit Go.Pin Go.Prm Go.Deep
theorem u8_of {x : Int} (h : (Lit.int .u8 x).wf = true) : 0 ≤ x ∧ x < 256 := by
  simp [Lit.wf] at h
  have h1 : IntKind.u8.min = 0 := by decide
  have h2 : IntKind.u8.max = 255 := by decide
  omega
theorem i64_of {x : Int} (h : (Lit.int .i64 x).wf = true) : -9223372036854775808 ≤ x ∧ x < 9223372036854775808 := by
  simp [Lit.wf] at h
  have h1 : IntKind.i64.min = -9223372036854775808 := by decide
  have h2 : IntKind.i64.max = 9223372036854775807 := by decide
  omega
theorem key32_of {l : List Int} (n : l.length = 32) (w : ∀ x ∈ l, (Lit.int .u8 x).wf = true) : Key32 l := ⟨n, fun x hx => u8_of (w x hx)⟩
theorem tag16_of {l : List Int} (n : l.length = 16) (w : ∀ x ∈ l, (Lit.int .u8 x).wf = true) : Tag16 l := ⟨n, fun x hx => u8_of (w x hx)⟩
theorem add_spot {x : Addr} {w : World} {v : Value} (h : w.cell? (x.add 0) = some v) : ∃ b o, x = ⟨b, o, none⟩ := by
  obtain ⟨b, o, s⟩ := x
  cases s with
  | none => exact ⟨b, o, rfl⟩
  | some s =>
    exfalso
    simp only [World.cell?, Addr.add, if_true] at h
    split at h <;> simp_all
/-- bytes that came in -/
theorem open_cells {H : Type} {enc : TypeId × Value → H} {W : World} {fuel : Nat} {cs : List Value} {x : DataW H × List MemPlace}
    (hf : DataW.trod enc Try.prog W 0 (fun _ => true) true fuel 30 cs = some x) : ∃ (v : Value) (D : List Int), cs = [v] ∧ RdB W v D ∧ Byt D ∧ D.length ≤ maxLen := by
  rcases open_ints Try.underlying30 Try.underlying5 (by kernel_rfl) hf with ⟨hcs, _⟩ | ⟨x, l, c, zs, hcs, _, hl, hm, hz, hx, hcell, hwz⟩
  · exact ⟨_, [], hcs, ⟨none, 0, rfl, Nat.le_refl _, .inl rfl⟩, (fun x hx => nomatch hx), Nat.zero_le _⟩
  · have hz' : zs.length = c := by simpa using hz
    have hl2 : (zs.take l).length = l := by rw [List.length_take]; omega
    refine ⟨_, zs.take l, hcs, ⟨some x, c, by rw [hl2], by rw [hl2]; exact hl, ?_⟩, fun y hy => u8_of (hwz y (List.mem_of_mem_take hy)), by rw [hl2]; omega⟩
    by_cases e : l = 0
    · left; subst e; simp
    · right
      obtain ⟨b, o, rfl⟩ := add_spot (hcell 0 (by omega))
      refine ⟨b, o, rfl, fun j v hv => ?_⟩
      have hj : j < l := by have := (List.getElem?_eq_some_iff.1 hv).1; rw [List.length_map, hl2] at this; exact this
      have := hcell j (by omega)
      rw [add_mid] at this
      rw [this, ← hv]
      simp [List.getElem?_take_of_lt hj, show j < zs.length by omega]
theorem open_rb {H : Type} {enc : TypeId × Value → H} {W : World} {a : Option Addr} {len cap : Nat} {d : DataW H} {p : List MemPlace}
    (h : DataW.Trod enc Try.prog W 0 (fun _ => true) true 30 (.slice a len cap) d p) : ∃ D : List Int, D.length = len ∧ Byt D ∧ RdB W (.slice a len cap) D := by
  obtain ⟨fuel, hf⟩ := h
  obtain ⟨v, D, hc, hr, hb, _⟩ := open_cells hf
  have e : v = .slice a len cap := by simp [Value.cells] at hc; exact hc.symm
  subst e
  obtain ⟨a', c', e2, _⟩ := id hr
  injection e2 with _ e3 _
  exact ⟨D, e3.symm, hb, hr⟩
/-- numbers that came in -/
def RdI (w : World) (a : Option Addr) (C : List Int) : Prop := C = [] ∨ ∃ b o, a = some ⟨b, o, none⟩ ∧ ∀ j, j < C.length → w.cell? ⟨b, o + j, none⟩ = some (.int .i64 (C.getD j 0))
theorem RdI.at {w : World} {a : Option Addr} {C : List Int} (h : RdI w a C) (j : Nat) (hj : j < C.length) : ∃ b o, a = some ⟨b, o, none⟩ ∧ w.cell? ⟨b, o + j, none⟩ = some (.int .i64 (C.getD j 0)) := by
  rcases h with rfl | ⟨b, o, h1, h2⟩
  · cases hj
  · exact ⟨b, o, h1, h2 j hj⟩
/-- pieces that came in -/
def PRd (w : World) (a : Option Addr) (Ds : List (List Int)) : Prop := ∀ j, j < Ds.length → ∃ b o u, a = some ⟨b, o, none⟩ ∧ w.cell? ⟨b, o + j, none⟩ = some u ∧ RdB w u (Ds.getD j [])
theorem PRd.src {w : World} {a : Option Addr} {Ds : List (List Int)} (h : PRd w a Ds) (hm : Ds.length ≤ maxLen) (bx : List (Nat × Obj)) : PSrc w.heap.size w bx a Ds.length Ds := by
  refine ⟨⟨rfl, hm⟩, fun j hj => ?_⟩
  obtain ⟨b, o, u, h1, h2, h3⟩ := h j hj
  refine ⟨b, o, u, h1, fun W hW _ => ?_, h3.src bx⟩
  rw [World.cell?_of_block (a := ⟨b, o + j, none⟩) (hW.block b (World.block_lt_of_cell? w _ h2))]
  exact h2
theorem open_pieces {H : Type} {enc : TypeId × Value → H} {W : World} {a : Option Addr} {len cap : Nat} {d : DataW H} {p : List MemPlace}
    (h : DataW.Trod enc Try.prog W 0 (fun _ => true) true 48 (.slice a len cap) d p) : ∃ Ds : List (List Int), Ds.length = len ∧ BytL Ds ∧ PRd W a Ds ∧ (∀ D ∈ Ds, D.length ≤ maxLen) ∧ len ≤ maxLen := by
  obtain ⟨fuel, hf⟩ := h
  rcases open_slice Try.underlying48 hf with ⟨hcs, _⟩ | ⟨x, len', cap', m, n, D, Pl, hcs, _, hl, hm, hmm, _, hx⟩
  · simp [Value.cells] at hcs
    obtain ⟨rfl, rfl, rfl⟩ := hcs
    exact ⟨[], rfl, (fun D hD => nomatch hD), (fun j hj => nomatch hj), (fun D hD => nomatch hD), Nat.zero_le _⟩
  · simp [Value.cells] at hcs
    obtain ⟨rfl, rfl, rfl⟩ := hcs
    have hlm : len ≤ m := by rw [hmm]; split <;> omega
    have ce : Try.prog.cellsOf 30 = 1 := by kernel_rfl
    have each : ∀ i, i < len → ∃ q : Value × List Int, W.cell? (x.add i) = some q.1 ∧ RdB W q.1 q.2 ∧ Byt q.2 ∧ q.2.length ≤ maxLen := by
      intro i hi
      obtain ⟨cs', h1, h2⟩ := hx i (by omega)
      rw [ce] at h1
      obtain ⟨_, hlen, hcell⟩ := World.cells?_some h1
      obtain ⟨v, D, hc, hr, hb, hm⟩ := open_cells h2
      refine ⟨(v, D), ?_, hr, hb, hm⟩
      have e := hcell 0 (by omega)
      rw [add_add, hc] at e
      simpa using e
    obtain ⟨q, hq⟩ := choose_lt each
    have hat : ∀ j, j < len → ((List.range len).map (fun i => (q i).2)).getD j [] = (q j).2 := fun j hj => by simp [List.getD, hj]
    refine ⟨(List.range len).map (fun i => (q i).2), by simp, fun D hD => ?_, fun j hj => ?_, fun D hD => ?_, by omega⟩
    · simp only [List.mem_map, List.mem_range] at hD
      obtain ⟨i, hi, rfl⟩ := hD
      exact (hq i hi).2.2.1
    · have hj' : j < len := by simpa using hj
      obtain ⟨b, o, rfl⟩ := add_spot (w := W) (x := x) (v := (q 0).1) (by exact (hq 0 (by omega)).1)
      have := (hq j hj').1
      rw [add_mid] at this
      refine ⟨b, o, (q j).1, rfl, this, ?_⟩
      rw [hat j hj']
      exact (hq j hj').2.1
    · simp only [List.mem_map, List.mem_range] at hD
      obtain ⟨i, hi, rfl⟩ := hD
      exact (hq i hi).2.2.2
end Go.Proofs.Ytgfamcadgahiiaa
namespace Go.Proofs.Ytgfamcadgahiiaa
set_option linter.unusedSimpArgs false
set_option linter.unusedVariables false
open Go.ChangeShapes Go.WideShapes Go.ChangeAt Go.RowKit Go.Pin Go.Prm
theorem wpList_app {P : Program} (w : World) {ops : Array Oper} {rest : List Oper} {o : Oper} {a : Act} {Q : Exit → Act → World → Prop} {R : Value → World → Prop} (hgd : o.guard = none) (d s : Operand) (t t' : TypeId)
    (ho : o.op = .call { callee := .builtin .append, args := #[d, s], argTypes := #[t, t'] }) (v u : Value) (hd : a.eval d = v) (hs : a.eval s = u)
    (hr : ∀ ty, ∃ v' w', (Builtin.append_ #[t, t'] ty #[v, u]).run P w = .ok v' w' ∧ R v' w') (h : ∀ v' w', R v' w' → wpList P ops Q rest (a.put o.dst v') w') : wpList P ops Q (o :: rest) a w :=
  wpList_plain hgd fun _ hK => by
    obtain ⟨v', w', h1, h2⟩ := hr o.type
    unfold Oper.wp execOp
    simp only [ho, resolve, invoke, builtin, Sem.run_bind, Sem.run_pure, Result.andThen_ok, List.map_toArray, List.map_cons, List.map_nil, hd, hs, h1]
    exact hK _ _ (h v' w' h2)
/-- a list that grows, and its box -/
def Lst (T : TypeId) (sz : Nat) (v : Value) (n : Nat) (xs : List Value) (lb : List (Nat × Obj)) : Prop :=
  xs.length = n * sz ∧ ((v = .slice none 0 0 ∧ n = 0 ∧ lb = []) ∨ ∃ g cap cur, v = .slice (some ⟨g, 0, none⟩) n cap ∧ lb = [(g, .cells cur T (0, 0))] ∧ n ≤ cap ∧ cap ≤ maxLen ∧ cur.size = cap * sz ∧ cur.toList.take (n * sz) = xs)
theorem lst_nil (T : TypeId) (sz : Nat) : Lst T sz (.slice none 0 0) 0 [] [] := ⟨by simp, .inl ⟨rfl, rfl, rfl⟩⟩
section
variable {B : Nat} {w : World} {rv : Value} {l : List (Int × Int)} {bx lb : List (Nat × Obj)} {W : World} {T : TypeId} {sz : Nat} {v : Value} {n : Nat} {xs : List Value}
theorem Lst.own (hL : Lst T sz v n xs lb) (hge : ∀ p ∈ lb, B ≤ p.1) (hat : ∀ p ∈ lb, W.heap[p.1]? = some p.2) : W.ownsRow B T sz v n xs := by
  refine ⟨hL.1, ?_⟩
  rcases hL.2 with ⟨h1, h2, _⟩ | ⟨g, cap, cur, h1, rfl, h3, h4, h5, h6⟩
  · exact .inl ⟨h1, h2⟩
  · exact .inr ⟨g, cap, cur, h1, hge (g, .cells cur T (0, 0)) mem0, hat (g, .cells cur T (0, 0)) mem0, h3, h4, h5, h6⟩
theorem lst_of (h : W.ownsRow B T sz v n xs) : ∃ lb, Lst T sz v n xs lb ∧ (∀ p ∈ lb, B ≤ p.1 ∧ W.heap[p.1]? = some p.2 ∧ v.ownBlock = some p.1) := by
  rcases h.2 with ⟨h1, h2⟩ | ⟨g, cap, cur, h1, h2, h3, h4, h5, h6, h7⟩
  · exact ⟨[], ⟨h.1, .inl ⟨h1, h2, rfl⟩⟩, by simp⟩
  · refine ⟨[(g, .cells cur T (0, 0))], ⟨h.1, .inr ⟨g, cap, cur, h1, rfl, h4, h5, h6, h7⟩⟩, fun p hp => ?_⟩
    rw [List.mem_singleton.1 hp]
    exact ⟨h2, h3, by rw [h1]; rfl⟩
theorem Lst.blk (hL : Lst T sz v n xs lb) {k : Nat} (hk : v.ownBlock = some k) : ∃ o, (k, o) ∈ lb := by
  rcases hL.2 with ⟨rfl, _, _⟩ | ⟨g, cap, cur, rfl, rfl, _⟩
  · cases hk
  · simp only [Value.ownBlock, Option.some.injEq] at hk
    subst hk
    exact ⟨_, mem0⟩
/-- it grows -/
theorem Ev.app (h : Ev B w rv l (lb ++ bx) W) (hL : Lst T sz v n xs lb) (hne : ∀ p ∈ lb, ∀ q ∈ bx, q.1 ≠ p.1) (t ty : TypeId) (i : TypeInfo) (z : Value) (bytes : Nat) (ht : Try.prog.underlying t = some (.slice T)) (hi : Try.prog.info? T = some i) (hz : i.zero = some z)
    (hsize : i.size = sz) (hby : i.bytes = bytes) (hzs : z.cells.size = sz) (hsz : 0 < sz)
    (a : Addr) (m c : Nat) (news : List Value) (hl : news.length = m * sz) (hnews : ∀ j u, news[j]? = some u → W.cell? (a.add j) = some u) (h1 : ∀ u ∈ news, u.oneCell' = true)
    (h63 : n + m ≤ maxLen) (hbytes : (n + m) * bytes ≤ 140737488355328) :
    ∃ v' w', (Builtin.append_ #[t, t] ty #[v, .slice (some a) m c]).run Try.prog W = .ok v' w' ∧ ∃ lb', Lst T sz v' (n + m) (xs ++ news) lb' ∧ Ev B w rv l (lb' ++ bx) w' ∧ (∀ p ∈ lb', ∀ q ∈ bx, q.1 ≠ p.1) := by
  have ho : W.ownsRow B T sz v n xs := hL.own (fun p hp => h.ge p (List.mem_append_left _ hp)) (fun p hp => h.at' p (List.mem_append_left _ hp))
  obtain ⟨v', w', hr, h2, h3, _, h5⟩ := run_append_own_at (P := Try.prog) W B t ty T i z sz bytes ht hi hz hsize hby hzs hsz v n xs ho a m c news hl hnews h1 h63 hbytes h.le
  obtain ⟨lb', hL', hb'⟩ := lst_of h2
  have hnew : ∀ p ∈ lb', (∃ o, (p.1, o) ∈ lb) ∨ p.1 = W.heap.size := fun p hp => by
    have hq := (hb' p hp).2.2
    rcases h5 with h5 | h5
    · rw [h5] at hq; exact .inl (hL.blk hq)
    · rw [h5] at hq; injection hq with hq; exact .inr hq.symm
  have hgr : Grow (fun k => v.ownBlock = some k) W w' := ⟨h3.os, h3.tape, h3.output, h3.size, fun k hk hn => h3.block k hk (fun e => hn e.symm)⟩
  have hnb : ∀ q ∈ bx, v.ownBlock ≠ some q.1 := fun q hq e => by
    obtain ⟨o, ho'⟩ := hL.blk e
    exact hne _ ho' q hq rfl
  refine ⟨v', w', hr, lb', hL', ⟨h.old.trans (hgr.below (fun k hk => (ho.lt k hk).1) h.le), Nat.le_trans h.le h3.size, fun p hp => ?_, fun p hp => ?_, ?_⟩, fun p hp q hq => ?_⟩
  · rcases List.mem_append.1 hp with hp | hp
    · exact (hb' p hp).1
    · exact h.ge p (List.mem_append_right _ hp)
  · rcases List.mem_append.1 hp with hp | hp
    · exact (hb' p hp).2.1
    · have hq := h.at' p (List.mem_append_right _ hp)
      rw [hgr.block p.1 (heap_lt hq) (hnb p hp)]
      exact hq
  · rcases h.rc with e | ⟨R, vs, e, g2, g3⟩
    · exact .inl e
    · refine .inr ⟨R, vs, e, g2.grow hgr (fun k hk hn => ?_), fun p hp => ?_⟩
      · obtain ⟨o, ho'⟩ := hL.blk hn
        exact g3 _ (List.mem_append_left _ ho') hk
      · rcases List.mem_append.1 hp with hp | hp
        · rcases hnew p hp with ⟨o, ho'⟩ | e2
          · exact g3 (p.1, o) (List.mem_append_left _ ho')
          · rw [e2]; intro hk; have := g2.lt _ hk; omega
        · exact g3 p (List.mem_append_right _ hp)
  · rcases hnew p hp with ⟨o, ho'⟩ | e2
    · exact hne _ ho' q hq
    · rw [e2]
      have := heap_lt (h.at' q (List.mem_append_right _ hq))
      omega
end
theorem parts_u8 : (Try.prog.info? 5).map (fun i => (i.zero, i.size, i.bytes)) = some (some (.int .u8 0), 1, 1) := by kernel_rfl
theorem parts_sl : (Try.prog.info? 30).map (fun i => (i.zero, i.size, i.bytes)) = some (some (.slice none 0 0), 1, 24) := by kernel_rfl
section
variable {B : Nat} {w : World} {rv : Value} {l : List (Int × Int)} {bx lb : List (Nat × Obj)} {W : World} {v : Value} {n : Nat}
/-- a slice comes to a list of slices -/
theorem Ev.appS {vs : List Value} (h : Ev B w rv l (lb ++ bx) W) (hL : Lst 30 1 v n vs lb) (hne : ∀ p ∈ lb, ∀ q ∈ bx, q.1 ≠ p.1) (ty : TypeId) {g : Nat} {a : Option Addr} {m c : Nat} (hg : W.heap[g]? = some (.cells #[.slice a m c] 30)) (hn : n ≤ 1000) :
    ∃ v' w', (Builtin.append_ #[48, 48] ty #[v, .slice (some ⟨g, 0, none⟩) 1 1]).run Try.prog W = .ok v' w' ∧ ∃ lb', Lst 30 1 v' (n + 1) (vs ++ [.slice a m c]) lb' ∧ Ev B w rv l (lb' ++ bx) w' ∧ (∀ p ∈ lb', ∀ q ∈ bx, q.1 ≠ p.1) := by
  obtain ⟨i0, hi, hz⟩ := Option.map_eq_some_iff.1 parts_sl
  simp only [Prod.mk.injEq] at hz
  obtain ⟨hz0, hz1, hz2⟩ := hz
  refine h.app hL hne 48 ty i0 (.slice none 0 0) 24 Try.underlying48 hi hz0 hz1 hz2 rfl (by decide) ⟨g, 0, none⟩ 1 1 [.slice a m c] rfl (fun j u hj => ?_) (fun u hu => by rw [List.mem_singleton.1 hu]; rfl) (by unfold maxLen; omega) (by omega)
  match j, hj with
  | 0, hj =>
    simp only [List.getElem?_cons_zero, Option.some.injEq] at hj
    rw [add_mid, cell_of_row _ _ _ _ _ _ hg, ← hj]
    rfl
/-- bytes come to a list of bytes -/
theorem Ev.appB {A D : List Int} (h : Ev B w rv l (lb ++ bx) W) (hL : Lst 5 1 v n (A.map (Value.int .u8)) lb) (hne : ∀ p ∈ lb, ∀ q ∈ bx, q.1 ≠ p.1) (ty : TypeId) {u : Value} (hS : Src B w bx u D) (hn : n + D.length ≤ 1000000) :
    ∃ v' w', (Builtin.append_ #[30, 30] ty #[v, u]).run Try.prog W = .ok v' w' ∧ ∃ lb', Lst 5 1 v' (n + D.length) ((A ++ D).map (Value.int .u8)) lb' ∧ Ev B w rv l (lb' ++ bx) w' ∧ (∀ p ∈ lb', ∀ q ∈ bx, q.1 ≠ p.1) := by
  obtain ⟨i0, hi, hz⟩ := Option.map_eq_some_iff.1 parts_u8
  simp only [Prod.mk.injEq] at hz
  obtain ⟨hz0, hz1, hz2⟩ := hz
  obtain ⟨a, cap, rfl, hc, hS⟩ := hS
  by_cases hD : D = []
  · subst hD
    refine ⟨v, W, ?_, lb, ?_, h, hne⟩
    · have hfc : ∀ x : Addr, (loadCells x 0).run Try.prog W = .ok #[] W := fun x => by simpa using run_loadCells_list (P := Try.prog) W x [] (by simp)
      rcases hL.2 with ⟨rfl, rfl, rfl⟩ | ⟨g, cap', cur, rfl, rfl, h3, h4, h5, h6⟩
      · cases a <;> simp [Builtin.append_, run_underlying Try.underlying30, sizeOf, typeInfo, zeroValue, hi, Builtin.lenOf, Question.forced, storeCells, Builtin.firstCells, hfc]
      · cases a <;> simp [Builtin.append_, run_underlying Try.underlying30, sizeOf, typeInfo, zeroValue, hi, Builtin.lenOf, Question.forced, storeCells, Builtin.firstCells, hfc, h3]
    · simpa using hL
  · rcases hS with e | ⟨b, o, rfl, hr⟩
    · exact absurd e hD
    · have hrr := hr W h.old (fun q hq => h.at' q (List.mem_append_right _ hq))
      rw [List.map_append]
      exact h.app hL hne 30 ty i0 (.int .u8 0) 1 Try.underlying30 hi hz0 hz1 hz2 rfl (by decide) ⟨b, o, none⟩ D.length cap (D.map (Value.int .u8)) (by simp) (fun j u hj => by rw [add_mid]; exact hrr j u hj) (fun u hu => by
        simp only [List.mem_map] at hu
        obtain ⟨x, _, rfl⟩ := hu
        rfl) (by unfold maxLen; omega) (by omega)
end
end Go.Proofs.Ytgfamcadgahiiaa
namespace Go.Proofs.Ytgfamcadgahiiaa
set_option linter.unusedSimpArgs false
set_option linter.unusedVariables false
open Go.ChangeShapes Go.WideShapes Go.ChangeAt Go.RowKit Go.Pin Go.Prm
set_option maxRecDepth 100000 in
theorem mk_b (n : Nat) (x : Int) (hx : x = (n : Int)) (hn : n ≤ 1000000) (w : World) : (Instr.makeSlice 30 (.int .i64 x) (.int .i64 x)).run Try.prog w = .ok (.slice (some ⟨w.heap.size, 0, none⟩) n n) (w.alloc (.cells (VI .u8 (List.replicate n 0)) 5)) := by
  subst hx
  obtain ⟨i0, hi, hz⟩ := Option.map_eq_some_iff.1 parts_u8
  simp only [Prod.mk.injEq] at hz
  obtain ⟨hz0, hz1, hz2⟩ := hz
  have := run_makeSlice (P := Try.prog) w 30 5 i0 (.int .u8 0) Try.underlying30 hi hz0 .i64 .i64 (n : Int) (n : Int) (by omega) (Int.le_refl _) (by rw [hz1]; omega) (by rw [hz2]; omega) (by omega)
  rw [this, hz1, Int.toNat_natCast]
  congr 3
  apply Array.ext'
  simp [madeCells, Value.cells, VI]
  refine List.eq_replicate_iff.2 ⟨by simp, ?_⟩
  simp
  intro a _
  rw [Nat.mod_one]
  rfl
/-- bytes, and marks behind them -/
def rmk (D : List Int) (i : Nat) : Int := if i < D.length then D.getD i 0 else ((161 + i % 7 : Nat) : Int)
def room (D : List Int) : List Int := (List.range (D.length + 70)).map (rmk D)
def roomT (D : List Int) (m : Nat) : List Int := (List.range (D.length + 70)).map fun i => if i < m then rmk D i else 0
theorem room_len (D : List Int) : (room D).length = D.length + 70 := by simp [room]
theorem roomT_len (D : List Int) (m : Nat) : (roomT D m).length = D.length + 70 := by simp [roomT]
theorem room_at (D : List Int) {j : Nat} (hj : j < D.length + 70) : (room D).getD j 0 = rmk D j := by simp [room, List.getD, hj]
theorem rmk_in (D : List Int) {i : Nat} (h : i < D.length) : rmk D i = D.getD i 0 := by unfold rmk; rw [if_pos h]
theorem rmk_out (D : List Int) {i : Nat} (h : ¬ i < D.length) : rmk D i = ((161 + i % 7 : Nat) : Int) := by unfold rmk; rw [if_neg h]
theorem room_take (D : List Int) : (room D).take D.length = D := by
  apply List.ext_getElem (by simp [room_len])
  intro i h1 h2
  simp [room, rmk, h2]
theorem room_byt {D : List Int} (h : Byt D) : Byt (room D) := fun x hx => by
  simp only [room, List.mem_map, List.mem_range] at hx
  obtain ⟨i, _, rfl⟩ := hx
  unfold rmk
  split
  · rename_i hi
    rw [List.getD_eq_getElem?_getD, List.getElem?_eq_getElem hi]
    exact h _ (List.getElem_mem _)
  · omega
theorem roomT_zero (D : List Int) : roomT D 0 = List.replicate (D.length + 70) 0 := by
  apply List.ext_getElem (by simp [roomT_len])
  intro i h1 h2
  simp [roomT]
theorem roomT_full (D : List Int) : roomT D (D.length + 70) = room D := by
  apply List.ext_getElem (by simp [roomT_len, room_len])
  intro i h1 h2
  rw [roomT_len] at h1
  simp [roomT, room, h1]
theorem roomT_set (D : List Int) {m : Nat} (hm : m < D.length + 70) : (roomT D m).set m (rmk D m) = roomT D (m + 1) := by
  apply List.ext_getElem (by simp [roomT_len])
  intro i h1 h2
  rw [List.length_set, roomT_len] at h1
  rw [List.getElem_set]
  simp only [roomT, List.getElem_map, List.getElem_range]
  by_cases e : m = i
  · subst e; simp
  · rw [if_neg e]
    by_cases h : i < m
    · rw [if_pos h, if_pos (by omega)]
    · rw [if_neg h, if_neg (by omega)]
theorem roomT_set2 (D : List Int) {m : Nat} (hm : m < D.length + 70) (v : Int) : ((roomT D m).set m v).set m (rmk D m) = roomT D (m + 1) := by rw [List.set_set, roomT_set D hm]
theorem Ev.setAtH {B : Nat} {w : World} {rv : Value} {l : List (Int × Int)} {bx : List (Nat × Obj)} {W : World} {g : Nat} {M : List Int} {T : TypeId} (h : Ev B w rv l ((g, .cells (VI .u8 M) T) :: bx) W) (hne : ∀ p ∈ bx, p.1 ≠ g) (i : Nat) (hi : i < M.length) (v : Int) :
    W.cell? ⟨g, i, none⟩ = some (.int .u8 (M.getD i 0)) ∧ W.frozen? ⟨g, i, none⟩ = false ∧ Ev B w rv l ((g, .cells (VI .u8 (M.set i v)) T) :: bx) (W.setCell ⟨g, i, none⟩ (.int .u8 v)) := by
  have hr := h.row mem0
  refine ⟨by rw [cell_of_row W _ _ _ _ _ hr, VI_at _ _ _ hi], frozen_of_row W _ _ _ _ hr, ?_⟩
  refine h.set rfl hne ((Grow.refl (fun k => k = g) W).setCell (p := ⟨g, i, none⟩) (.inl rfl) _) ?_
  rw [heap_setCell_same W _ _ _ _ _ hr]
  simp [VI, List.map_set]
/-- the cells of a slice that is read, in every later world -/
theorem rdb_at {W : World} {q : Nat} (hq : W.heap.size = q) {a : Option Addr} {n cap : Nat} {D : List Int} (hR : RdB W (.slice a n cap) D) : D.length = n ∧ n ≤ cap ∧ ∀ i, i < n → ∃ b o, a = some ⟨b, o, none⟩ ∧ b < q ∧ ∀ Y, Below q W Y → Y.cell? ⟨b, o + i, none⟩ = some (.int .u8 (D.getD i 0)) := by
  obtain ⟨a', c', e, hc, h3⟩ := hR
  injection e with e1 e2 e3
  subst e1
  have hDn : D.length = n := e2.symm
  refine ⟨hDn, by rw [e3, ← hDn]; exact hc, fun i hi => ?_⟩
  rcases h3 with h3 | ⟨b, o, h3, h4⟩
  · rw [h3] at hDn; simp at hDn; omega
  · have := h4 i (.int .u8 (D.getD i 0)) (by rw [List.getElem?_map, List.getD_eq_getElem?_getD, List.getElem?_eq_getElem (by omega)]; rfl)
    have hlt : b < q := by rw [← hq]; exact World.block_lt_of_cell? W _ this
    refine ⟨b, o, h3, hlt, fun Y hY => ?_⟩
    rw [World.cell?_of_block (a := ⟨b, o + i, none⟩) (hY.block b hlt)]
    exact this
theorem mark7 {i : Nat} (hi : i ≤ 1000000) : IntKind.u8.wrap (161 + (i : Int) % 7) = ((161 + i % 7 : Nat) : Int) := by
  rw [IntKind.wrap_u8']
  omega
set_option maxRecDepth 100000 in
set_option maxHeartbeats 8000000 in
theorem roomy_any (W : World) (D : List Int) (a : Option Addr) (n cap : Nat) (hR : RdB W (.slice a n cap) D) (hn : n ≤ 131072) :
    Calls Try.prog 15 #[.slice a n cap] W fun e w' => e = .returned (.slice (some ⟨W.heap.size, 0, none⟩) (n + 70) (n + 70)) ∧ Ev W.heap.size W (.pointer none) [] [(W.heap.size, .cells (VI .u8 (room D)) 5)] w' := by
  obtain ⟨q, hq⟩ : ∃ q, W.heap.size = q := ⟨_, rfl⟩
  obtain ⟨hDn, hnc, hat⟩ := rdb_at hq hR
  have hmk := mk_b (n + 70) ((n : Int) + 70) (by omega) (by omega) W
  have e1 := (ev_nil' W).new (.cells (VI .u8 (List.replicate (n + 70) 0)) 5)
  obtain ⟨W0, hW0⟩ : ∃ V, W.alloc (.cells (VI .u8 (List.replicate (n + 70) 0)) 5) = V := ⟨_, rfl⟩
  rw [hW0, hq] at hmk e1
  have hz := roomT_zero D
  rw [hDn] at hz
  rw [← hz] at e1
  have E1 : Hid (Ev q W (.pointer none) [] [(q, .cells (VI .u8 (roomT D 0)) 5)] W0) := e1
  have HD : Hid (D.length = n ∧ n ≤ 131072 ∧ ∀ i, i < n → ∃ b o, a = some ⟨b, o, none⟩ ∧ b < q ∧ ∀ Y, Below q W Y → Y.cell? ⟨b, o + i, none⟩ = some (.int .u8 (D.getD i 0))) := ⟨hDn, hn, hat⟩
  obtain ⟨N, hN⟩ : ∃ N, n + 70 = N := ⟨_, rfl⟩
  rw [hq]
  rw [hN] at hmk ⊢
  have HN : Hid (n + 70 = N) := hN
  have hwn : wrap64 ((n : Int) + 70) = (N : Int) ∧ IntKind.i64.wrap ((n : Int) + 70) = (N : Int) := by
    rw [IntWalk.wrap64_in _ ⟨by omega, by omega⟩, IntWalk.i64_in _ ⟨by omega, by omega⟩]
    omega
  have hmk' : (Instr.makeSlice 30 (.int .i64 (N : Int)) (.int .i64 (N : Int))).run Try.prog W = .ok (.slice (some ⟨q, 0, none⟩) N N) W0 := by
    rw [← show (n : Int) + 70 = (N : Int) by omega]; exact hmk
  clear e1 hat hDn hnc hR hz hN hn hW0 hmk
  obtain ⟨hw1, hw2⟩ := hwn
  go_enter Try.func15, Try.ntmps15
  go_wp2
  go_loopw [4] (fun v w' => ∃ i : Nat, i ≤ N ∧ v = .int .i64 (i : Int) ∧ Ev q W (.pointer none) [] [(q, .cells (VI .u8 (roomT D i)) 5)] w') (fun v _ => N - (intOf v).toNat)
  case atStart => exact ⟨0, Nat.zero_le _, rfl, E1.out⟩
  case round =>
    clear E1 hmk' hw1 hw2
    obtain ⟨i, hi, rfl, he⟩ := hrel
    by_cases hlt : i < N
    · have b1 : (i : Int) < (N : Int) := by omega
      have hiD : i < D.length + 70 := by rw [HD.out.1, HN.out]; exact hlt
      have hiL : i < (roomT D i).length := by rw [roomT_len]; exact hiD
      have hib : i ≤ 1000000 := by have := HD.out.2.1; have := HN.out; omega
      obtain ⟨c1, f1, e1⟩ := he.setAtH (fun p hp => nomatch hp) i hiL (((161 + i % 7 : Nat)) : Int)
      have hmk7 := mark7 hib
      obtain ⟨v, hv⟩ : ∃ v : Int, (((161 + i % 7 : Nat)) : Int) = v := ⟨_, rfl⟩
      rw [hv] at e1 hmk7
      obtain ⟨W1, hW1⟩ : ∃ V, wr.setCell ⟨q, i, none⟩ (.int .u8 v) = V := ⟨_, rfl⟩
      rw [hW1] at e1
      have HB : Hid (i < N ∧ N ≤ 131142) := ⟨hlt, by have := HD.out.2.1; have := HN.out; omega⟩
      by_cases hin : i < n
      · have b2 : (i : Int) < (n : Int) := by omega
        obtain ⟨b, o, rfl, hbq, hcc⟩ := HD.out.2.2 i hin
        have cb := hcc W1 e1.old
        obtain ⟨c2, f2, e2⟩ := e1.setAtH (fun p hp => nomatch hp) i (by rw [List.length_set]; exact hiL) (D.getD i 0)
        rw [← rmk_in D (by rw [HD.out.1]; exact hin), roomT_set2 D hiD] at e2
        rw [rmk_in D (by rw [HD.out.1]; exact hin)] at e2
        obtain ⟨z, hz⟩ : ∃ z, D.getD i 0 = z := ⟨_, rfl⟩
        rw [hz] at cb e2
        obtain ⟨W2, hW2⟩ : ∃ V, W1.setCell ⟨q, i, none⟩ (.int .u8 z) = V := ⟨_, rfl⟩
        rw [hW2] at e2
        have HE : Hid _ := e2
        clear e1 e2 he hcc hi hv hz hib hiD hiL
        go_wp2
        go_roundw
        case rel => exact ⟨i + 1, HB.out.1, by rw [wrapS HB.out.1 (by have := HB.out.2; unfold maxLen; omega)]; exact congrArg (Value.int .i64) (by omega), HE.out⟩
        case measure => exact measS HB.out.1 (by have := HB.out.2; unfold maxLen; omega)
      · have b2 : ¬ (i : Int) < (n : Int) := by omega
        rw [← hv, ← rmk_out D (by rw [HD.out.1]; exact hin), roomT_set D hiD] at e1
        have HE : Hid _ := e1
        clear e1 he hi hv hib hiD hiL
        go_wp2
        go_roundw
        case rel => exact ⟨i + 1, HB.out.1, by rw [wrapS HB.out.1 (by have := HB.out.2; unfold maxLen; omega)]; exact congrArg (Value.int .i64) (by omega), HE.out⟩
        case measure => exact measS HB.out.1 (by have := HB.out.2; unfold maxLen; omega)
    · have b1 : ¬ (i : Int) < (N : Int) := by omega
      have hi' : i = D.length + 70 := by rw [HD.out.1, HN.out]; omega
      rw [hi', roomT_full] at he
      have HE : Hid (Ev q W (.pointer none) [] [(q, .cells (VI .u8 (room D)) 5)] wr) := he
      clear he hi' hi
      go_wp2
      go_ret
      exact ⟨rfl, HE.out⟩
end Go.Proofs.Ytgfamcadgahiiaa
namespace Go.Proofs.Ytgfamcadgahiiaa
set_option linter.unusedSimpArgs false
set_option linter.unusedVariables false
open Go.ChangeShapes Go.WideShapes Go.ChangeAt Go.RowKit Go.Pin Go.Prm
theorem drewN_below {q : Nat} {W w : World} (h : Below q W w) (n : Nat) : Below q W (w.drewN n) := ⟨h.os, h.tape, h.output, h.size, h.block⟩
set_option maxRecDepth 100000 in
set_option maxHeartbeats 16000000 in
theorem stands_any (W : World) (D : List Int) (a a2 : Option Addr) (n N cap cap2 : Nat) (hR : RdB W (.slice a N cap) (room D)) (hR2 : RdB W (.slice a2 n cap2) D) (hn : n ≤ 131072) :
    Calls Try.prog 17 #[.slice a N cap, .slice a2 n cap2] W fun e w' => e = .returned (.bool true) ∧ Below W.heap.size W w' := by
  obtain ⟨q, hq⟩ : ∃ q, W.heap.size = q := ⟨_, rfl⟩
  obtain ⟨hl1, _, hat1⟩ := rdb_at hq hR
  obtain ⟨hl2, _, hat2⟩ := rdb_at hq hR2
  rw [room_len, hl2] at hl1
  have HD : Hid (D.length = n ∧ n + 70 = N ∧ n ≤ 131072 ∧ (∀ i, i < N → ∃ b o, a = some ⟨b, o, none⟩ ∧ b < q ∧ ∀ Y, Below q W Y → Y.cell? ⟨b, o + i, none⟩ = some (.int .u8 ((room D).getD i 0))) ∧ (∀ i, i < n → ∃ b o, a2 = some ⟨b, o, none⟩ ∧ b < q ∧ ∀ Y, Below q W Y → Y.cell? ⟨b, o + i, none⟩ = some (.int .u8 (D.getD i 0)))) := ⟨hl2, hl1, hn, hat1, hat2⟩
  have HB0 : Hid (Below q W W) := Below.refl _ _
  rw [hq]
  clear hl1 hl2 hat1 hat2 hR hR2 hn hq
  go_enter Try.func17, Try.ntmps17
  go_wp2
  go_loopw [5] (fun v w' => ∃ i : Nat, i ≤ N ∧ v = .int .i64 (i : Int) ∧ Below q W w') (fun v _ => N - (intOf v).toNat)
  case atStart => exact ⟨0, Nat.zero_le _, rfl, HB0.out⟩
  case round =>
    clear HB0
    obtain ⟨i, hi, rfl, hp⟩ := hrel
    by_cases hlt : i < N
    · have b1 : (i : Int) < (N : Int) := by omega
      obtain ⟨b, o, rfl, _, hcc⟩ := HD.out.2.2.2.1 i hlt
      have c1 := hcc wr hp
      rw [room_at D (by rw [HD.out.1, HD.out.2.1]; exact hlt)] at c1
      have HB : Hid (i < N ∧ N ≤ 131142) := ⟨hlt, by have := HD.out.2.1; have := HD.out.2.2.1; omega⟩
      have HP : Hid (Below q W wr) := hp
      by_cases hin : i < n
      · have b2 : (i : Int) < (n : Int) := by omega
        have b3 : ¬ (n : Int) ≤ (i : Int) := by omega
        have b4 : decide ((n : Int) ≤ (i : Int)) = false := decide_eq_false b3
        obtain ⟨b', o', rfl, _, hcc2⟩ := HD.out.2.2.2.2 i hin
        have c2 := hcc2 wr hp
        rw [rmk_in D (by rw [HD.out.1]; exact hin)] at c1
        obtain ⟨z, hz⟩ : ∃ z, D.getD i 0 = z := ⟨_, rfl⟩
        rw [hz] at c1 c2
        clear hcc hcc2 hi hz hp
        go_upto_region 4 with fail
        go_quiet (fail)
        go_wp2
        go_roundw
        case rel => exact ⟨i + 1, HB.out.1, by rw [wrapS HB.out.1 (by have := HB.out.2; unfold maxLen; omega)]; exact congrArg (Value.int .i64) (by omega), drewN_below HP.out _⟩
        case measure => exact measS HB.out.1 (by have := HB.out.2; unfold maxLen; omega)
      · have b2 : ¬ (i : Int) < (n : Int) := by omega
        have b2' : decide ((i : Int) < (n : Int)) = false := decide_eq_false b2
        have b3 : (n : Int) ≤ (i : Int) := by omega
        have hmk := mark7 (i := i) (by have := HB.out; omega)
        rw [rmk_out D (by rw [HD.out.1]; exact hin)] at c1
        obtain ⟨v, hv⟩ : ∃ v : Int, ((161 + i % 7 : Nat) : Int) = v := ⟨_, rfl⟩
        rw [hv] at c1 hmk
        clear hcc hi hv hp
        go_upto_region 4 with fail
        go_quiet (fail)
        go_wp2
        go_roundw
        case rel => exact ⟨i + 1, HB.out.1, by rw [wrapS HB.out.1 (by have := HB.out.2; unfold maxLen; omega)]; exact congrArg (Value.int .i64) (by omega), drewN_below HP.out _⟩
        case measure => exact measS HB.out.1 (by have := HB.out.2; unfold maxLen; omega)
    · have b1 : ¬ (i : Int) < (N : Int) := by omega
      have HP : Hid (Below q W wr) := hp
      clear hi hp
      go_wp2
      go_ret
      exact ⟨rfl, HP.out⟩
end Go.Proofs.Ytgfamcadgahiiaa
namespace Go.Proofs.Ytgfamcadgahiiaa
set_option linter.unusedSimpArgs false
open Go.ChangeShapes Go.WideShapes Go.ChangeAt Go.RowKit Go.Pin
/-- the events from number n on -/
def beh (l : List (Int × Int)) (n : Int) : List (Int × Int) := l.drop n.toNat
set_option maxRecDepth 100000 in
theorem logged_any (v vs : Value) (l : List (Int × Int)) (w : World) (h : RecO w v vs l) :
    Calls Try.prog 58 #[v] w fun e w' => e = .returned vs ∧ w' = w := by
  rcases h with ⟨rfl, rfl, rfl⟩ | ⟨B, R, rfl, h⟩
  · go_enter Try.func58, Try.ntmps58
    go_wp2
    go_ret
    exact ⟨rfl, rfl⟩
  · have hc0 := h.cell0
    clear h
    go_enter Try.func58, Try.ntmps58
    go_wp2
    go_ret
    exact ⟨rfl, rfl⟩
end Go.Proofs.Ytgfamcadgahiiaa
namespace Go.Proofs.Ytgfamcadgahiiaa
set_option linter.unusedSimpArgs false
set_option linter.unusedVariables false
open Go.ChangeShapes Go.WideShapes Go.ChangeAt Go.RowKit Go.Pin Go.Prm
theorem rop2 (v : Int) (w : World) : Calls Try.prog 51 #[.int .i64 v] w fun e w' => e = .returned (.agg #[.int .i64 3, .int .i64 v]) ∧ w' = w.alloc (.cells #[.int .i64 3, .int .i64 v] 82) := by
  go_enter Try.func51, Try.ntmps51
  go_wp2
  exact bodyPost_ret (v := .agg #[.int .i64 3, .int .i64 v]) (by simp [results, Try.results51, go_sem]) rfl ⟨rfl, rfl⟩
theorem rat2 (v : Int) (w : World) : Calls Try.prog 34 #[.int .i64 v] w fun e w' => e = .returned (.agg #[.int .i64 2, .int .i64 v]) ∧ w' = w.alloc (.cells #[.int .i64 2, .int .i64 v] 82) := by
  go_enter Try.func34, Try.ntmps34
  go_wp2
  exact bodyPost_ret (v := .agg #[.int .i64 2, .int .i64 v]) (by simp [results, Try.results34, go_sem]) rfl ⟨rfl, rfl⟩
theorem rif2 (b : Bool) (w : World) : Calls Try.prog 33 #[.bool b] w fun e w' => e = .returned (.agg #[.int .i64 1, .int .i64 (if b then 1 else 0)]) ∧ w' = w.alloc (.cells #[.int .i64 1, .int .i64 (if b then 1 else 0)] 82) := by
  cases b
  · go_enter Try.func33, Try.ntmps33
    go_wp2
    exact bodyPost_ret (v := .agg #[.int .i64 1, .int .i64 0]) (by simp [results, Try.results33, go_sem]) rfl ⟨rfl, rfl⟩
  · go_enter Try.func33, Try.ntmps33
    go_wp2
    exact bodyPost_ret (v := .agg #[.int .i64 1, .int .i64 1]) (by simp [results, Try.results33, go_sem]) rfl ⟨rfl, rfl⟩
structure Evl (B : Nat) (w : World) (v : Value) (l : List (Int × Int)) (wr : World) : Prop where
  old : Below B w wr
  le : B ≤ wr.heap.size
  own : wr.ownsRow B 82 2 v l.length (evC l)
theorem Evl.app {B : Nat} {w : World} {v : Value} {l : List (Int × Int)} {wr : World} (h : Evl B w v l wr) {W : World} (hb : Below wr.heap.size wr W) (news : List (Int × Int)) {g k : Nat} (hk : k = news.length) (hrow : W.heap[g]? = some (.cells (evC news).toArray 82 (0, 0))) (hl : l.length + k ≤ 1000000) (ty : TypeId) :
    ∃ v' w', (Builtin.append_ #[31, 31] ty #[v, .slice (some ⟨g, 0, none⟩) k k]).run Try.prog W = .ok v' w' ∧ Evl B w v' (l ++ news) w' := by
  subst hk
  obtain ⟨i0, hi0, hz0⟩ := Option.map_eq_some_iff.1 info37
  simp only [Prod.mk.injEq] at hz0
  obtain ⟨hz1, hz2, hz3⟩ := hz0
  have ho := owns_below h.own hb
  have hBW : B ≤ W.heap.size := Nat.le_trans h.le hb.size
  obtain ⟨v', w', hr, h2, h3, _, h5⟩ := run_append_own_at (P := Try.prog) W B 31 ty 82 i0 (.agg #[.int .i64 0, .int .i64 0]) 2 16 Try.underlying31 hi0 hz1 hz2 hz3 rfl (by decide) v l.length (evC l) ho ⟨g, 0, none⟩ news.length news.length (evC news) (evC_len news) (fun j u hj => by
      rw [add_mid, cell_of_row _ _ _ _ _ _ hrow, Nat.zero_add]
      simpa using hj) (fun u hu => by
      simp only [evC, List.mem_flatMap, List.mem_cons, List.not_mem_nil, or_false] at hu
      obtain ⟨x, _, rfl | rfl⟩ := hu <;> rfl) (by unfold maxLen; omega) (by omega) hBW
  refine ⟨v', w', hr, (h.old.trans (hb.mono h.le)).trans ⟨h3.os, h3.tape, h3.output, h3.size, fun k hk => h3.block k (by omega) (fun e => by have := (ho.lt k e.symm).1; omega)⟩, Nat.le_trans hBW h3.size, ?_⟩
  rw [List.length_append, evC_app]
  exact h2
set_option maxRecDepth 100000 in
theorem taken_any {B : Nat} {w : World} {v : Value} {L : List (Int × Int)} {W : World} (h : Evl B w v L W) (hl : L.length ≤ 900000) :
    Calls Try.prog 35 #[v] W fun e w' => ∃ u, e = .returned u ∧ Evl B w u (L ++ tkl) w' := by
  have HAP : Hid (∀ ty, ∃ v' w', (Builtin.append_ #[31, 31] ty #[v, .slice (some ⟨W.heap.size + 1 + 1, 0, none⟩) 2 2]).run Try.prog (((W.alloc (.cells #[.int .i64 3, .int .i64 11] 82)).alloc (.cells #[.int .i64 3, .int .i64 12] 82)).alloc (.cells #[.int .i64 3, .int .i64 11, .int .i64 3, .int .i64 12] 82)) = .ok v' w' ∧ Evl B w v' (L ++ [(3, 11), (3, 12)]) w') := fun ty => h.app ((((Below.refl _ _).alloc (Nat.le_refl _) _).alloc (by simp) _).alloc (by simp; omega) _) [(3, 11), (3, 12)] rfl (by rw [heap_alloc_any, if_pos (by simp [size_alloc])]; rfl) (by simp only [List.length_append, List.length_cons, List.length_nil]; omega) ty
  clear h hl
  go_enter Try.func35, Try.ntmps35
  go_wp2_with (first | (go_at_call 51; first | (refine (rop2 11 _).mono ?_; rintro e wi ⟨rfl, hw⟩; obtain rfl := hw) | (refine (rop2 12 _).mono ?_; rintro e wi ⟨rfl, hw⟩; obtain rfl := hw)) | (at_builtin; refine wpList_app _ rfl (.tmp 3) (.tmp 6) 31 31 rfl _ _ rfl rfl HAP.out ?_; intro av aw ah; have aH : Hid _ := ah; clear ah HAP))
  go_ret
  exact ⟨av, rfl, aH.out⟩
set_option maxRecDepth 100000 in
theorem etag_any (h : Nat) (hh : h < 16) (w : World) : Calls Try.prog 12 #[.int .i64 (h : Int)] w fun e w' => ∃ u, e = .returned u ∧ Evl w.heap.size w u (tlog h) w' := by
  obtain ⟨B, hB⟩ : ∃ B, w.heap.size = B := ⟨_, rfl⟩
  have h0 : Evl B w (.slice none 0 0) [] w := ⟨Below.refl _ _, by rw [hB]; exact Nat.le_refl _, World.ownsRow_nil _ _ _ _⟩
  rw [hB]
  have HH : Hid (h < 16) := hh
  by_cases hp : 0 < h
  · have b1 : (0 : Int) < (h : Int) := by omega
    have HAP : Hid (∀ ty, ∃ v' w', (Builtin.append_ #[31, 31] ty #[.slice none 0 0, .slice (some ⟨w.heap.size + 1, 0, none⟩) 1 1]).run Try.prog ((w.alloc (.cells #[.int .i64 1, .int .i64 1] 82)).alloc (.cells #[.int .i64 1, .int .i64 1] 82)) = .ok v' w' ∧ Evl B w v' ([] ++ [(1, 1)]) w') := fun ty => h0.app (((Below.refl _ _).alloc (Nat.le_refl _) _).alloc (by simp) _) [(1, 1)] rfl (by rw [heap_alloc_any, if_pos (by simp [size_alloc])]; rfl) (by simp only [List.length_append, List.length_cons, List.length_nil]; omega) ty
    have HLG : Hid (tlog h = [] ++ [(1, 1)] ++ [(2, (h : Int))] ++ tkl) := by
      have : tlog h = [] ++ [(1, 1)] ++ [(2, (h : Int))] ++ tkl := by unfold tlog; rw [if_pos hp]; rfl
      exact this
    clear h0 hB hh
    go_enter Try.func12, Try.ntmps12
    go_upto_region 3 with (first | (go_at_call 33; refine (rif2 true _).mono ?_; rintro e wi ⟨rfl, hw⟩; obtain rfl := hw) | (at_builtin; refine wpList_app _ rfl (.tmp 4) (.tmp 8) 31 31 rfl _ _ rfl rfl HAP.out ?_; intro av aw ah; have aH : Hid _ := ah; clear ah HAP))
    have HAQ : Hid (∀ ty, ∃ v' w', (Builtin.append_ #[31, 31] ty #[av, .slice (some ⟨aw.heap.size + 1, 0, none⟩) 1 1]).run Try.prog ((aw.alloc (.cells #[.int .i64 2, .int .i64 (h : Int)] 82)).alloc (.cells #[.int .i64 2, .int .i64 (h : Int)] 82)) = .ok v' w' ∧ Evl B w v' (([] ++ [(1, 1)]) ++ [(2, (h : Int))]) w') := fun ty => aH.out.app (((Below.refl _ _).alloc (Nat.le_refl _) _).alloc (by simp) _) [(2, (h : Int))] rfl (by rw [heap_alloc_any, if_pos (by simp [size_alloc])]; rfl) (by simp only [List.length_append, List.length_cons, List.length_nil]; omega) ty
    go_upto_region 5 with (first | (go_at_call 34; refine (rat2 (h : Int) _).mono ?_; rintro e wi ⟨rfl, hw⟩; obtain rfl := hw) | (at_builtin; refine wpList_app _ rfl (.tmp 12) (.tmp 15) 31 31 rfl _ _ rfl rfl HAQ.out ?_; intro bv bw bh; have bH : Hid _ := bh; clear bh HAQ))
    have CT : Hid _ := taken_any bH.out (by simp)
    go_wp2_with (first | (go_at_call 35; refine Calls.mono CT.out ?_; rintro e w9 ⟨u, rfl, h9⟩; have H9 : Hid _ := h9; clear h9))
    go_ret
    refine ⟨u, rfl, ?_⟩
    rw [HLG.out]
    exact H9.out
  · have b1 : ¬ (0 : Int) < (h : Int) := by omega
    have HAP : Hid (∀ ty, ∃ v' w', (Builtin.append_ #[31, 31] ty #[.slice none 0 0, .slice (some ⟨w.heap.size + 1, 0, none⟩) 1 1]).run Try.prog ((w.alloc (.cells #[.int .i64 1, .int .i64 0] 82)).alloc (.cells #[.int .i64 1, .int .i64 0] 82)) = .ok v' w' ∧ Evl B w v' ([] ++ [(1, 0)]) w') := fun ty => h0.app (((Below.refl _ _).alloc (Nat.le_refl _) _).alloc (by simp) _) [(1, 0)] rfl (by rw [heap_alloc_any, if_pos (by simp [size_alloc])]; rfl) (by simp only [List.length_append, List.length_cons, List.length_nil]; omega) ty
    have HLG : Hid (tlog h = [] ++ [(1, 0)]) := by
      have : tlog h = [] ++ [(1, 0)] := by unfold tlog; rw [if_neg hp]; rfl
      exact this
    clear h0 hB hh
    go_enter Try.func12, Try.ntmps12
    go_wp2_with (first | (go_at_call 33; refine (rif2 false _).mono ?_; rintro e wi ⟨rfl, hw⟩; obtain rfl := hw) | (at_builtin; refine wpList_app _ rfl (.tmp 4) (.tmp 8) 31 31 rfl _ _ rfl rfl HAP.out ?_; intro av aw ah; have aH : Hid _ := ah; clear ah HAP))
    go_ret
    refine ⟨av, rfl, ?_⟩
    rw [HLG.out]
    exact aH.out
end Go.Proofs.Ytgfamcadgahiiaa
