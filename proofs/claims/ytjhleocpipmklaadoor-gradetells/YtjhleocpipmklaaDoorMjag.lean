import Derived.Maps.AppendAt
import Derived.Test.YtjhleocpipmklaaDoorMjaf
import Derived.Test.YtjhleocpipmklaaDoorMjaa
namespace Go.Proofs.YtjhleocpipmklaaDoor
set_option linter.unusedSimpArgs false
set_option linter.unusedVariables false
open Go.ChangeShapes Go.WideShapes Go.ChangeAt Go.RowKit Go.Pin Go.Pat
section
variable {a : Act} {o : Oper} {x y z : Operand}
theorem run_ldP {q : Nat} {nm : ByteArray} {v0 v1 vl : Value} (ho : o.op = .load 26 x) (he : a.eval x = .pointer (some ⟨q, 0, none⟩)) (w : World) (hg : w.heap[q]? = some (.cells #[.string nm, v0, v1, vl] 26)) : (execOp a.eval o).run Tryd.prog w = .ok (.value (.agg #[.string nm, v0, v1, vl])) w := by
  unfold execOp
  simp only [ho, he, Instr.loadAt, Instr.sureAddr, Sem.run_bind, Sem.run_pure, Result.andThen_ok, run_loadVar_row w q _ _ _ _ _ hg Tryd.underlying26 rfl infoP]
theorem run_sub1 {f : Int} (hf : f = 0 ∨ f = 1) (ho : o.op = .binOp .sub 3 (.const (.int .i64 1)) y 3) (he : a.eval y = .int .i64 f) (w : World) : (execOp a.eval o).run Tryd.prog w = .ok (.value (.int .i64 (1 - f))) w := by
  unfold execOp
  have hc : a.eval (.const (.int .i64 1)) = .int .i64 1 := rfl
  rcases hf with rfl | rfl
  · simp only [ho, he, hc]
    go_simp
    decide
  · simp only [ho, he, hc]
    go_simp
    decide
end
noncomputable def rgSo1 : Code := ((Tryd.f30.body.bind (findReg 1)).getD .skip)
noncomputable def opSo1 : Array Oper := opsOf rgSo1
theorem rgSo1_is : rgSo1 = .region 1 opSo1 true := by kernel_rfl
theorem opSo1_ns : Region.noSelect opSo1 = true := by kernel_rfl
theorem opSo1_0 : opIs opSo1 0 (.load 26 (.tmp 2)) (some 5) := by unfold opIs; kernel_rfl
theorem opSo1_1 : opIs opSo1 1 (.move (.tmp 1)) (some 6) := by unfold opIs; kernel_rfl
theorem opSo1_2 : opIs opSo1 2 (.load 26 (.tmp 2)) (some 7) := by unfold opIs; kernel_rfl
theorem opSo1_3 : opIs opSo1 3 (.move (.tmp 1)) (some 8) := by unfold opIs; kernel_rfl
theorem opSo1_4 : opIs opSo1 4 (.call { callee := .value (.func 29), args := #[.tmp 7, .tmp 8], argTypes := #[26, 3] }) (some 9) := by unfold opIs; kernel_rfl
theorem opSo1_5 : opIs opSo1 5 (.call { callee := .value (.func 54), args := #[.tmp 9], argTypes := #[3] }) (some 10) := by unfold opIs; kernel_rfl
theorem opSo1_6 : opIs opSo1 6 (.call { callee := .value (.func 53), args := #[.tmp 5, .tmp 6, .tmp 10], argTypes := #[26, 3, 3] }) (some 11) := by unfold opIs; kernel_rfl
set_option maxRecDepth 100000 in
set_option maxHeartbeats 4000000 in
theorem So1 {Q : Exit → Act → World → Prop} {W0 : World} {R0 : World → Prop} {R1 : World → Prop} {R2 : World → Prop} {R3 : World → Prop} {q : Nat} {w : World} {nm : ByteArray} {v0 v1 vl : Value} {p : Pt} {k : Nat} {a0 : Act} 
    (sz0 : a0.tmps.size = 15) (e2 : a0.eval (.tmp 2) = .pointer (some ⟨q, 0, none⟩)) (e1 : a0.eval (.tmp 1) = .int .i64 (k : Int))
    (h0 : R0 W0.drew)
    (HS0 : ∀ Y, R0 Y → (fun Y : World => PB q w nm v0 v1 vl Y) Y)
    (HS1 : ∀ Y, R1 Y → (fun Y : World => PB q w nm v0 v1 vl Y) Y)
    (HS2 : ∀ Y, R2 Y → (fun Y : World => PB q w nm v0 v1 vl Y) Y)
    (HS3 : ∀ Y, R3 Y → (fun Y : World => PB q w nm v0 v1 vl Y) Y)
    (HK0 : Hid (∀ Y, R0 Y → Calls Tryd.prog 29 #[.agg #[.string nm, v0, v1, vl], .int .i64 (k : Int)] Y fun e w' => e = .returned (.int .i64 (sender p k)) ∧ R1 w'))
    (HK1 : Hid (∀ Y, R1 Y → Calls Tryd.prog 54 #[.int .i64 (sender p k)] Y fun e w' => e = .returned (.int .i64 (stc (sender p k))) ∧ R2 w'))
    (HK2 : Hid (∀ Y, R2 Y → Calls Tryd.prog 53 #[.agg #[.string nm, v0, v1, vl], .int .i64 (k : Int), .int .i64 (stc (sender p k))] Y fun e w' => e = .returned (.bool (dn p k (stc (sender p k)))) ∧ R3 w'))
    (HPN : ∀ c (a : Act) d v w, Q (.panic c) (a.put d v) w → Q (.panic c) a w)
    (H : ∀ Y, R3 Y → Q .normal (((((((a0.put (some 5) (.agg #[.string nm, v0, v1, vl])).put (some 6) (.int .i64 (k : Int))).put (some 7) (.agg #[.string nm, v0, v1, vl])).put (some 8) (.int .i64 (k : Int))).put (some 9) (.int .i64 (sender p k))).put (some 10) (.int .i64 (stc (sender p k)))).put (some 11) (.bool (dn p k (stc (sender p k))))) Y) : Code.wp Tryd.prog rgSo1 Q a0 W0 := by
  rw [rgSo1_is]
  refine wp_region_held_drew (S := (fun Y : World => PB q w nm v0 v1 vl Y)) (by kernel_rfl) (HS0 _ h0) (fun hH => ?_)
  refine wpAnyH_as (l' := #[false, false, false, false, false, false, false]) (by kernel_rfl) ?_
  have st0 := h0
  refine takeH (v := .agg #[.string nm, v0, v1, vl]) opSo1_0 opSo1_ns (by kernel_rfl) (by kernel_rfl) HPN (fun w hw o ho => run_ldP ho e2 w hw.row) (HS0 _ h0) ?_
  refine wpAnyH_as (l' := #[true, false, false, false, false, false, false]) (by kernel_rfl) ?_
  obtain ⟨a1, ha1⟩ : ∃ a' : Act, a' = a0.put (some 5) (.agg #[.string nm, v0, v1, vl]) := ⟨_, rfl⟩
  rw [← ha1]
  have sz1 : a1.tmps.size = 15 := by rw [ha1, size_put]; exact sz0
  have e1_2 : a1.eval (.tmp 2) = .pointer (some ⟨q, 0, none⟩) := by rw [ha1, eval_put_ne _ _ _ _ (by decide)]; exact e2
  have e1_1 : a1.eval (.tmp 1) = .int .i64 (k : Int) := by rw [ha1, eval_put_ne _ _ _ _ (by decide)]; exact e1
  have e1_5 : a1.eval (.tmp 5) = .agg #[.string nm, v0, v1, vl] := by rw [ha1]; exact eval_put_eq _ _ _ (by rw [sz0]; decide)
  refine takeH (v := .int .i64 (k : Int)) opSo1_1 opSo1_ns (by kernel_rfl) (by kernel_rfl) HPN (fun w hw o ho => run_move ho e1_1 w) (HS0 _ h0) ?_
  refine wpAnyH_as (l' := #[true, true, false, false, false, false, false]) (by kernel_rfl) ?_
  obtain ⟨a2, ha2⟩ : ∃ a' : Act, a' = a1.put (some 6) (.int .i64 (k : Int)) := ⟨_, rfl⟩
  rw [← ha2]
  have sz2 : a2.tmps.size = 15 := by rw [ha2, size_put]; exact sz1
  have e2_2 : a2.eval (.tmp 2) = .pointer (some ⟨q, 0, none⟩) := by rw [ha2, eval_put_ne _ _ _ _ (by decide)]; exact e1_2
  have e2_1 : a2.eval (.tmp 1) = .int .i64 (k : Int) := by rw [ha2, eval_put_ne _ _ _ _ (by decide)]; exact e1_1
  have e2_5 : a2.eval (.tmp 5) = .agg #[.string nm, v0, v1, vl] := by rw [ha2, eval_put_ne _ _ _ _ (by decide)]; exact e1_5
  have e2_6 : a2.eval (.tmp 6) = .int .i64 (k : Int) := by rw [ha2]; exact eval_put_eq _ _ _ (by rw [sz1]; decide)
  refine takeH (v := .agg #[.string nm, v0, v1, vl]) opSo1_2 opSo1_ns (by kernel_rfl) (by kernel_rfl) HPN (fun w hw o ho => run_ldP ho e2_2 w hw.row) (HS0 _ h0) ?_
  refine wpAnyH_as (l' := #[true, true, true, false, false, false, false]) (by kernel_rfl) ?_
  obtain ⟨a3, ha3⟩ : ∃ a' : Act, a' = a2.put (some 7) (.agg #[.string nm, v0, v1, vl]) := ⟨_, rfl⟩
  rw [← ha3]
  have sz3 : a3.tmps.size = 15 := by rw [ha3, size_put]; exact sz2
  have e3_1 : a3.eval (.tmp 1) = .int .i64 (k : Int) := by rw [ha3, eval_put_ne _ _ _ _ (by decide)]; exact e2_1
  have e3_5 : a3.eval (.tmp 5) = .agg #[.string nm, v0, v1, vl] := by rw [ha3, eval_put_ne _ _ _ _ (by decide)]; exact e2_5
  have e3_6 : a3.eval (.tmp 6) = .int .i64 (k : Int) := by rw [ha3, eval_put_ne _ _ _ _ (by decide)]; exact e2_6
  have e3_7 : a3.eval (.tmp 7) = .agg #[.string nm, v0, v1, vl] := by rw [ha3]; exact eval_put_eq _ _ _ (by rw [sz2]; decide)
  refine takeH (v := .int .i64 (k : Int)) opSo1_3 opSo1_ns (by kernel_rfl) (by kernel_rfl) HPN (fun w hw o ho => run_move ho e3_1 w) (HS0 _ h0) ?_
  refine wpAnyH_as (l' := #[true, true, true, true, false, false, false]) (by kernel_rfl) ?_
  obtain ⟨a4, ha4⟩ : ∃ a' : Act, a' = a3.put (some 8) (.int .i64 (k : Int)) := ⟨_, rfl⟩
  rw [← ha4]
  have sz4 : a4.tmps.size = 15 := by rw [ha4, size_put]; exact sz3
  have e4_5 : a4.eval (.tmp 5) = .agg #[.string nm, v0, v1, vl] := by rw [ha4, eval_put_ne _ _ _ _ (by decide)]; exact e3_5
  have e4_6 : a4.eval (.tmp 6) = .int .i64 (k : Int) := by rw [ha4, eval_put_ne _ _ _ _ (by decide)]; exact e3_6
  have e4_7 : a4.eval (.tmp 7) = .agg #[.string nm, v0, v1, vl] := by rw [ha4, eval_put_ne _ _ _ _ (by decide)]; exact e3_7
  have e4_8 : a4.eval (.tmp 8) = .int .i64 (k : Int) := by rw [ha4]; exact eval_put_eq _ _ _ (by rw [sz3]; decide)
  refine readyH opSo1_4 (by kernel_rfl) (fun o ho hd => wpCall (v := .int .i64 (sender p k)) ho hd (args := #[.agg #[.string nm, v0, v1, vl], .int .i64 (k : Int)]) (by simp only [List.map_toArray, List.map_cons, List.map_nil, e4_7, e4_8] <;> rfl) (fun _ => rfl) (HK0.out  _ st0) (fun w5 st5 => ⟨(HS1  _ st5), ?_⟩))
  refine wpAnyH_as (l' := #[true, true, true, true, true, false, false]) (by kernel_rfl) ?_
  obtain ⟨a5, ha5⟩ : ∃ a' : Act, a' = a4.put (some 9) (.int .i64 (sender p k)) := ⟨_, rfl⟩
  rw [← ha5]
  have sz5 : a5.tmps.size = 15 := by rw [ha5, size_put]; exact sz4
  have e5_5 : a5.eval (.tmp 5) = .agg #[.string nm, v0, v1, vl] := by rw [ha5, eval_put_ne _ _ _ _ (by decide)]; exact e4_5
  have e5_6 : a5.eval (.tmp 6) = .int .i64 (k : Int) := by rw [ha5, eval_put_ne _ _ _ _ (by decide)]; exact e4_6
  have e5_9 : a5.eval (.tmp 9) = .int .i64 (sender p k) := by rw [ha5]; exact eval_put_eq _ _ _ (by rw [sz4]; decide)
  refine readyH opSo1_5 (by kernel_rfl) (fun o ho hd => wpCall (v := .int .i64 (stc (sender p k))) ho hd (args := #[.int .i64 (sender p k)]) (by simp only [List.map_toArray, List.map_cons, List.map_nil, e5_9] <;> rfl) (fun _ => rfl) (HK1.out  _ st5) (fun w6 st6 => ⟨(HS2  _ st6), ?_⟩))
  refine wpAnyH_as (l' := #[true, true, true, true, true, true, false]) (by kernel_rfl) ?_
  obtain ⟨a6, ha6⟩ : ∃ a' : Act, a' = a5.put (some 10) (.int .i64 (stc (sender p k))) := ⟨_, rfl⟩
  rw [← ha6]
  have sz6 : a6.tmps.size = 15 := by rw [ha6, size_put]; exact sz5
  have e6_5 : a6.eval (.tmp 5) = .agg #[.string nm, v0, v1, vl] := by rw [ha6, eval_put_ne _ _ _ _ (by decide)]; exact e5_5
  have e6_6 : a6.eval (.tmp 6) = .int .i64 (k : Int) := by rw [ha6, eval_put_ne _ _ _ _ (by decide)]; exact e5_6
  have e6_10 : a6.eval (.tmp 10) = .int .i64 (stc (sender p k)) := by rw [ha6]; exact eval_put_eq _ _ _ (by rw [sz5]; decide)
  refine readyH opSo1_6 (by kernel_rfl) (fun o ho hd => wpCall (v := .bool (dn p k (stc (sender p k)))) ho hd (args := #[.agg #[.string nm, v0, v1, vl], .int .i64 (k : Int), .int .i64 (stc (sender p k))]) (by simp only [List.map_toArray, List.map_cons, List.map_nil, e6_5, e6_6, e6_10] <;> rfl) (fun _ => rfl) (HK2.out  _ st6) (fun w7 st7 => ⟨(HS3  _ st7), ?_⟩))
  refine wpAnyH_as (l' := #[true, true, true, true, true, true, true]) (by kernel_rfl) ?_
  refine wpAnyH_done (by kernel_rfl) ?_ _
  obtain ⟨a7, ha7⟩ : ∃ a' : Act, a' = a6.put (some 11) (.bool (dn p k (stc (sender p k)))) := ⟨_, rfl⟩
  rw [← ha7]
  have sz7 : a7.tmps.size = 15 := by rw [ha7, size_put]; exact sz6
  rw [ha7, ha6, ha5, ha4, ha3, ha2, ha1]
  exact H  _ st7
noncomputable def rgDe3 : Code := ((Tryd.f31.body.bind (findReg 3)).getD .skip)
noncomputable def opDe3 : Array Oper := opsOf rgDe3
theorem rgDe3_is : rgDe3 = .region 3 opDe3 true := by kernel_rfl
theorem opDe3_ns : Region.noSelect opDe3 = true := by kernel_rfl
theorem opDe3_0 : opIs opDe3 0 (.load 26 (.tmp 2)) (some 16) := by unfold opIs; kernel_rfl
theorem opDe3_1 : opIs opDe3 1 (.move (.tmp 1)) (some 17) := by unfold opIs; kernel_rfl
theorem opDe3_2 : opIs opDe3 2 (.move (.tmp 5)) (some 18) := by unfold opIs; kernel_rfl
theorem opDe3_3 : opIs opDe3 3 (.binOp .sub 3 (.const (.int .i64 1)) (.tmp 18) 3) (some 19) := by unfold opIs; kernel_rfl
theorem opDe3_4 : opIs opDe3 4 (.call { callee := .value (.func 54), args := #[.tmp 19], argTypes := #[3] }) (some 20) := by unfold opIs; kernel_rfl
theorem opDe3_5 : opIs opDe3 5 (.call { callee := .value (.func 53), args := #[.tmp 16, .tmp 17, .tmp 20], argTypes := #[26, 3, 3] }) (some 21) := by unfold opIs; kernel_rfl
theorem opDe3_6 : opIs opDe3 6 (.assign (.tmp 21)) (some 7) := by unfold opIs; kernel_rfl
set_option maxRecDepth 100000 in
set_option maxHeartbeats 4000000 in
theorem De3 {Q : Exit → Act → World → Prop} {W0 : World} {R0 : World → Prop} {R1 : World → Prop} {R2 : World → Prop} {q : Nat} {w : World} {nm : ByteArray} {v0 v1 vl : Value} {p : Pt} {k : Nat} {a0 : Act} (hf : sender p k = 0 ∨ sender p k = 1)
    (sz0 : a0.tmps.size = 54) (e2 : a0.eval (.tmp 2) = .pointer (some ⟨q, 0, none⟩)) (e1 : a0.eval (.tmp 1) = .int .i64 (k : Int)) (e5 : a0.eval (.tmp 5) = .int .i64 (sender p k))
    (h0 : R0 W0.drew)
    (HS0 : ∀ Y, R0 Y → (fun Y : World => PB q w nm v0 v1 vl Y) Y)
    (HS1 : ∀ Y, R1 Y → (fun Y : World => PB q w nm v0 v1 vl Y) Y)
    (HS2 : ∀ Y, R2 Y → (fun Y : World => PB q w nm v0 v1 vl Y) Y)
    (HK0 : Hid (∀ Y, R0 Y → Calls Tryd.prog 54 #[.int .i64 (1 - sender p k)] Y fun e w' => e = .returned (.int .i64 (stc (1 - sender p k))) ∧ R1 w'))
    (HK1 : Hid (∀ Y, R1 Y → Calls Tryd.prog 53 #[.agg #[.string nm, v0, v1, vl], .int .i64 (k : Int), .int .i64 (stc (1 - sender p k))] Y fun e w' => e = .returned (.bool (dn p k (stc (1 - sender p k)))) ∧ R2 w'))
    (HPN : ∀ c (a : Act) d v w, Q (.panic c) (a.put d v) w → Q (.panic c) a w)
    (H : ∀ Y, R2 Y → Q .normal (((((((a0.put (some 16) (.agg #[.string nm, v0, v1, vl])).put (some 17) (.int .i64 (k : Int))).put (some 18) (.int .i64 (sender p k))).put (some 19) (.int .i64 (1 - sender p k))).put (some 20) (.int .i64 (stc (1 - sender p k)))).put (some 21) (.bool (dn p k (stc (1 - sender p k))))).put (some 7) (.bool (dn p k (stc (1 - sender p k))))) Y) : Code.wp Tryd.prog rgDe3 Q a0 W0 := by
  rw [rgDe3_is]
  refine wp_region_held_drew (S := (fun Y : World => PB q w nm v0 v1 vl Y)) (by kernel_rfl) (HS0 _ h0) (fun hH => ?_)
  refine wpAnyH_as (l' := #[false, false, false, false, false, false, false]) (by kernel_rfl) ?_
  have st0 := h0
  refine takeH (v := .agg #[.string nm, v0, v1, vl]) opDe3_0 opDe3_ns (by kernel_rfl) (by kernel_rfl) HPN (fun w hw o ho => run_ldP ho e2 w hw.row) (HS0 _ h0) ?_
  refine wpAnyH_as (l' := #[true, false, false, false, false, false, false]) (by kernel_rfl) ?_
  obtain ⟨a1, ha1⟩ : ∃ a' : Act, a' = a0.put (some 16) (.agg #[.string nm, v0, v1, vl]) := ⟨_, rfl⟩
  rw [← ha1]
  have sz1 : a1.tmps.size = 54 := by rw [ha1, size_put]; exact sz0
  have e1_1 : a1.eval (.tmp 1) = .int .i64 (k : Int) := by rw [ha1, eval_put_ne _ _ _ _ (by decide)]; exact e1
  have e1_5 : a1.eval (.tmp 5) = .int .i64 (sender p k) := by rw [ha1, eval_put_ne _ _ _ _ (by decide)]; exact e5
  have e1_16 : a1.eval (.tmp 16) = .agg #[.string nm, v0, v1, vl] := by rw [ha1]; exact eval_put_eq _ _ _ (by rw [sz0]; decide)
  refine takeH (v := .int .i64 (k : Int)) opDe3_1 opDe3_ns (by kernel_rfl) (by kernel_rfl) HPN (fun w hw o ho => run_move ho e1_1 w) (HS0 _ h0) ?_
  refine wpAnyH_as (l' := #[true, true, false, false, false, false, false]) (by kernel_rfl) ?_
  obtain ⟨a2, ha2⟩ : ∃ a' : Act, a' = a1.put (some 17) (.int .i64 (k : Int)) := ⟨_, rfl⟩
  rw [← ha2]
  have sz2 : a2.tmps.size = 54 := by rw [ha2, size_put]; exact sz1
  have e2_5 : a2.eval (.tmp 5) = .int .i64 (sender p k) := by rw [ha2, eval_put_ne _ _ _ _ (by decide)]; exact e1_5
  have e2_16 : a2.eval (.tmp 16) = .agg #[.string nm, v0, v1, vl] := by rw [ha2, eval_put_ne _ _ _ _ (by decide)]; exact e1_16
  have e2_17 : a2.eval (.tmp 17) = .int .i64 (k : Int) := by rw [ha2]; exact eval_put_eq _ _ _ (by rw [sz1]; decide)
  refine takeH (v := .int .i64 (sender p k)) opDe3_2 opDe3_ns (by kernel_rfl) (by kernel_rfl) HPN (fun w hw o ho => run_move ho e2_5 w) (HS0 _ h0) ?_
  refine wpAnyH_as (l' := #[true, true, true, false, false, false, false]) (by kernel_rfl) ?_
  obtain ⟨a3, ha3⟩ : ∃ a' : Act, a' = a2.put (some 18) (.int .i64 (sender p k)) := ⟨_, rfl⟩
  rw [← ha3]
  have sz3 : a3.tmps.size = 54 := by rw [ha3, size_put]; exact sz2
  have e3_16 : a3.eval (.tmp 16) = .agg #[.string nm, v0, v1, vl] := by rw [ha3, eval_put_ne _ _ _ _ (by decide)]; exact e2_16
  have e3_17 : a3.eval (.tmp 17) = .int .i64 (k : Int) := by rw [ha3, eval_put_ne _ _ _ _ (by decide)]; exact e2_17
  have e3_18 : a3.eval (.tmp 18) = .int .i64 (sender p k) := by rw [ha3]; exact eval_put_eq _ _ _ (by rw [sz2]; decide)
  refine takeH (v := .int .i64 (1 - sender p k)) opDe3_3 opDe3_ns (by kernel_rfl) (by kernel_rfl) HPN (fun w hw o ho => run_sub1 hf ho e3_18 w) (HS0 _ h0) ?_
  refine wpAnyH_as (l' := #[true, true, true, true, false, false, false]) (by kernel_rfl) ?_
  obtain ⟨a4, ha4⟩ : ∃ a' : Act, a' = a3.put (some 19) (.int .i64 (1 - sender p k)) := ⟨_, rfl⟩
  rw [← ha4]
  have sz4 : a4.tmps.size = 54 := by rw [ha4, size_put]; exact sz3
  have e4_16 : a4.eval (.tmp 16) = .agg #[.string nm, v0, v1, vl] := by rw [ha4, eval_put_ne _ _ _ _ (by decide)]; exact e3_16
  have e4_17 : a4.eval (.tmp 17) = .int .i64 (k : Int) := by rw [ha4, eval_put_ne _ _ _ _ (by decide)]; exact e3_17
  have e4_19 : a4.eval (.tmp 19) = .int .i64 (1 - sender p k) := by rw [ha4]; exact eval_put_eq _ _ _ (by rw [sz3]; decide)
  refine readyH opDe3_4 (by kernel_rfl) (fun o ho hd => wpCall (v := .int .i64 (stc (1 - sender p k))) ho hd (args := #[.int .i64 (1 - sender p k)]) (by simp only [List.map_toArray, List.map_cons, List.map_nil, e4_19] <;> rfl) (fun _ => rfl) (HK0.out  _ st0) (fun w5 st5 => ⟨(HS1  _ st5), ?_⟩))
  refine wpAnyH_as (l' := #[true, true, true, true, true, false, false]) (by kernel_rfl) ?_
  obtain ⟨a5, ha5⟩ : ∃ a' : Act, a' = a4.put (some 20) (.int .i64 (stc (1 - sender p k))) := ⟨_, rfl⟩
  rw [← ha5]
  have sz5 : a5.tmps.size = 54 := by rw [ha5, size_put]; exact sz4
  have e5_16 : a5.eval (.tmp 16) = .agg #[.string nm, v0, v1, vl] := by rw [ha5, eval_put_ne _ _ _ _ (by decide)]; exact e4_16
  have e5_17 : a5.eval (.tmp 17) = .int .i64 (k : Int) := by rw [ha5, eval_put_ne _ _ _ _ (by decide)]; exact e4_17
  have e5_20 : a5.eval (.tmp 20) = .int .i64 (stc (1 - sender p k)) := by rw [ha5]; exact eval_put_eq _ _ _ (by rw [sz4]; decide)
  refine readyH opDe3_5 (by kernel_rfl) (fun o ho hd => wpCall (v := .bool (dn p k (stc (1 - sender p k)))) ho hd (args := #[.agg #[.string nm, v0, v1, vl], .int .i64 (k : Int), .int .i64 (stc (1 - sender p k))]) (by simp only [List.map_toArray, List.map_cons, List.map_nil, e5_16, e5_17, e5_20] <;> rfl) (fun _ => rfl) (HK1.out  _ st5) (fun w6 st6 => ⟨(HS2  _ st6), ?_⟩))
  refine wpAnyH_as (l' := #[true, true, true, true, true, true, false]) (by kernel_rfl) ?_
  obtain ⟨a6, ha6⟩ : ∃ a' : Act, a' = a5.put (some 21) (.bool (dn p k (stc (1 - sender p k)))) := ⟨_, rfl⟩
  rw [← ha6]
  have sz6 : a6.tmps.size = 54 := by rw [ha6, size_put]; exact sz5
  have e6_21 : a6.eval (.tmp 21) = .bool (dn p k (stc (1 - sender p k))) := by rw [ha6]; exact eval_put_eq _ _ _ (by rw [sz5]; decide)
  refine readyH opDe3_6 (by kernel_rfl) (fun o ho hd => wpRun (v := .bool (dn p k (stc (1 - sender p k)))) (w' := _) hd (run_assign ho e6_21 _) ⟨(HS2  _ st6), ?_⟩)
  refine wpAnyH_as (l' := #[true, true, true, true, true, true, true]) (by kernel_rfl) ?_
  refine wpAnyH_done (by kernel_rfl) ?_ _
  obtain ⟨a7, ha7⟩ : ∃ a' : Act, a' = a6.put (some 7) (.bool (dn p k (stc (1 - sender p k)))) := ⟨_, rfl⟩
  rw [← ha7]
  have sz7 : a7.tmps.size = 54 := by rw [ha7, size_put]; exact sz6
  rw [ha7, ha6, ha5, ha4, ha3, ha2, ha1]
  exact H  _ st6
end Go.Proofs.YtjhleocpipmklaaDoor
namespace Go.Proofs.YtjhleocpipmklaaDoor
set_option linter.unusedSimpArgs false
set_option linter.unusedVariables false
open Go.ChangeShapes Go.WideShapes Go.ChangeAt Go.RowKit Go.Pin Go.Pat
set_option maxRecDepth 100000 in
set_option maxHeartbeats 4000000 in
theorem source_any (v : Value) (p : Pt) (w : World) (h : RdP w v p) (hv : ∀ l ∈ p.ln, l.1 = 0 ∨ l.1 = 1) (k : Nat) (hk : k ≤ 1000) :
    Calls Tryd.prog 30 #[v, .int .i64 (k : Int)] w fun e w' => e = .returned (.int .i64 (src p k)) ∧ Below w.heap.size w w' := by
  have hse := fun (W : World) (hW : Below w.heap.size w W) => sender_any v p W (h.below hW) hv k hk
  have hdn := fun (t : Int) (W : World) (hW : Below w.heap.size w W) => done_any v p W (h.below hW) k hk t
  obtain ⟨v0, v1, vl, rfl, h0, h1, hl⟩ := h
  have hst := pb_start w p.nm v0 v1 vl
  obtain ⟨q, hq⟩ : ∃ q, w.heap.size = q := ⟨_, rfl⟩
  obtain ⟨nm, hnm⟩ : ∃ nm, p.nm = nm := ⟨_, rfl⟩
  simp only [hq, hnm] at hst hse hdn ⊢
  obtain ⟨W, hW⟩ : ∃ W, w.alloc (.cells #[.string nm, v0, v1, vl] 26) = W := ⟨_, rfl⟩
  rw [hW] at hst
  have HP : Hid (PB q w nm v0 v1 vl W) := hst
  have HSE : Hid _ := hse
  have HDN : Hid _ := hdn
  clear hst h0 h1 hl hse hdn
  go_enter Tryd.func30, Tryd.ntmps30
  go_upto_region 1 with fail
  refine wp_as (c' := rgSo1) (by kernel_rfl) ?_
  refine So1 (q := q) (w := w) (nm := nm) (v0 := v0) (v1 := v1) (vl := vl) (p := p) (k := k) (R0 := PB q w nm v0 v1 vl) (R1 := PB q w nm v0 v1 vl) (R2 := PB q w nm v0 v1 vl) (R3 := PB q w nm v0 v1 vl) rfl rfl rfl ⟨drew_below HP.out.old, HP.out.lt, HP.out.row⟩ (fun _ h => h) (fun _ h => h) (fun _ h => h) (fun _ h => h) (fun Y hY => (HSE.out Y hY.old).mono (fun e w' he => ⟨he.1, hY.below he.2⟩)) (fun Y hY => (static_any _ Y).mono (fun e w' he => ⟨he.1, by rw [he.2]; exact hY⟩)) (fun Y hY => (HDN.out _ Y hY.old).mono (fun e w' he => ⟨he.1, hY.below he.2⟩)) (fun _ _ d _ _ h => by cases d <;> exact h) ?_
  intro Y hY
  have HY : Hid (PB q w nm v0 v1 vl Y) := hY
  have c0 := hY.c0
  have c1 := hY.c1
  have c2 := hY.c2
  have c3 := hY.c3
  rcases e1 : dn p k (stc (sender p k)) with _ | _
  · rcases e2 : dn p k 6 with _ | _
    all_goals
      have HD6 := HDN.out 6 Y hY.old
      rw [e2] at HD6
      have HR : Hid (src p k = if dn p k 6 then 1 else 0) := by show src p k = _; simp [src, e1]
      rw [e2] at HR
      clear hY
      go_wp2_with (go_at_call 53; refine Calls.mono HD6 ?_; rintro e w' ⟨rfl, hw⟩; have HW : Hid (PB q w nm v0 v1 vl w') := HY.out.below hw; clear hw)
      go_ret
      exact ⟨by rw [HR.out]; rfl, HW.out.old⟩
  · have HR : Hid (src p k = 2) := by show src p k = 2; simp [src, e1]
    clear hY
    go_wp2
    go_ret
    exact ⟨by rw [HR.out]; rfl, HY.out.old⟩
end Go.Proofs.YtjhleocpipmklaaDoor
namespace Go.Proofs.YtjhleocpipmklaaDoor
set_option linter.unusedSimpArgs false
set_option linter.unusedVariables false
open Go.ChangeShapes Go.WideShapes Go.ChangeAt Go.RowKit Go.Pin Go.Pat
set_option maxRecDepth 100000 in
set_option maxHeartbeats 4000000 in
theorem dest_any (v : Value) (p : Pt) (w : World) (h : RdP w v p) (hv : ∀ l ∈ p.ln, l.1 = 0 ∨ l.1 = 1) (k : Nat) (hk : k ≤ 1000) :
    Calls Tryd.prog 31 #[v, .int .i64 (k : Int)] w fun e w' => e = .returned (.int .i64 (dst p k)) ∧ Below w.heap.size w w' := by
  have hse := fun (i : Nat) (hi : i ≤ 1000) (W : World) (hW : Below w.heap.size w W) => sender_any v p W (h.below hW) hv i hi
  have hso := fun (i : Nat) (hi : i ≤ 1000) (W : World) (hW : Below w.heap.size w W) => source_any v p W (h.below hW) hv i hi
  have hdn := fun (t : Int) (W : World) (hW : Below w.heap.size w W) => done_any v p W (h.below hW) k hk t
  obtain ⟨v0, v1, vl, rfl, h0, h1, hl⟩ := h
  have hst := pb_start w p.nm v0 v1 vl
  obtain ⟨q, hq⟩ : ∃ q, w.heap.size = q := ⟨_, rfl⟩
  obtain ⟨nm, hnm⟩ : ∃ nm, p.nm = nm := ⟨_, rfl⟩
  simp only [hq, hnm] at hst hse hso hdn ⊢
  obtain ⟨W, hW⟩ : ∃ W, w.alloc (.cells #[.string nm, v0, v1, vl] 26) = W := ⟨_, rfl⟩
  rw [hW] at hst
  have HP : Hid (PB q w nm v0 v1 vl W) := hst
  have HSE : Hid _ := hse
  have HSO : Hid _ := hso
  have HDN : Hid _ := hdn
  have HK : Hid (k ≤ 1000) := hk
  have HF : Hid (sender p k = 0 ∨ sender p k = 1) := sender_in p hv k
  have c0 := hst.c0
  have c1 := hst.c1
  have c2 := hst.c2
  have c3 := hst.c3
  clear hst h0 h1 hl hse hso hdn hv
  go_enter Tryd.func31, Tryd.ntmps31
  go_upto_region 2 with (go_at_call 29; refine Calls.mono (HSE.out k HK.out _ HP.out.old) ?_; rintro e w1 ⟨rfl, hw⟩; have HW1 : Hid (PB q w nm v0 v1 vl w1) := HP.out.below hw; clear hw c0 c1 c2 c3; have c0 := HW1.out.c0; have c1 := HW1.out.c1; have c2 := HW1.out.c2; have c3 := HW1.out.c3)
  go_upto_region 3 with (go_at_call 53; refine Calls.mono (HDN.out 3 _ HW1.out.old) ?_; rintro e w2 ⟨rfl, hw⟩; have HW2 : Hid (PB q w nm v0 v1 vl w2) := HW1.out.below hw; clear hw)
  refine wp_as (c' := rgDe3) (by kernel_rfl) ?_
  refine De3 (q := q) (w := w) (nm := nm) (v0 := v0) (v1 := v1) (vl := vl) (p := p) (k := k) (R0 := PB q w nm v0 v1 vl) (R1 := PB q w nm v0 v1 vl) (R2 := PB q w nm v0 v1 vl) HF.out rfl rfl rfl rfl ⟨drew_below HW2.out.old, HW2.out.lt, HW2.out.row⟩ (fun _ h => h) (fun _ h => h) (fun _ h => h) (fun Y hY => (static_any _ Y).mono (fun e w' he => ⟨he.1, by rw [he.2]; exact hY⟩)) (fun Y hY => (HDN.out _ Y hY.old).mono (fun e w' he => ⟨he.1, hY.below he.2⟩)) (fun _ _ d _ _ h => by cases d <;> exact h) ?_
  intro Y hY
  have HY : Hid (PB q w nm v0 v1 vl Y) := hY
  obtain ⟨f, hf⟩ : ∃ f, sender p k = f := ⟨_, rfl⟩
  obtain ⟨ee, hee⟩ : ∃ ee, dn p k 3 = ee := ⟨_, rfl⟩
  obtain ⟨th, hth⟩ : ∃ th, dn p k (stc (1 - sender p k)) = th := ⟨_, rfl⟩
  have hds : dst p k = if ee = false ∧ th = false then 0 else if th = false then 1 else if ee = false then 2 else 3 + bst p f k := by unfold dst; rw [hee, hth, hf]
  simp only [hee, hth]
  rw [hf] at hth
  simp only [hf]
  have HD : Hid _ := hds
  clear hY hee hth hds c0 c1 c2 c3
  rcases ee with _ | _ <;> rcases th with _ | _
  · go_wp2
    go_ret
    exact ⟨by rw [HD.out]; rfl, HY.out.old⟩
  · go_wp2
    go_ret
    exact ⟨by rw [HD.out]; rfl, HY.out.old⟩
  · go_wp2
    go_ret
    exact ⟨by rw [HD.out]; rfl, HY.out.old⟩
  go_wp2
  go_loopw [8, 9] (fun v8 v9 wr => ∃ i : Nat, i ≤ k ∧ v9 = .int .i64 i ∧ v8 = .int .i64 (bst p f i) ∧ PB q w nm v0 v1 vl wr) (fun _ v _ => k - (intOf v).toNat)
  case atStart => exact ⟨0, Nat.zero_le _, rfl, rfl, HY.out⟩
  case round =>
    obtain ⟨i, hi, rfl, rfl, hp⟩ := hrel
    by_cases hlt : i < k
    · have b1 : (i : Int) < (k : Int) := by omega
      have c0 := hp.c0
      have c1 := hp.c1
      have c2 := hp.c2
      have c3 := hp.c3
      have HPR : Hid (PB q w nm v0 v1 vl wr) := hp
      have HI : Hid (i < k ∧ i ≤ 1000) := ⟨hlt, by have := HK.out; omega⟩
      have hbs : bst p f (i + 1) = if sender p i ≠ f ∧ src p i > bst p f i then src p i else bst p f i := rfl
      have CS := HSE.out i HI.out.2
      have CO := HSO.out i HI.out.2
      obtain ⟨g, hg⟩ : ∃ g, sender p i = g := ⟨_, rfl⟩
      obtain ⟨r, hr⟩ : ∃ r, src p i = r := ⟨_, rfl⟩
      obtain ⟨s0, hs0⟩ : ∃ s0, bst p f i = s0 := ⟨_, rfl⟩
      rw [hg, hr, hs0] at hbs
      rw [hg] at CS
      rw [hr] at CO
      rw [hs0]
      have HCS : Hid _ := CS
      have HCO : Hid _ := CO
      have HB : Hid (bst p f (i + 1) = if g ≠ f ∧ r > s0 then r else s0) := hbs
      clear hp hi hbs CS CO hg hr hs0 hlt
      by_cases hgf : g = f
      · subst hgf
        rw [if_neg (by simp)] at HB
        go_wp2_with (go_at_call 29; refine Calls.mono (HCS.out _ HPR.out.old) ?_; rintro e w1 ⟨rfl, hw⟩; have HW3 : Hid (PB q w nm v0 v1 vl w1) := HPR.out.below hw; clear hw)
        exact ⟨⟨i + 1, HI.out.1, congrArg (Value.int .i64) (Int.natCast_succ i).symm, by rw [HB.out], HW3.out⟩, measP HI.out.1⟩
      · have hgb : (g == f) = false := by simpa using hgf
        have hgn : (g != f) = true := by simpa using hgf
        by_cases hrs : s0 < r
        · rw [if_pos ⟨hgf, hrs⟩] at HB
          go_wp2_with (first | (go_at_call 29; refine Calls.mono (HCS.out _ HPR.out.old) ?_; rintro e w1 ⟨rfl, hw⟩; have HW3 : Hid (PB q w nm v0 v1 vl w1) := HPR.out.below hw; clear hw; have d0 := HW3.out.c0; have d1 := HW3.out.c1; have d2 := HW3.out.c2; have d3 := HW3.out.c3) | (go_at_call 30; have HQQ := HW4.out; refine Calls.mono (HCO.out _ HW4.out.old) ?_; rintro e w3 ⟨rfl, hw⟩; have HW5 : Hid (PB q w nm v0 v1 vl w3) := HW4.out.below hw; clear hw HQQ) | (go_at_call 30; refine Calls.mono (HCO.out _ HW3.out.old) ?_; rintro e w2 ⟨rfl, hw⟩; have HW4 : Hid (PB q w nm v0 v1 vl w2) := HW3.out.below hw; clear hw; have g0 := HW4.out.c0; have g1 := HW4.out.c1; have g2 := HW4.out.c2; have g3 := HW4.out.c3))
          exact ⟨⟨i + 1, HI.out.1, congrArg (Value.int .i64) (Int.natCast_succ i).symm, by rw [HB.out], HW5.out⟩, measP HI.out.1⟩
        · rw [if_neg (fun hh => hrs hh.2)] at HB
          go_wp2_with (first | (go_at_call 29; refine Calls.mono (HCS.out _ HPR.out.old) ?_; rintro e w1 ⟨rfl, hw⟩; have HW3 : Hid (PB q w nm v0 v1 vl w1) := HPR.out.below hw; clear hw; have d0 := HW3.out.c0; have d1 := HW3.out.c1; have d2 := HW3.out.c2; have d3 := HW3.out.c3) | (go_at_call 30; refine Calls.mono (HCO.out _ HW3.out.old) ?_; rintro e w2 ⟨rfl, hw⟩; have HW4 : Hid (PB q w nm v0 v1 vl w2) := HW3.out.below hw; clear hw; have g0 := HW4.out.c0; have g1 := HW4.out.c1; have g2 := HW4.out.c2; have g3 := HW4.out.c3))
          exact ⟨⟨i + 1, HI.out.1, congrArg (Value.int .i64) (Int.natCast_succ i).symm, by rw [HB.out], HW4.out⟩, measP HI.out.1⟩
    · have b1 : ¬ (i : Int) < (k : Int) := by omega
      have hik : i = k := by omega
      subst hik
      have hb := bst_in p f i
      have HPR : Hid (PB q w nm v0 v1 vl wr) := hp
      have hw3 : wrap64 (3 + bst p f i) = 3 + bst p f i := IntWalk.wrap64_in _ ⟨by omega, by omega⟩
      clear hp hi
      go_wp2
      go_ret
      exact ⟨by rw [HD.out]; simp, HPR.out.old⟩
end Go.Proofs.YtjhleocpipmklaaDoor
/- lists of one's own that grow by one; append in a drawn region and outside of one -/
namespace Go.Proofs.YtjhleocpipmklaaDoor
set_option linter.unusedSimpArgs false
set_option linter.unusedVariables false
open Go.ChangeShapes Go.WideShapes Go.ChangeAt Go.RowKit Go.Pin Go.Pat
theorem wpApp {P : Program} {o : Oper} {a : Act} {w : World} {K : Act → World → Prop} {Q : Exit → Act → World → Prop} {s x : Operand} {t : TypeId} {v u : Value} {R : Value → World → Prop} {d : Option Nat}
    (ho : o.op = .call { callee := .builtin .append, args := #[s, x], argTypes := #[t, t] }) (hd : o.dst = d) (hs : a.eval s = v) (hx : a.eval x = u) (hr : ∀ ty, ∃ v' w', (Builtin.append_ #[t, t] ty #[v, u]).run P w = .ok v' w' ∧ R v' w') (h : ∀ v' w', R v' w' → K (a.put d v') w') : Oper.wp P o a w K Q := by
  subst hd
  obtain ⟨v', w', h1, h2⟩ := hr o.type
  unfold Oper.wp execOp
  simp only [ho, resolve, invoke, builtin, Sem.run_bind, Sem.run_pure, Result.andThen_ok, List.map_toArray, List.map_cons, List.map_nil, hs, hx, h1]
  exact h v' w' h2
theorem wpList_app {P : Program} (w : World) {ops : Array Oper} {rest : List Oper} {o : Oper} {a : Act} {Q : Exit → Act → World → Prop} {R : Value → World → Prop} (hgd : o.guard = none) (d s : Operand) (t t' : TypeId)
    (ho : o.op = .call { callee := .builtin .append, args := #[d, s], argTypes := #[t, t'] }) (v u : Value) (hd : a.eval d = v) (hs : a.eval s = u)
    (hr : ∀ ty, ∃ v' w', (Builtin.append_ #[t, t'] ty #[v, u]).run P w = .ok v' w' ∧ R v' w') (h : ∀ v' w', R v' w' → wpList P ops Q rest (a.put o.dst v') w') : wpList P ops Q (o :: rest) a w :=
  wpList_plain hgd fun _ hK => by
    obtain ⟨v', w', h1, h2⟩ := hr o.type
    unfold Oper.wp execOp
    simp only [ho, resolve, invoke, builtin, Sem.run_bind, Sem.run_pure, Result.andThen_ok, List.map_toArray, List.map_cons, List.map_nil, hd, hs, h1]
    exact hK _ _ (h v' w' h2)
theorem owns_below {w w' : World} (hb : Below w.heap.size w w') {b : Nat} {e : TypeId} {size : Nat} {v : Value} {n : Nat} {xs : List Value} (ho : w.ownsRow b e size v n xs) : w'.ownsRow b e size v n xs := by
  refine ⟨ho.1, ?_⟩
  rcases ho.2 with h0 | ⟨g, cap, cur, rfl, h1, hg, hr⟩
  · exact .inl h0
  · exact .inr ⟨g, cap, cur, rfl, h1, (hb.block g (Array.getElem?_eq_some_iff.1 hg).1).trans hg, hr⟩
theorem own_app {t e : TypeId} {z : Value} {k by_ : Nat} (hU : Tryd.prog.underlying t = some (.slice e)) (hI : (Tryd.prog.info? e).map (fun i => (i.zero, i.size, i.bytes)) = some (some z, k, by_)) (hz : z.cells.size = k) (hk : 0 < k)
    {w : World} {b : Nat} {v : Value} {n : Nat} {xs : List Value} (hown : w.ownsRow b e k v n xs) {a : Nat} {news : List Value} {t' : TypeId} {fr : Nat × Nat} (hc : w.heap[a]? = some (.cells news.toArray t' fr)) (hl : news.length = k) (h1 : ∀ u ∈ news, u.oneCell' = true) (hn : (n + 1) * by_ ≤ 140737488355328) (hn2 : n + 1 ≤ 140737488355328) (hb : b ≤ w.heap.size) :
    ∀ ty, ∃ v' w', (Builtin.append_ #[t, t] ty #[v, .slice (some ⟨a, 0, none⟩) 1 1]).run Tryd.prog w = .ok v' w' ∧ (w'.ownsRow b e k v' (n + 1) (xs ++ news) ∧ w.grownBy w' v.ownBlock ∧ (v'.ownBlock = v.ownBlock ∨ v'.ownBlock = some w.heap.size)) := fun ty => by
  obtain ⟨i, i1, hz'⟩ := Option.map_eq_some_iff.1 hI
  simp only [Prod.mk.injEq] at hz'
  obtain ⟨i2, i3, i4⟩ := hz'
  obtain ⟨v', w', hr, h2, h3, _, h5⟩ := run_append_own_at (P := Tryd.prog) w b t ty e i z k by_ hU i1 i2 i3 i4 hz hk v n xs hown ⟨a, 0, none⟩ 1 1 news (by rw [hl, Nat.one_mul]) (fun j u hu => by
    rw [add_mid, Nat.zero_add, cell_of_row _ _ _ _ _ _ hc, ← hu]; simp) h1 (by unfold maxLen; omega) hn hb
  exact ⟨v', w', hr, h2, h3, h5⟩
/-- what grows at its own list leaves all below it -/
theorem grown_below {w w' W : World} {q b : Nat} {e : TypeId} {k n : Nat} {v : Value} {xs : List Value} (hb : Below q W w) (ho : w.ownsRow b e k v n xs) (hq : q ≤ b) (hq2 : q ≤ w.heap.size) (hg : w.grownBy w' v.ownBlock) : Below q W w' :=
  hb.grown hg hq2 (fun k hk => by have := (ho.lt k hk).1; omega)
theorem parts_str : (Tryd.prog.info? 9).map (fun i => (i.zero, i.size, i.bytes)) = some (some (.string ⟨#[]⟩), 1, 16) := by kernel_rfl
theorem parts_int : (Tryd.prog.info? 3).map (fun i => (i.zero, i.size, i.bytes)) = some (some (.int .i64 0), 1, 8) := by kernel_rfl
theorem own_nil0 (w : World) (b : Nat) (e : TypeId) (k : Nat) : w.ownsRow b e k (.slice none 0 0) 0 [] := ⟨by simp, .inl ⟨rfl, rfl⟩⟩
/-- texts that are read -/
def RdS (w : World) (v : Value) (L : List ByteArray) : Prop :=
  ∃ a cap, v = .slice a L.length cap ∧ ∀ j, j < L.length → ∃ b o, a = some ⟨b, o, none⟩ ∧ w.cell? ⟨b, o + j, none⟩ = some (.string (L.getD j ⟨#[]⟩))
theorem RdS.below {w W : World} {v : Value} {L : List ByteArray} (h : RdS w v L) (hb : Below w.heap.size w W) : RdS W v L := by
  obtain ⟨a, c, e, h3⟩ := h
  refine ⟨a, c, e, fun j hj => ?_⟩
  obtain ⟨b, o, g1, g2⟩ := h3 j hj
  exact ⟨b, o, g1, cell_below hb g2⟩
theorem own_cell {w : World} {b : Nat} {e : TypeId} {k n : Nat} {a : Option Addr} {m cap : Nat} {xs : List Value} (h : w.ownsRow b e k (.slice a m cap) n xs) : m = n ∧ ∀ j u, xs[j]? = some u → ∃ g, a = some ⟨g, 0, none⟩ ∧ b ≤ g ∧ w.cell? ⟨g, j, none⟩ = some u := by
  rcases h.2 with ⟨e', e2⟩ | ⟨g, cap', cur, e', hb, hg, h1, h2, h3, h4⟩
  · injection e' with e1 e3 e4
    refine ⟨by omega, fun j u hu => ?_⟩
    have := h.1
    have := (List.getElem?_eq_some_iff.1 hu).1
    subst e2
    omega
  · injection e' with e1 e2 e3
    refine ⟨e2, fun j u hu => ⟨g, e1, hb, ?_⟩⟩
    have hj := (List.getElem?_eq_some_iff.1 hu).1
    rw [h.1] at hj
    rw [cell_of_row _ _ _ _ _ _ hg, ← hu, ← h4, List.getElem?_take_of_lt hj]
    simp
theorem own_slice' {w : World} {b : Nat} {e : TypeId} {k n : Nat} {v : Value} {xs : List Value} (h : w.ownsRow b e k v n xs) : ∃ a cap, v = .slice a n cap := by
  rcases h.2 with ⟨rfl, rfl⟩ | ⟨g, cap, cur, rfl, _⟩
  · exact ⟨_, _, rfl⟩
  · exact ⟨_, _, rfl⟩
theorem own_strs {w : World} {b : Nat} {v : Value} {L : List ByteArray} (h : w.ownsRow b 9 1 v L.length (L.map Value.string)) : RdS w v L := by
  obtain ⟨a, cap, rfl⟩ := own_slice' h
  refine ⟨a, cap, rfl, fun j hj => ?_⟩
  obtain ⟨g, e, _, hc⟩ := (own_cell h).2 j (.string (L.getD j ⟨#[]⟩)) (by simp [List.getD, hj])
  exact ⟨g, 0, e, by rw [Nat.zero_add]; exact hc⟩
theorem own_ints {w : World} {b : Nat} {v : Value} {C : List Int} (h : w.ownsRow b 3 1 v C.length (C.map (Value.int .i64))) (hC : C.length ≤ 140737488355328) : RdN w v C := by
  rcases h.2 with ⟨rfl, e2⟩ | ⟨g, cap', cur, rfl, hb, hg, h1, h2, h3, h4⟩
  · obtain rfl : C = [] := List.length_eq_zero_iff.1 e2
    exact ⟨none, 0, rfl, ⟨Nat.le_refl _, fun _ => rfl⟩, hC, .inl rfl⟩
  · refine ⟨_, cap', rfl, ⟨h1, fun h => nomatch h⟩, hC, .inr ⟨g, 0, rfl, fun j u hu => ?_⟩⟩
    obtain ⟨g', e, _, hc⟩ := (own_cell h).2 j u hu
    injection e with e
    injection e with e
    subst e
    rw [Nat.zero_add]
    exact hc
end Go.Proofs.YtjhleocpipmklaaDoor
