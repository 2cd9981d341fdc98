import Derived.Test.YtfkbgodfcnmepabDoorDgNx
import Derived.Test.YtfkbgodfcnmepabDoorEngB
namespace Go.Proofs.YtfkbgodfcnmepabDoor
set_option linter.unusedSimpArgs false
set_option linter.unusedVariables false
open Go.ChangeShapes Go.WideShapes Go.ChangeAt Go.RowKit Go.Pin Go.Str Go.Dig
theorem wpRun {P : Program} {o : Oper} {a : Act} {w w' : World} {v : Value} {d : Option Nat} {K : Act → World → Prop} {Q : Exit → Act → World → Prop} (hd : o.dst = d) (hrun : (execOp a.eval o).run P w = .ok (.value v) w') (h : K (a.put d v) w') : Oper.wp P o a w K Q := by
  subst hd
  unfold Oper.wp
  rw [hrun]
  exact h
theorem wpCallX {α : Type} {P : Program} {o : Oper} {a : Act} {w : World} {K : Act → World → Prop} {Q : Exit → Act → World → Prop} {f : Nat} {xs : Array Operand} {ts : Array TypeId} {args : Array Value} {v : α → Value} {R : α → World → Prop} {d : Option Nat}
    (ho : o.op = .call { callee := .value (.func f), args := xs, argTypes := ts }) (hd : o.dst = d) (ha : xs.map a.eval = args) (hen : ∀ w, (callFunc f args).run P w = .ok (.enter f args) w) (hc : Calls P f args w fun e w' => ∃ x, e = .returned (v x) ∧ R x w') (h : ∀ x w', R x w' → K (a.put d (v x)) w') : Oper.wp P o a w K Q := by
  subst hd
  unfold Oper.wp execOp
  simp only [ho]
  go_simp
  refine hc.mono ?_
  rintro e w' ⟨x, rfl, hr⟩
  exact h x w' hr
section
variable {a : Act} {o : Oper} {x y : Operand} {g : Nat}
theorem run_assign {P : Program} {v : Value} (ho : o.op = .assign x) (he : a.eval x = v) (w : World) : (execOp a.eval o).run P w = .ok (.value v) w := by
  unfold execOp
  simp only [ho, he]
  rfl
theorem run_fH0 (ho : o.op = .fieldAddr 51 x 0) (he : a.eval x = .pointer (some ⟨g, 0, none⟩)) (w : World) : (execOp a.eval o).run Tryd.prog w = .ok (.value (.pointer (some ⟨g, 0, none⟩))) w := by
  unfold execOp
  simp only [ho, he]
  go_simp
theorem run_fH1 (ho : o.op = .fieldAddr 51 x 1) (he : a.eval x = .pointer (some ⟨g, 0, none⟩)) (w : World) : (execOp a.eval o).run Tryd.prog w = .ok (.value (.pointer (some ⟨g, 1, none⟩))) w := by
  unfold execOp
  simp only [ho, he]
  go_simp
theorem run_fH2 (ho : o.op = .fieldAddr 51 x 2) (he : a.eval x = .pointer (some ⟨g, 0, none⟩)) (w : World) : (execOp a.eval o).run Tryd.prog w = .ok (.value (.pointer (some ⟨g, 2, none⟩))) w := by
  unfold execOp
  simp only [ho, he]
  go_simp
theorem run_fH3 (ho : o.op = .fieldAddr 51 x 3) (he : a.eval x = .pointer (some ⟨g, 0, none⟩)) (w : World) : (execOp a.eval o).run Tryd.prog w = .ok (.value (.pointer (some ⟨g, 10, none⟩))) w := by
  unfold execOp
  simp only [ho, he]
  go_simp
theorem run_fH4 (ho : o.op = .fieldAddr 51 x 4) (he : a.eval x = .pointer (some ⟨g, 0, none⟩)) (w : World) : (execOp a.eval o).run Tryd.prog w = .ok (.value (.pointer (some ⟨g, 11, none⟩))) w := by
  unfold execOp
  simp only [ho, he]
  go_simp
theorem run_fH5 (ho : o.op = .fieldAddr 51 x 5) (he : a.eval x = .pointer (some ⟨g, 0, none⟩)) (w : World) : (execOp a.eval o).run Tryd.prog w = .ok (.value (.pointer (some ⟨g, 75, none⟩))) w := by
  unfold execOp
  simp only [ho, he]
  go_simp
theorem run_ldR {f : Nat} {rv : Value} (ho : o.op = .load 37 x) (he : a.eval x = .pointer (some ⟨g, f, none⟩)) (w : World) (hg : w.cell? ⟨g, f, none⟩ = some rv) : (execOp a.eval o).run Tryd.prog w = .ok (.value rv) w := by
  unfold execOp
  simp only [ho, he]
  go_simp
theorem run_ldI {f : Nat} {v : Int} (ho : o.op = .load 3 x) (he : a.eval x = .pointer (some ⟨g, f, none⟩)) (w : World) (hg : w.cell? ⟨g, f, none⟩ = some (.int .i64 v)) : (execOp a.eval o).run Tryd.prog w = .ok (.value (.int .i64 v)) w := by
  unfold execOp
  simp only [ho, he]
  go_simp
theorem run_ldQ {f : Nat} {v : Int} (ho : o.op = .load 48 x) (he : a.eval x = .pointer (some ⟨g, f, none⟩)) (w : World) (hg : w.cell? ⟨g, f, none⟩ = some (.int .u64 v)) : (execOp a.eval o).run Tryd.prog w = .ok (.value (.int .u64 v)) w := by
  unfold execOp
  simp only [ho, he]
  go_simp
theorem run_eq64 {v : Nat} (ho : o.op = .binOp .eql 3 x y 3) (hx : a.eval x = .int .i64 (v : Int)) (hy : a.eval y = .int .i64 64) (w : World) : (execOp a.eval o).run Tryd.prog w = .ok (.value (.bool (decide (v = 64)))) w := by
  unfold execOp
  simp only [ho, hx, hy]
  go_simp
  rw [Bool.eq_iff_iff]
  simp
  omega
theorem run_sl64 {f : Nat} (ho : o.op = .slice 49 x none none none) (he : a.eval x = .pointer (some ⟨g, f, none⟩)) (w : World) : (execOp a.eval o).run Tryd.prog w = .ok (.value (.slice (some ⟨g, f, none⟩) 64 64)) w := by
  unfold execOp
  simp only [ho, he]
  go_simp
/-- what lies from h on; from 64 on it is nothing, and where it stands is not asked -/
theorem run_sl64F {f h : Nat} (hh : h < 64) (ho : o.op = .slice 49 x (some y) none none) (he : a.eval x = .pointer (some ⟨g, f, none⟩)) (hy : a.eval y = .int .i64 (h : Int)) (w : World) : (execOp a.eval o).run Tryd.prog w = .ok (.value (.slice (some ⟨g, f + h, none⟩) (64 - h) (64 - h))) w := by
  have h1 : (h : Int) ≤ 64 := by omega
  have h2 : ¬ (64 : Int) = h := by omega
  have h3 : ¬ (64 : Nat) = h := by omega
  have h4 : ¬ (64 - h = 0) := by omega
  unfold execOp
  simp only [ho, he, Option.map_some, Option.map_none, hy]
  go_simp
  first | done | omega | (constructor <;> omega)
theorem run_sl64T {f h : Nat} (hh : h ≤ 64) (ho : o.op = .slice 49 x none (some y) none) (he : a.eval x = .pointer (some ⟨g, f, none⟩)) (hy : a.eval y = .int .i64 (h : Int)) (w : World) : (execOp a.eval o).run Tryd.prog w = .ok (.value (.slice (some ⟨g, f, none⟩) h 64)) w := by
  have h1 : (h : Int) ≤ 64 := by omega
  unfold execOp
  simp only [ho, he, Option.map_some, Option.map_none, hy]
  go_simp
theorem run_cv {h : Nat} (hh : h ≤ 64) (ho : o.op = .convert 3 48 x) (he : a.eval x = .int .i64 (h : Int)) (w : World) : (execOp a.eval o).run Tryd.prog w = .ok (.value (.int .u64 (h : Int))) w := by
  have hw : IntKind.u64.wrap (h : Int) = h := IntWalk.u64_in _ ⟨by omega, by omega⟩
  unfold execOp
  simp only [ho, he]
  go_simp
theorem run_ad {p h : Nat} (hh : p + h < 18446744073709551616) (ho : o.op = .binOp .add 48 x y 48) (hx : a.eval x = .int .u64 (p : Int)) (hy : a.eval y = .int .u64 (h : Int)) (w : World) : (execOp a.eval o).run Tryd.prog w = .ok (.value (.int .u64 ((p + h : Nat) : Int))) w := by
  have hw : IntKind.u64.wrap ((p : Int) + (h : Int)) = ((p + h : Nat) : Int) := by
    rw [show ((p : Int) + (h : Int)) = ((p + h : Nat) : Int) by omega]
    exact IntWalk.u64_in _ ⟨by omega, by omega⟩
  unfold execOp
  simp only [ho, hx, hy]
  go_simp
end
noncomputable def rgWr2 : Code := ((Tryd.f8.body.bind (findReg 2)).getD .skip)
noncomputable def opWr2 : Array Oper := opsOf rgWr2
theorem rgWr2_is : rgWr2 = .region 2 opWr2 true := by kernel_rfl
theorem opWr2_ns : Region.noSelect opWr2 = true := by kernel_rfl
theorem opWr2_0 : opIs opWr2 0 (.move (.tmp 0)) (some 15) := by unfold opIs; kernel_rfl
theorem opWr2_1 : opIs opWr2 1 (.nilCheck (.tmp 15)) (some 16) := by unfold opIs; kernel_rfl
theorem opWr2_2 : opIs opWr2 2 (.fieldAddr 51 (.tmp 16) 0) (some 17) := by unfold opIs; kernel_rfl
theorem opWr2_3 : opIs opWr2 3 (.load 37 (.tmp 17)) (some 18) := by unfold opIs; kernel_rfl
theorem opWr2_4 : opIs opWr2 4 (.move (.tmp 0)) (some 19) := by unfold opIs; kernel_rfl
theorem opWr2_5 : opIs opWr2 5 (.nilCheck (.tmp 19)) (some 20) := by unfold opIs; kernel_rfl
theorem opWr2_6 : opIs opWr2 6 (.fieldAddr 51 (.tmp 20) 5) (some 21) := by unfold opIs; kernel_rfl
theorem opWr2_7 : opIs opWr2 7 (.load 3 (.tmp 21)) (some 22) := by unfold opIs; kernel_rfl
theorem opWr2_8 : opIs opWr2 8 (.binOp .eql 3 (.tmp 22) (.const (.int .i64 64)) 3) (some 23) := by unfold opIs; kernel_rfl
theorem opWr2_9 : opIs opWr2 9 (.call { callee := .value (.func 16), args := #[.tmp 18, .tmp 23], argTypes := #[37, 4] }) (some 24) := by unfold opIs; kernel_rfl
set_option maxRecDepth 100000 in
set_option maxHeartbeats 4000000 in
theorem Wr2 {Q : Exit → Act → World → Prop} {W : World} {R0 : World → Prop} {R1 : World → Prop} {g h p : Nat} {rv : Value} {c1 c2 c3 c4 c5 c6 c7 c8 c9 c10 c11 c12 c13 c14 c15 c16 c17 c18 c19 c20 c21 c22 c23 c24 c25 c26 c27 c28 c29 c30 c31 c32 c33 c34 c35 c36 c37 c38 c39 c40 c41 c42 c43 c44 c45 c46 c47 c48 c49 c50 c51 c52 c53 c54 c55 c56 c57 c58 c59 c60 c61 c62 c63 c64 c65 c66 c67 c68 c69 c70 c71 c72 c73 c74 c75 c76 c77 c78 c79 c80 c81 : Value}
    (hR0 : R0 W.drew) (HS0 : ∀ Y, R0 Y → (fun Y : World => Y.cell? ⟨g, 0, none⟩ = some rv ∧ Y.cell? ⟨g, 75, none⟩ = some (.int .i64 ((h : Nat) : Int)) ∧ Y.cell? ⟨g, 10, none⟩ = some (.int .u64 ((p : Nat) : Int))) Y)
    (HK0 : Hid (∀ Y, R0 Y → Calls Tryd.prog 16 #[rv, .bool (decide (h = 64))] Y fun e w' => e = .returned (.bool (decide (h = 64))) ∧ R1 w'))
    (HS1 : ∀ Y, R1 Y → (fun Y : World => Y.cell? ⟨g, 0, none⟩ = some rv ∧ Y.cell? ⟨g, 75, none⟩ = some (.int .i64 ((h : Nat) : Int)) ∧ Y.cell? ⟨g, 10, none⟩ = some (.int .u64 ((p : Nat) : Int))) Y)
    (HPN : ∀ c (a : Act) d v w, Q (.panic c) (a.put d v) w → Q (.panic c) a w)
    (H : ∀ W', R1 W' → Q .normal ⟨#[.pointer (some ⟨g, 0, none⟩), c1, c2, c3, c4, c5, c6, c7, c8, c9, c10, c11, c12, c13, c14, .pointer (some ⟨g, 0, none⟩), .pointer (some ⟨g, 0, none⟩), .pointer (some ⟨g, 0, none⟩), rv, .pointer (some ⟨g, 0, none⟩), .pointer (some ⟨g, 0, none⟩), .pointer (some ⟨g, 75, none⟩), .int .i64 ((h : Nat) : Int), .bool (decide (h = 64)), .bool (decide (h = 64)), c25, c26, c27, c28, c29, c30, c31, c32, c33, c34, c35, c36, c37, c38, c39, c40, c41, c42, c43, c44, c45, c46, c47, c48, c49, c50, c51, c52, c53, c54, c55, c56, c57, c58, c59, c60, c61, c62, c63, c64, c65, c66, c67, c68, c69, c70, c71, c72, c73, c74, c75, c76, c77, c78, c79, c80, c81], []⟩ W') :
    Code.wp Tryd.prog rgWr2 Q ⟨#[.pointer (some ⟨g, 0, none⟩), c1, c2, c3, c4, c5, c6, c7, c8, c9, c10, c11, c12, c13, c14, c15, c16, c17, c18, c19, c20, c21, c22, c23, c24, c25, c26, c27, c28, c29, c30, c31, c32, c33, c34, c35, c36, c37, c38, c39, c40, c41, c42, c43, c44, c45, c46, c47, c48, c49, c50, c51, c52, c53, c54, c55, c56, c57, c58, c59, c60, c61, c62, c63, c64, c65, c66, c67, c68, c69, c70, c71, c72, c73, c74, c75, c76, c77, c78, c79, c80, c81], []⟩ W := by
  rw [rgWr2_is]
  refine wp_region_held_drew (S := fun Y : World => Y.cell? ⟨g, 0, none⟩ = some rv ∧ Y.cell? ⟨g, 75, none⟩ = some (.int .i64 ((h : Nat) : Int)) ∧ Y.cell? ⟨g, 10, none⟩ = some (.int .u64 ((p : Nat) : Int))) (by kernel_rfl) (HS0 _ hR0) (fun hH => ?_)
  obtain ⟨w0, hw00⟩ : ∃ V, W.drew = V := ⟨_, rfl⟩
  clear hH
  rw [hw00] at hR0 ⊢
  have hH := HS0 _ hR0
  have hw0 := hR0
  clear hw00
  obtain ⟨a0, ha⟩ : ∃ a : Act, a = ⟨#[.pointer (some ⟨g, 0, none⟩), c1, c2, c3, c4, c5, c6, c7, c8, c9, c10, c11, c12, c13, c14, c15, c16, c17, c18, c19, c20, c21, c22, c23, c24, c25, c26, c27, c28, c29, c30, c31, c32, c33, c34, c35, c36, c37, c38, c39, c40, c41, c42, c43, c44, c45, c46, c47, c48, c49, c50, c51, c52, c53, c54, c55, c56, c57, c58, c59, c60, c61, c62, c63, c64, c65, c66, c67, c68, c69, c70, c71, c72, c73, c74, c75, c76, c77, c78, c79, c80, c81], []⟩ := ⟨_, rfl⟩
  have sz0 : a0.tmps.size = 82 := by rw [ha]; kernel_rfl
  have e0_0 : a0.eval (.tmp 0) = .pointer (some ⟨g, 0, none⟩) := by rw [ha]; kernel_rfl
  rw [← ha]
  refine wpAnyH_as (l' := #[false, false, false, false, false, false, false, false, false, false]) (by kernel_rfl) ?_
  refine takeH (v := .pointer (some ⟨g, 0, none⟩)) opWr2_0 opWr2_ns (by kernel_rfl) (by kernel_rfl) HPN (fun w hw o ho => run_move ho e0_0 w) hH ?_
  refine wpAnyH_as (l' := #[true, false, false, false, false, false, false, false, false, false]) (by kernel_rfl) ?_
  obtain ⟨a1, h1⟩ : ∃ a' : Act, a' = a0.put (some 15) (.pointer (some ⟨g, 0, none⟩)) := ⟨_, rfl⟩
  rw [← h1]
  have sz1 : a1.tmps.size = 82 := by rw [h1, size_put]; exact sz0
  have e1_0 : a1.eval (.tmp 0) = .pointer (some ⟨g, 0, none⟩) := by rw [h1, eval_put_ne _ _ _ _ (by decide)]; exact e0_0
  have e1_15 : a1.eval (.tmp 15) = .pointer (some ⟨g, 0, none⟩) := by rw [h1]; exact eval_put_eq _ _ _ (by rw [sz0]; decide)
  clear e0_0 sz0
  refine takeH (v := .pointer (some ⟨g, 0, none⟩)) opWr2_1 opWr2_ns (by kernel_rfl) (by kernel_rfl) HPN (fun w hw o ho => run_nilCheck ho e1_15 w) hH ?_
  refine wpAnyH_as (l' := #[true, true, false, false, false, false, false, false, false, false]) (by kernel_rfl) ?_
  obtain ⟨a2, h2⟩ : ∃ a' : Act, a' = a1.put (some 16) (.pointer (some ⟨g, 0, none⟩)) := ⟨_, rfl⟩
  rw [← h2]
  have sz2 : a2.tmps.size = 82 := by rw [h2, size_put]; exact sz1
  have e2_0 : a2.eval (.tmp 0) = .pointer (some ⟨g, 0, none⟩) := by rw [h2, eval_put_ne _ _ _ _ (by decide)]; exact e1_0
  have e2_16 : a2.eval (.tmp 16) = .pointer (some ⟨g, 0, none⟩) := by rw [h2]; exact eval_put_eq _ _ _ (by rw [sz1]; decide)
  clear e1_0 e1_15 sz1
  refine takeH (v := .pointer (some ⟨g, 0, none⟩)) opWr2_2 opWr2_ns (by kernel_rfl) (by kernel_rfl) HPN (fun w hw o ho => run_fH0 ho e2_16 w) hH ?_
  refine wpAnyH_as (l' := #[true, true, true, false, false, false, false, false, false, false]) (by kernel_rfl) ?_
  obtain ⟨a3, h3⟩ : ∃ a' : Act, a' = a2.put (some 17) (.pointer (some ⟨g, 0, none⟩)) := ⟨_, rfl⟩
  rw [← h3]
  have sz3 : a3.tmps.size = 82 := by rw [h3, size_put]; exact sz2
  have e3_0 : a3.eval (.tmp 0) = .pointer (some ⟨g, 0, none⟩) := by rw [h3, eval_put_ne _ _ _ _ (by decide)]; exact e2_0
  have e3_17 : a3.eval (.tmp 17) = .pointer (some ⟨g, 0, none⟩) := by rw [h3]; exact eval_put_eq _ _ _ (by rw [sz2]; decide)
  clear e2_0 e2_16 sz2
  refine takeH (v := rv) opWr2_3 opWr2_ns (by kernel_rfl) (by kernel_rfl) HPN (fun w hw o ho => run_ldR ho e3_17 w hw.1) hH ?_
  refine wpAnyH_as (l' := #[true, true, true, true, false, false, false, false, false, false]) (by kernel_rfl) ?_
  obtain ⟨a4, h4⟩ : ∃ a' : Act, a' = a3.put (some 18) (rv) := ⟨_, rfl⟩
  rw [← h4]
  have sz4 : a4.tmps.size = 82 := by rw [h4, size_put]; exact sz3
  have e4_0 : a4.eval (.tmp 0) = .pointer (some ⟨g, 0, none⟩) := by rw [h4, eval_put_ne _ _ _ _ (by decide)]; exact e3_0
  have e4_18 : a4.eval (.tmp 18) = rv := by rw [h4]; exact eval_put_eq _ _ _ (by rw [sz3]; decide)
  clear e3_0 e3_17 sz3
  refine takeH (v := .pointer (some ⟨g, 0, none⟩)) opWr2_4 opWr2_ns (by kernel_rfl) (by kernel_rfl) HPN (fun w hw o ho => run_move ho e4_0 w) hH ?_
  refine wpAnyH_as (l' := #[true, true, true, true, true, false, false, false, false, false]) (by kernel_rfl) ?_
  obtain ⟨a5, h5⟩ : ∃ a' : Act, a' = a4.put (some 19) (.pointer (some ⟨g, 0, none⟩)) := ⟨_, rfl⟩
  rw [← h5]
  have sz5 : a5.tmps.size = 82 := by rw [h5, size_put]; exact sz4
  have e5_18 : a5.eval (.tmp 18) = rv := by rw [h5, eval_put_ne _ _ _ _ (by decide)]; exact e4_18
  have e5_19 : a5.eval (.tmp 19) = .pointer (some ⟨g, 0, none⟩) := by rw [h5]; exact eval_put_eq _ _ _ (by rw [sz4]; decide)
  clear e4_0 e4_18 sz4
  refine takeH (v := .pointer (some ⟨g, 0, none⟩)) opWr2_5 opWr2_ns (by kernel_rfl) (by kernel_rfl) HPN (fun w hw o ho => run_nilCheck ho e5_19 w) hH ?_
  refine wpAnyH_as (l' := #[true, true, true, true, true, true, false, false, false, false]) (by kernel_rfl) ?_
  obtain ⟨a6, h6⟩ : ∃ a' : Act, a' = a5.put (some 20) (.pointer (some ⟨g, 0, none⟩)) := ⟨_, rfl⟩
  rw [← h6]
  have sz6 : a6.tmps.size = 82 := by rw [h6, size_put]; exact sz5
  have e6_18 : a6.eval (.tmp 18) = rv := by rw [h6, eval_put_ne _ _ _ _ (by decide)]; exact e5_18
  have e6_20 : a6.eval (.tmp 20) = .pointer (some ⟨g, 0, none⟩) := by rw [h6]; exact eval_put_eq _ _ _ (by rw [sz5]; decide)
  clear e5_18 e5_19 sz5
  refine takeH (v := .pointer (some ⟨g, 75, none⟩)) opWr2_6 opWr2_ns (by kernel_rfl) (by kernel_rfl) HPN (fun w hw o ho => run_fH5 ho e6_20 w) hH ?_
  refine wpAnyH_as (l' := #[true, true, true, true, true, true, true, false, false, false]) (by kernel_rfl) ?_
  obtain ⟨a7, h7⟩ : ∃ a' : Act, a' = a6.put (some 21) (.pointer (some ⟨g, 75, none⟩)) := ⟨_, rfl⟩
  rw [← h7]
  have sz7 : a7.tmps.size = 82 := by rw [h7, size_put]; exact sz6
  have e7_18 : a7.eval (.tmp 18) = rv := by rw [h7, eval_put_ne _ _ _ _ (by decide)]; exact e6_18
  have e7_21 : a7.eval (.tmp 21) = .pointer (some ⟨g, 75, none⟩) := by rw [h7]; exact eval_put_eq _ _ _ (by rw [sz6]; decide)
  clear e6_18 e6_20 sz6
  refine takeH (v := .int .i64 ((h : Nat) : Int)) opWr2_7 opWr2_ns (by kernel_rfl) (by kernel_rfl) HPN (fun w hw o ho => run_ldI ho e7_21 w hw.2.1) hH ?_
  refine wpAnyH_as (l' := #[true, true, true, true, true, true, true, true, false, false]) (by kernel_rfl) ?_
  obtain ⟨a8, h8⟩ : ∃ a' : Act, a' = a7.put (some 22) (.int .i64 ((h : Nat) : Int)) := ⟨_, rfl⟩
  rw [← h8]
  have sz8 : a8.tmps.size = 82 := by rw [h8, size_put]; exact sz7
  have e8_18 : a8.eval (.tmp 18) = rv := by rw [h8, eval_put_ne _ _ _ _ (by decide)]; exact e7_18
  have e8_22 : a8.eval (.tmp 22) = .int .i64 ((h : Nat) : Int) := by rw [h8]; exact eval_put_eq _ _ _ (by rw [sz7]; decide)
  clear e7_18 e7_21 sz7
  refine takeH (v := .bool (decide (h = 64))) opWr2_8 opWr2_ns (by kernel_rfl) (by kernel_rfl) HPN (fun w hw o ho => run_eq64 ho e8_22 rfl w) hH ?_
  refine wpAnyH_as (l' := #[true, true, true, true, true, true, true, true, true, false]) (by kernel_rfl) ?_
  obtain ⟨a9, h9⟩ : ∃ a' : Act, a' = a8.put (some 23) (.bool (decide (h = 64))) := ⟨_, rfl⟩
  rw [← h9]
  have sz9 : a9.tmps.size = 82 := by rw [h9, size_put]; exact sz8
  have e9_18 : a9.eval (.tmp 18) = rv := by rw [h9, eval_put_ne _ _ _ _ (by decide)]; exact e8_18
  have e9_23 : a9.eval (.tmp 23) = .bool (decide (h = 64)) := by rw [h9]; exact eval_put_eq _ _ _ (by rw [sz8]; decide)
  clear e8_18 e8_22 sz8
  refine readyH opWr2_9 (by kernel_rfl) (fun o ho hd => wpCall (v := .bool (decide (h = 64))) ho hd (args := #[rv, .bool (decide (h = 64))]) (by simp only [List.map_toArray, List.map_cons, List.map_nil, e9_18, e9_23] <;> rfl) (fun _ => rfl) (HK0.out  w0 hw0) (fun w1 hw1 => ?_))
  have hH := HS1  w1 hw1
  refine ⟨hH, ?_⟩
  refine wpAnyH_as (l' := #[true, true, true, true, true, true, true, true, true, true]) (by kernel_rfl) ?_
  obtain ⟨a10, h10⟩ : ∃ a' : Act, a' = a9.put (some 24) (.bool (decide (h = 64))) := ⟨_, rfl⟩
  rw [← h10]
  have sz10 : a10.tmps.size = 82 := by rw [h10, size_put]; exact sz9
  clear e9_18 e9_23 sz9
  refine wpAnyH_done (by kernel_rfl) ?_ _
  have hF : a10 = ⟨#[.pointer (some ⟨g, 0, none⟩), c1, c2, c3, c4, c5, c6, c7, c8, c9, c10, c11, c12, c13, c14, .pointer (some ⟨g, 0, none⟩), .pointer (some ⟨g, 0, none⟩), .pointer (some ⟨g, 0, none⟩), rv, .pointer (some ⟨g, 0, none⟩), .pointer (some ⟨g, 0, none⟩), .pointer (some ⟨g, 75, none⟩), .int .i64 ((h : Nat) : Int), .bool (decide (h = 64)), .bool (decide (h = 64)), c25, c26, c27, c28, c29, c30, c31, c32, c33, c34, c35, c36, c37, c38, c39, c40, c41, c42, c43, c44, c45, c46, c47, c48, c49, c50, c51, c52, c53, c54, c55, c56, c57, c58, c59, c60, c61, c62, c63, c64, c65, c66, c67, c68, c69, c70, c71, c72, c73, c74, c75, c76, c77, c78, c79, c80, c81], []⟩ := by rw [h10, h9, h8, h7, h6, h5, h4, h3, h2, h1, ha]; kernel_rfl
  rw [hF]
  exact H  _ hw1
noncomputable def rgWr5 : Code := ((Tryd.f8.body.bind (findReg 5)).getD .skip)
noncomputable def opWr5 : Array Oper := opsOf rgWr5
theorem rgWr5_is : rgWr5 = .region 5 opWr5 true := by kernel_rfl
theorem opWr5_ns : Region.noSelect opWr5 = true := by kernel_rfl
theorem opWr5_0 : opIs opWr5 0 (.move (.tmp 0)) (some 37) := by unfold opIs; kernel_rfl
theorem opWr5_1 : opIs opWr5 1 (.nilCheck (.tmp 37)) (some 38) := by unfold opIs; kernel_rfl
theorem opWr5_2 : opIs opWr5 2 (.fieldAddr 51 (.tmp 38) 2) (some 39) := by unfold opIs; kernel_rfl
theorem opWr5_3 : opIs opWr5 3 (.move (.tmp 0)) (some 40) := by unfold opIs; kernel_rfl
theorem opWr5_4 : opIs opWr5 4 (.nilCheck (.tmp 40)) (some 41) := by unfold opIs; kernel_rfl
theorem opWr5_5 : opIs opWr5 5 (.fieldAddr 51 (.tmp 41) 4) (some 42) := by unfold opIs; kernel_rfl
theorem opWr5_6 : opIs opWr5 6 (.move (.tmp 0)) (some 43) := by unfold opIs; kernel_rfl
theorem opWr5_7 : opIs opWr5 7 (.nilCheck (.tmp 43)) (some 44) := by unfold opIs; kernel_rfl
theorem opWr5_8 : opIs opWr5 8 (.fieldAddr 51 (.tmp 44) 3) (some 45) := by unfold opIs; kernel_rfl
theorem opWr5_9 : opIs opWr5 9 (.load 48 (.tmp 45)) (some 46) := by unfold opIs; kernel_rfl
theorem opWr5_10 : opIs opWr5 10 (.call { callee := .value (.func 18), args := #[.tmp 39, .tmp 42, .tmp 46, .const (.int .u32 0)], argTypes := #[54, 55, 48, 46] }) (some 47) := by unfold opIs; kernel_rfl
set_option maxRecDepth 100000 in
set_option maxHeartbeats 4000000 in
theorem Wr5 {Q : Exit → Act → World → Prop} {W : World} {R0 : World → Prop} {R1 : World → Prop} {g h p : Nat} {rv : Value} {c1 c2 c3 c4 c5 c6 c7 c8 c9 c10 c11 c12 c13 c14 c15 c16 c17 c18 c19 c20 c21 c22 c23 c24 c25 c26 c27 c28 c29 c30 c31 c32 c33 c34 c35 c36 c37 c38 c39 c40 c41 c42 c43 c44 c45 c46 c47 c48 c49 c50 c51 c52 c53 c54 c55 c56 c57 c58 c59 c60 c61 c62 c63 c64 c65 c66 c67 c68 c69 c70 c71 c72 c73 c74 c75 c76 c77 c78 c79 c80 c81 : Value}
    (hR0 : R0 W.drew) (HS0 : ∀ Y, R0 Y → (fun Y : World => Y.cell? ⟨g, 0, none⟩ = some rv ∧ Y.cell? ⟨g, 75, none⟩ = some (.int .i64 ((h : Nat) : Int)) ∧ Y.cell? ⟨g, 10, none⟩ = some (.int .u64 ((p : Nat) : Int))) Y)
    (HK0 : Hid (∀ Y, R0 Y → Calls Tryd.prog 18 #[.pointer (some ⟨g, 2, none⟩), .pointer (some ⟨g, 11, none⟩), .int .u64 ((p : Nat) : Int), .int .u32 0] Y fun e w' => e = .returned (.tuple #[]) ∧ R1 w'))
    (HS1 : ∀ Y, R1 Y → (fun Y : World => Y.cell? ⟨g, 0, none⟩ = some rv ∧ Y.cell? ⟨g, 75, none⟩ = some (.int .i64 ((h : Nat) : Int)) ∧ Y.cell? ⟨g, 10, none⟩ = some (.int .u64 ((p : Nat) : Int))) Y)
    (HPN : ∀ c (a : Act) d v w, Q (.panic c) (a.put d v) w → Q (.panic c) a w)
    (H : ∀ W', R1 W' → Q .normal ⟨#[.pointer (some ⟨g, 0, none⟩), c1, c2, c3, c4, c5, c6, c7, c8, c9, c10, c11, c12, c13, c14, c15, c16, c17, c18, c19, c20, c21, c22, c23, c24, c25, c26, c27, c28, c29, c30, c31, c32, c33, c34, c35, c36, .pointer (some ⟨g, 0, none⟩), .pointer (some ⟨g, 0, none⟩), .pointer (some ⟨g, 2, none⟩), .pointer (some ⟨g, 0, none⟩), .pointer (some ⟨g, 0, none⟩), .pointer (some ⟨g, 11, none⟩), .pointer (some ⟨g, 0, none⟩), .pointer (some ⟨g, 0, none⟩), .pointer (some ⟨g, 10, none⟩), .int .u64 ((p : Nat) : Int), .tuple #[], c48, c49, c50, c51, c52, c53, c54, c55, c56, c57, c58, c59, c60, c61, c62, c63, c64, c65, c66, c67, c68, c69, c70, c71, c72, c73, c74, c75, c76, c77, c78, c79, c80, c81], []⟩ W') :
    Code.wp Tryd.prog rgWr5 Q ⟨#[.pointer (some ⟨g, 0, none⟩), c1, c2, c3, c4, c5, c6, c7, c8, c9, c10, c11, c12, c13, c14, c15, c16, c17, c18, c19, c20, c21, c22, c23, c24, c25, c26, c27, c28, c29, c30, c31, c32, c33, c34, c35, c36, c37, c38, c39, c40, c41, c42, c43, c44, c45, c46, c47, c48, c49, c50, c51, c52, c53, c54, c55, c56, c57, c58, c59, c60, c61, c62, c63, c64, c65, c66, c67, c68, c69, c70, c71, c72, c73, c74, c75, c76, c77, c78, c79, c80, c81], []⟩ W := by
  rw [rgWr5_is]
  refine wp_region_held_drew (S := fun Y : World => Y.cell? ⟨g, 0, none⟩ = some rv ∧ Y.cell? ⟨g, 75, none⟩ = some (.int .i64 ((h : Nat) : Int)) ∧ Y.cell? ⟨g, 10, none⟩ = some (.int .u64 ((p : Nat) : Int))) (by kernel_rfl) (HS0 _ hR0) (fun hH => ?_)
  obtain ⟨w0, hw00⟩ : ∃ V, W.drew = V := ⟨_, rfl⟩
  clear hH
  rw [hw00] at hR0 ⊢
  have hH := HS0 _ hR0
  have hw0 := hR0
  clear hw00
  obtain ⟨a0, ha⟩ : ∃ a : Act, a = ⟨#[.pointer (some ⟨g, 0, none⟩), c1, c2, c3, c4, c5, c6, c7, c8, c9, c10, c11, c12, c13, c14, c15, c16, c17, c18, c19, c20, c21, c22, c23, c24, c25, c26, c27, c28, c29, c30, c31, c32, c33, c34, c35, c36, c37, c38, c39, c40, c41, c42, c43, c44, c45, c46, c47, c48, c49, c50, c51, c52, c53, c54, c55, c56, c57, c58, c59, c60, c61, c62, c63, c64, c65, c66, c67, c68, c69, c70, c71, c72, c73, c74, c75, c76, c77, c78, c79, c80, c81], []⟩ := ⟨_, rfl⟩
  have sz0 : a0.tmps.size = 82 := by rw [ha]; kernel_rfl
  have e0_0 : a0.eval (.tmp 0) = .pointer (some ⟨g, 0, none⟩) := by rw [ha]; kernel_rfl
  rw [← ha]
  refine wpAnyH_as (l' := #[false, false, false, false, false, false, false, false, false, false, false]) (by kernel_rfl) ?_
  refine takeH (v := .pointer (some ⟨g, 0, none⟩)) opWr5_0 opWr5_ns (by kernel_rfl) (by kernel_rfl) HPN (fun w hw o ho => run_move ho e0_0 w) hH ?_
  refine wpAnyH_as (l' := #[true, false, false, false, false, false, false, false, false, false, false]) (by kernel_rfl) ?_
  obtain ⟨a1, h1⟩ : ∃ a' : Act, a' = a0.put (some 37) (.pointer (some ⟨g, 0, none⟩)) := ⟨_, rfl⟩
  rw [← h1]
  have sz1 : a1.tmps.size = 82 := by rw [h1, size_put]; exact sz0
  have e1_0 : a1.eval (.tmp 0) = .pointer (some ⟨g, 0, none⟩) := by rw [h1, eval_put_ne _ _ _ _ (by decide)]; exact e0_0
  have e1_37 : a1.eval (.tmp 37) = .pointer (some ⟨g, 0, none⟩) := by rw [h1]; exact eval_put_eq _ _ _ (by rw [sz0]; decide)
  clear e0_0 sz0
  refine takeH (v := .pointer (some ⟨g, 0, none⟩)) opWr5_1 opWr5_ns (by kernel_rfl) (by kernel_rfl) HPN (fun w hw o ho => run_nilCheck ho e1_37 w) hH ?_
  refine wpAnyH_as (l' := #[true, true, false, false, false, false, false, false, false, false, false]) (by kernel_rfl) ?_
  obtain ⟨a2, h2⟩ : ∃ a' : Act, a' = a1.put (some 38) (.pointer (some ⟨g, 0, none⟩)) := ⟨_, rfl⟩
  rw [← h2]
  have sz2 : a2.tmps.size = 82 := by rw [h2, size_put]; exact sz1
  have e2_0 : a2.eval (.tmp 0) = .pointer (some ⟨g, 0, none⟩) := by rw [h2, eval_put_ne _ _ _ _ (by decide)]; exact e1_0
  have e2_38 : a2.eval (.tmp 38) = .pointer (some ⟨g, 0, none⟩) := by rw [h2]; exact eval_put_eq _ _ _ (by rw [sz1]; decide)
  clear e1_0 e1_37 sz1
  refine takeH (v := .pointer (some ⟨g, 2, none⟩)) opWr5_2 opWr5_ns (by kernel_rfl) (by kernel_rfl) HPN (fun w hw o ho => run_fH2 ho e2_38 w) hH ?_
  refine wpAnyH_as (l' := #[true, true, true, false, false, false, false, false, false, false, false]) (by kernel_rfl) ?_
  obtain ⟨a3, h3⟩ : ∃ a' : Act, a' = a2.put (some 39) (.pointer (some ⟨g, 2, none⟩)) := ⟨_, rfl⟩
  rw [← h3]
  have sz3 : a3.tmps.size = 82 := by rw [h3, size_put]; exact sz2
  have e3_0 : a3.eval (.tmp 0) = .pointer (some ⟨g, 0, none⟩) := by rw [h3, eval_put_ne _ _ _ _ (by decide)]; exact e2_0
  have e3_39 : a3.eval (.tmp 39) = .pointer (some ⟨g, 2, none⟩) := by rw [h3]; exact eval_put_eq _ _ _ (by rw [sz2]; decide)
  clear e2_0 e2_38 sz2
  refine takeH (v := .pointer (some ⟨g, 0, none⟩)) opWr5_3 opWr5_ns (by kernel_rfl) (by kernel_rfl) HPN (fun w hw o ho => run_move ho e3_0 w) hH ?_
  refine wpAnyH_as (l' := #[true, true, true, true, false, false, false, false, false, false, false]) (by kernel_rfl) ?_
  obtain ⟨a4, h4⟩ : ∃ a' : Act, a' = a3.put (some 40) (.pointer (some ⟨g, 0, none⟩)) := ⟨_, rfl⟩
  rw [← h4]
  have sz4 : a4.tmps.size = 82 := by rw [h4, size_put]; exact sz3
  have e4_0 : a4.eval (.tmp 0) = .pointer (some ⟨g, 0, none⟩) := by rw [h4, eval_put_ne _ _ _ _ (by decide)]; exact e3_0
  have e4_39 : a4.eval (.tmp 39) = .pointer (some ⟨g, 2, none⟩) := by rw [h4, eval_put_ne _ _ _ _ (by decide)]; exact e3_39
  have e4_40 : a4.eval (.tmp 40) = .pointer (some ⟨g, 0, none⟩) := by rw [h4]; exact eval_put_eq _ _ _ (by rw [sz3]; decide)
  clear e3_0 e3_39 sz3
  refine takeH (v := .pointer (some ⟨g, 0, none⟩)) opWr5_4 opWr5_ns (by kernel_rfl) (by kernel_rfl) HPN (fun w hw o ho => run_nilCheck ho e4_40 w) hH ?_
  refine wpAnyH_as (l' := #[true, true, true, true, true, false, false, false, false, false, false]) (by kernel_rfl) ?_
  obtain ⟨a5, h5⟩ : ∃ a' : Act, a' = a4.put (some 41) (.pointer (some ⟨g, 0, none⟩)) := ⟨_, rfl⟩
  rw [← h5]
  have sz5 : a5.tmps.size = 82 := by rw [h5, size_put]; exact sz4
  have e5_0 : a5.eval (.tmp 0) = .pointer (some ⟨g, 0, none⟩) := by rw [h5, eval_put_ne _ _ _ _ (by decide)]; exact e4_0
  have e5_39 : a5.eval (.tmp 39) = .pointer (some ⟨g, 2, none⟩) := by rw [h5, eval_put_ne _ _ _ _ (by decide)]; exact e4_39
  have e5_41 : a5.eval (.tmp 41) = .pointer (some ⟨g, 0, none⟩) := by rw [h5]; exact eval_put_eq _ _ _ (by rw [sz4]; decide)
  clear e4_0 e4_39 e4_40 sz4
  refine takeH (v := .pointer (some ⟨g, 11, none⟩)) opWr5_5 opWr5_ns (by kernel_rfl) (by kernel_rfl) HPN (fun w hw o ho => run_fH4 ho e5_41 w) hH ?_
  refine wpAnyH_as (l' := #[true, true, true, true, true, true, false, false, false, false, false]) (by kernel_rfl) ?_
  obtain ⟨a6, h6⟩ : ∃ a' : Act, a' = a5.put (some 42) (.pointer (some ⟨g, 11, none⟩)) := ⟨_, rfl⟩
  rw [← h6]
  have sz6 : a6.tmps.size = 82 := by rw [h6, size_put]; exact sz5
  have e6_0 : a6.eval (.tmp 0) = .pointer (some ⟨g, 0, none⟩) := by rw [h6, eval_put_ne _ _ _ _ (by decide)]; exact e5_0
  have e6_39 : a6.eval (.tmp 39) = .pointer (some ⟨g, 2, none⟩) := by rw [h6, eval_put_ne _ _ _ _ (by decide)]; exact e5_39
  have e6_42 : a6.eval (.tmp 42) = .pointer (some ⟨g, 11, none⟩) := by rw [h6]; exact eval_put_eq _ _ _ (by rw [sz5]; decide)
  clear e5_0 e5_39 e5_41 sz5
  refine takeH (v := .pointer (some ⟨g, 0, none⟩)) opWr5_6 opWr5_ns (by kernel_rfl) (by kernel_rfl) HPN (fun w hw o ho => run_move ho e6_0 w) hH ?_
  refine wpAnyH_as (l' := #[true, true, true, true, true, true, true, false, false, false, false]) (by kernel_rfl) ?_
  obtain ⟨a7, h7⟩ : ∃ a' : Act, a' = a6.put (some 43) (.pointer (some ⟨g, 0, none⟩)) := ⟨_, rfl⟩
  rw [← h7]
  have sz7 : a7.tmps.size = 82 := by rw [h7, size_put]; exact sz6
  have e7_39 : a7.eval (.tmp 39) = .pointer (some ⟨g, 2, none⟩) := by rw [h7, eval_put_ne _ _ _ _ (by decide)]; exact e6_39
  have e7_42 : a7.eval (.tmp 42) = .pointer (some ⟨g, 11, none⟩) := by rw [h7, eval_put_ne _ _ _ _ (by decide)]; exact e6_42
  have e7_43 : a7.eval (.tmp 43) = .pointer (some ⟨g, 0, none⟩) := by rw [h7]; exact eval_put_eq _ _ _ (by rw [sz6]; decide)
  clear e6_0 e6_39 e6_42 sz6
  refine takeH (v := .pointer (some ⟨g, 0, none⟩)) opWr5_7 opWr5_ns (by kernel_rfl) (by kernel_rfl) HPN (fun w hw o ho => run_nilCheck ho e7_43 w) hH ?_
  refine wpAnyH_as (l' := #[true, true, true, true, true, true, true, true, false, false, false]) (by kernel_rfl) ?_
  obtain ⟨a8, h8⟩ : ∃ a' : Act, a' = a7.put (some 44) (.pointer (some ⟨g, 0, none⟩)) := ⟨_, rfl⟩
  rw [← h8]
  have sz8 : a8.tmps.size = 82 := by rw [h8, size_put]; exact sz7
  have e8_39 : a8.eval (.tmp 39) = .pointer (some ⟨g, 2, none⟩) := by rw [h8, eval_put_ne _ _ _ _ (by decide)]; exact e7_39
  have e8_42 : a8.eval (.tmp 42) = .pointer (some ⟨g, 11, none⟩) := by rw [h8, eval_put_ne _ _ _ _ (by decide)]; exact e7_42
  have e8_44 : a8.eval (.tmp 44) = .pointer (some ⟨g, 0, none⟩) := by rw [h8]; exact eval_put_eq _ _ _ (by rw [sz7]; decide)
  clear e7_39 e7_42 e7_43 sz7
  refine takeH (v := .pointer (some ⟨g, 10, none⟩)) opWr5_8 opWr5_ns (by kernel_rfl) (by kernel_rfl) HPN (fun w hw o ho => run_fH3 ho e8_44 w) hH ?_
  refine wpAnyH_as (l' := #[true, true, true, true, true, true, true, true, true, false, false]) (by kernel_rfl) ?_
  obtain ⟨a9, h9⟩ : ∃ a' : Act, a' = a8.put (some 45) (.pointer (some ⟨g, 10, none⟩)) := ⟨_, rfl⟩
  rw [← h9]
  have sz9 : a9.tmps.size = 82 := by rw [h9, size_put]; exact sz8
  have e9_39 : a9.eval (.tmp 39) = .pointer (some ⟨g, 2, none⟩) := by rw [h9, eval_put_ne _ _ _ _ (by decide)]; exact e8_39
  have e9_42 : a9.eval (.tmp 42) = .pointer (some ⟨g, 11, none⟩) := by rw [h9, eval_put_ne _ _ _ _ (by decide)]; exact e8_42
  have e9_45 : a9.eval (.tmp 45) = .pointer (some ⟨g, 10, none⟩) := by rw [h9]; exact eval_put_eq _ _ _ (by rw [sz8]; decide)
  clear e8_39 e8_42 e8_44 sz8
  refine takeH (v := .int .u64 ((p : Nat) : Int)) opWr5_9 opWr5_ns (by kernel_rfl) (by kernel_rfl) HPN (fun w hw o ho => run_ldQ ho e9_45 w hw.2.2) hH ?_
  refine wpAnyH_as (l' := #[true, true, true, true, true, true, true, true, true, true, false]) (by kernel_rfl) ?_
  obtain ⟨a10, h10⟩ : ∃ a' : Act, a' = a9.put (some 46) (.int .u64 ((p : Nat) : Int)) := ⟨_, rfl⟩
  rw [← h10]
  have sz10 : a10.tmps.size = 82 := by rw [h10, size_put]; exact sz9
  have e10_39 : a10.eval (.tmp 39) = .pointer (some ⟨g, 2, none⟩) := by rw [h10, eval_put_ne _ _ _ _ (by decide)]; exact e9_39
  have e10_42 : a10.eval (.tmp 42) = .pointer (some ⟨g, 11, none⟩) := by rw [h10, eval_put_ne _ _ _ _ (by decide)]; exact e9_42
  have e10_46 : a10.eval (.tmp 46) = .int .u64 ((p : Nat) : Int) := by rw [h10]; exact eval_put_eq _ _ _ (by rw [sz9]; decide)
  clear e9_39 e9_42 e9_45 sz9
  refine readyH opWr5_10 (by kernel_rfl) (fun o ho hd => wpCall (v := .tuple #[]) ho hd (args := #[.pointer (some ⟨g, 2, none⟩), .pointer (some ⟨g, 11, none⟩), .int .u64 ((p : Nat) : Int), .int .u32 0]) (by simp only [List.map_toArray, List.map_cons, List.map_nil, e10_39, e10_42, e10_46] <;> rfl) (fun _ => rfl) (HK0.out  w0 hw0) (fun w1 hw1 => ?_))
  have hH := HS1  w1 hw1
  refine ⟨hH, ?_⟩
  refine wpAnyH_as (l' := #[true, true, true, true, true, true, true, true, true, true, true]) (by kernel_rfl) ?_
  obtain ⟨a11, h11⟩ : ∃ a' : Act, a' = a10.put (some 47) (.tuple #[]) := ⟨_, rfl⟩
  rw [← h11]
  have sz11 : a11.tmps.size = 82 := by rw [h11, size_put]; exact sz10
  clear e10_39 e10_42 e10_46 sz10
  refine wpAnyH_done (by kernel_rfl) ?_ _
  have hF : a11 = ⟨#[.pointer (some ⟨g, 0, none⟩), c1, c2, c3, c4, c5, c6, c7, c8, c9, c10, c11, c12, c13, c14, c15, c16, c17, c18, c19, c20, c21, c22, c23, c24, c25, c26, c27, c28, c29, c30, c31, c32, c33, c34, c35, c36, .pointer (some ⟨g, 0, none⟩), .pointer (some ⟨g, 0, none⟩), .pointer (some ⟨g, 2, none⟩), .pointer (some ⟨g, 0, none⟩), .pointer (some ⟨g, 0, none⟩), .pointer (some ⟨g, 11, none⟩), .pointer (some ⟨g, 0, none⟩), .pointer (some ⟨g, 0, none⟩), .pointer (some ⟨g, 10, none⟩), .int .u64 ((p : Nat) : Int), .tuple #[], c48, c49, c50, c51, c52, c53, c54, c55, c56, c57, c58, c59, c60, c61, c62, c63, c64, c65, c66, c67, c68, c69, c70, c71, c72, c73, c74, c75, c76, c77, c78, c79, c80, c81], []⟩ := by rw [h11, h10, h9, h8, h7, h6, h5, h4, h3, h2, h1, ha]; kernel_rfl
  rw [hF]
  exact H  _ hw1
noncomputable def rgWr7 : Code := ((Tryd.f8.body.bind (findReg 7)).getD .skip)
noncomputable def opWr7 : Array Oper := opsOf rgWr7
theorem rgWr7_is : rgWr7 = .region 7 opWr7 true := by kernel_rfl
theorem opWr7_ns : Region.noSelect opWr7 = true := by kernel_rfl
theorem opWr7_0 : opIs opWr7 0 (.move (.tmp 0)) (some 51) := by unfold opIs; kernel_rfl
theorem opWr7_1 : opIs opWr7 1 (.nilCheck (.tmp 51)) (some 52) := by unfold opIs; kernel_rfl
theorem opWr7_2 : opIs opWr7 2 (.fieldAddr 51 (.tmp 52) 4) (some 53) := by unfold opIs; kernel_rfl
theorem opWr7_3 : opIs opWr7 3 (.move (.tmp 0)) (some 54) := by unfold opIs; kernel_rfl
theorem opWr7_4 : opIs opWr7 4 (.nilCheck (.tmp 54)) (some 55) := by unfold opIs; kernel_rfl
theorem opWr7_5 : opIs opWr7 5 (.fieldAddr 51 (.tmp 55) 0) (some 56) := by unfold opIs; kernel_rfl
theorem opWr7_6 : opIs opWr7 6 (.load 37 (.tmp 56)) (some 57) := by unfold opIs; kernel_rfl
theorem opWr7_7 : opIs opWr7 7 (.move (.tmp 0)) (some 58) := by unfold opIs; kernel_rfl
theorem opWr7_8 : opIs opWr7 8 (.nilCheck (.tmp 58)) (some 59) := by unfold opIs; kernel_rfl
theorem opWr7_9 : opIs opWr7 9 (.fieldAddr 51 (.tmp 59) 5) (some 60) := by unfold opIs; kernel_rfl
theorem opWr7_10 : opIs opWr7 10 (.load 3 (.tmp 60)) (some 61) := by unfold opIs; kernel_rfl
theorem opWr7_11 : opIs opWr7 11 (.call { callee := .value (.func 19), args := #[.tmp 57, .tmp 61], argTypes := #[37, 3] }) (some 62) := by unfold opIs; kernel_rfl
theorem opWr7_12 : opIs opWr7 12 (.slice 49 (.tmp 53) (some (.tmp 62)) none none) (some 63) := by unfold opIs; kernel_rfl
theorem opWr7_13 : opIs opWr7 13 (.move (.tmp 1)) (some 64) := by unfold opIs; kernel_rfl
theorem opWr7_14 : opIs opWr7 14 (.call { callee := .builtin .copy, args := #[.tmp 63, .tmp 64], argTypes := #[22, 22] }) (some 65) := by unfold opIs; kernel_rfl
theorem opWr7_15 : opIs opWr7 15 (.assign (.tmp 65)) (some 4) := by unfold opIs; kernel_rfl
set_option maxRecDepth 100000 in
set_option maxHeartbeats 4000000 in
theorem Wr7 {Q : Exit → Act → World → Prop} {W : World} {R0 : World → Prop} {R1 : World → Prop} {R2 : World → Prop} {g h p : Nat} {rv : Value} {pv kv : Value} {c2 c3 c4 c5 c6 c7 c8 c9 c10 c11 c12 c13 c14 c15 c16 c17 c18 c19 c20 c21 c22 c23 c24 c25 c26 c27 c28 c29 c30 c31 c32 c33 c34 c35 c36 c37 c38 c39 c40 c41 c42 c43 c44 c45 c46 c47 c48 c49 c50 c51 c52 c53 c54 c55 c56 c57 c58 c59 c60 c61 c62 c63 c64 c65 c66 c67 c68 c69 c70 c71 c72 c73 c74 c75 c76 c77 c78 c79 c80 c81 : Value}
    (hHb : Hid (h < 64))
    (hR0 : R0 W.drew) (HS0 : ∀ Y, R0 Y → (fun Y : World => Y.cell? ⟨g, 0, none⟩ = some rv ∧ Y.cell? ⟨g, 75, none⟩ = some (.int .i64 ((h : Nat) : Int)) ∧ Y.cell? ⟨g, 10, none⟩ = some (.int .u64 ((p : Nat) : Int))) Y)
    (HK0 : Hid (∀ Y, R0 Y → Calls Tryd.prog 19 #[rv, .int .i64 ((h : Nat) : Int)] Y fun e w' => e = .returned (.int .i64 ((h : Nat) : Int)) ∧ R1 w'))
    (HS1 : ∀ Y, R1 Y → (fun Y : World => Y.cell? ⟨g, 0, none⟩ = some rv ∧ Y.cell? ⟨g, 75, none⟩ = some (.int .i64 ((h : Nat) : Int)) ∧ Y.cell? ⟨g, 10, none⟩ = some (.int .u64 ((p : Nat) : Int))) Y)
    (HK1 : Hid (∀ Y, R1 Y → ∀ (a : Act) (o : Oper) (K : Act → World → Prop) (Q : Exit → Act → World → Prop), o.op = .call { callee := .builtin .copy, args := #[.tmp 63, .tmp 64], argTypes := #[22, 22] } → o.dst = some 65 → a.eval (.tmp 63) = .slice (some ⟨g, 11 + h, none⟩) (64 - h) (64 - h) → a.eval (.tmp 64) = pv → (∀ w', R2 w' → K (a.put (some 65) (kv)) w') → Oper.wp Tryd.prog o a Y K Q))
    (HS2 : ∀ Y, R2 Y → (fun Y : World => Y.cell? ⟨g, 0, none⟩ = some rv ∧ Y.cell? ⟨g, 75, none⟩ = some (.int .i64 ((h : Nat) : Int)) ∧ Y.cell? ⟨g, 10, none⟩ = some (.int .u64 ((p : Nat) : Int))) Y)
    (HPN : ∀ c (a : Act) d v w, Q (.panic c) (a.put d v) w → Q (.panic c) a w)
    (H : ∀ W', R2 W' → Q .normal ⟨#[.pointer (some ⟨g, 0, none⟩), pv, c2, c3, kv, c5, c6, c7, c8, c9, c10, c11, c12, c13, c14, c15, c16, c17, c18, c19, c20, c21, c22, c23, c24, c25, c26, c27, c28, c29, c30, c31, c32, c33, c34, c35, c36, c37, c38, c39, c40, c41, c42, c43, c44, c45, c46, c47, c48, c49, c50, .pointer (some ⟨g, 0, none⟩), .pointer (some ⟨g, 0, none⟩), .pointer (some ⟨g, 11, none⟩), .pointer (some ⟨g, 0, none⟩), .pointer (some ⟨g, 0, none⟩), .pointer (some ⟨g, 0, none⟩), rv, .pointer (some ⟨g, 0, none⟩), .pointer (some ⟨g, 0, none⟩), .pointer (some ⟨g, 75, none⟩), .int .i64 ((h : Nat) : Int), .int .i64 ((h : Nat) : Int), .slice (some ⟨g, 11 + h, none⟩) (64 - h) (64 - h), pv, kv, c66, c67, c68, c69, c70, c71, c72, c73, c74, c75, c76, c77, c78, c79, c80, c81], []⟩ W') :
    Code.wp Tryd.prog rgWr7 Q ⟨#[.pointer (some ⟨g, 0, none⟩), pv, c2, c3, c4, c5, c6, c7, c8, c9, c10, c11, c12, c13, c14, c15, c16, c17, c18, c19, c20, c21, c22, c23, c24, c25, c26, c27, c28, c29, c30, c31, c32, c33, c34, c35, c36, c37, c38, c39, c40, c41, c42, c43, c44, c45, c46, c47, c48, c49, c50, c51, c52, c53, c54, c55, c56, c57, c58, c59, c60, c61, c62, c63, c64, c65, c66, c67, c68, c69, c70, c71, c72, c73, c74, c75, c76, c77, c78, c79, c80, c81], []⟩ W := by
  rw [rgWr7_is]
  refine wp_region_held_drew (S := fun Y : World => Y.cell? ⟨g, 0, none⟩ = some rv ∧ Y.cell? ⟨g, 75, none⟩ = some (.int .i64 ((h : Nat) : Int)) ∧ Y.cell? ⟨g, 10, none⟩ = some (.int .u64 ((p : Nat) : Int))) (by kernel_rfl) (HS0 _ hR0) (fun hH => ?_)
  obtain ⟨w0, hw00⟩ : ∃ V, W.drew = V := ⟨_, rfl⟩
  clear hH
  rw [hw00] at hR0 ⊢
  have hH := HS0 _ hR0
  have hw0 := hR0
  clear hw00
  obtain ⟨a0, ha⟩ : ∃ a : Act, a = ⟨#[.pointer (some ⟨g, 0, none⟩), pv, c2, c3, c4, c5, c6, c7, c8, c9, c10, c11, c12, c13, c14, c15, c16, c17, c18, c19, c20, c21, c22, c23, c24, c25, c26, c27, c28, c29, c30, c31, c32, c33, c34, c35, c36, c37, c38, c39, c40, c41, c42, c43, c44, c45, c46, c47, c48, c49, c50, c51, c52, c53, c54, c55, c56, c57, c58, c59, c60, c61, c62, c63, c64, c65, c66, c67, c68, c69, c70, c71, c72, c73, c74, c75, c76, c77, c78, c79, c80, c81], []⟩ := ⟨_, rfl⟩
  have sz0 : a0.tmps.size = 82 := by rw [ha]; kernel_rfl
  have e0_0 : a0.eval (.tmp 0) = .pointer (some ⟨g, 0, none⟩) := by rw [ha]; kernel_rfl
  have e0_1 : a0.eval (.tmp 1) = pv := by rw [ha]; kernel_rfl
  rw [← ha]
  refine wpAnyH_as (l' := #[false, false, false, false, false, false, false, false, false, false, false, false, false, false, false, false]) (by kernel_rfl) ?_
  refine takeH (v := .pointer (some ⟨g, 0, none⟩)) opWr7_0 opWr7_ns (by kernel_rfl) (by kernel_rfl) HPN (fun w hw o ho => run_move ho e0_0 w) hH ?_
  refine wpAnyH_as (l' := #[true, false, false, false, false, false, false, false, false, false, false, false, false, false, false, false]) (by kernel_rfl) ?_
  obtain ⟨a1, h1⟩ : ∃ a' : Act, a' = a0.put (some 51) (.pointer (some ⟨g, 0, none⟩)) := ⟨_, rfl⟩
  rw [← h1]
  have sz1 : a1.tmps.size = 82 := by rw [h1, size_put]; exact sz0
  have e1_0 : a1.eval (.tmp 0) = .pointer (some ⟨g, 0, none⟩) := by rw [h1, eval_put_ne _ _ _ _ (by decide)]; exact e0_0
  have e1_1 : a1.eval (.tmp 1) = pv := by rw [h1, eval_put_ne _ _ _ _ (by decide)]; exact e0_1
  have e1_51 : a1.eval (.tmp 51) = .pointer (some ⟨g, 0, none⟩) := by rw [h1]; exact eval_put_eq _ _ _ (by rw [sz0]; decide)
  clear e0_0 e0_1 sz0
  refine takeH (v := .pointer (some ⟨g, 0, none⟩)) opWr7_1 opWr7_ns (by kernel_rfl) (by kernel_rfl) HPN (fun w hw o ho => run_nilCheck ho e1_51 w) hH ?_
  refine wpAnyH_as (l' := #[true, true, false, false, false, false, false, false, false, false, false, false, false, false, false, false]) (by kernel_rfl) ?_
  obtain ⟨a2, h2⟩ : ∃ a' : Act, a' = a1.put (some 52) (.pointer (some ⟨g, 0, none⟩)) := ⟨_, rfl⟩
  rw [← h2]
  have sz2 : a2.tmps.size = 82 := by rw [h2, size_put]; exact sz1
  have e2_0 : a2.eval (.tmp 0) = .pointer (some ⟨g, 0, none⟩) := by rw [h2, eval_put_ne _ _ _ _ (by decide)]; exact e1_0
  have e2_1 : a2.eval (.tmp 1) = pv := by rw [h2, eval_put_ne _ _ _ _ (by decide)]; exact e1_1
  have e2_52 : a2.eval (.tmp 52) = .pointer (some ⟨g, 0, none⟩) := by rw [h2]; exact eval_put_eq _ _ _ (by rw [sz1]; decide)
  clear e1_0 e1_1 e1_51 sz1
  refine takeH (v := .pointer (some ⟨g, 11, none⟩)) opWr7_2 opWr7_ns (by kernel_rfl) (by kernel_rfl) HPN (fun w hw o ho => run_fH4 ho e2_52 w) hH ?_
  refine wpAnyH_as (l' := #[true, true, true, false, false, false, false, false, false, false, false, false, false, false, false, false]) (by kernel_rfl) ?_
  obtain ⟨a3, h3⟩ : ∃ a' : Act, a' = a2.put (some 53) (.pointer (some ⟨g, 11, none⟩)) := ⟨_, rfl⟩
  rw [← h3]
  have sz3 : a3.tmps.size = 82 := by rw [h3, size_put]; exact sz2
  have e3_0 : a3.eval (.tmp 0) = .pointer (some ⟨g, 0, none⟩) := by rw [h3, eval_put_ne _ _ _ _ (by decide)]; exact e2_0
  have e3_1 : a3.eval (.tmp 1) = pv := by rw [h3, eval_put_ne _ _ _ _ (by decide)]; exact e2_1
  have e3_53 : a3.eval (.tmp 53) = .pointer (some ⟨g, 11, none⟩) := by rw [h3]; exact eval_put_eq _ _ _ (by rw [sz2]; decide)
  clear e2_0 e2_1 e2_52 sz2
  refine takeH (v := .pointer (some ⟨g, 0, none⟩)) opWr7_3 opWr7_ns (by kernel_rfl) (by kernel_rfl) HPN (fun w hw o ho => run_move ho e3_0 w) hH ?_
  refine wpAnyH_as (l' := #[true, true, true, true, false, false, false, false, false, false, false, false, false, false, false, false]) (by kernel_rfl) ?_
  obtain ⟨a4, h4⟩ : ∃ a' : Act, a' = a3.put (some 54) (.pointer (some ⟨g, 0, none⟩)) := ⟨_, rfl⟩
  rw [← h4]
  have sz4 : a4.tmps.size = 82 := by rw [h4, size_put]; exact sz3
  have e4_0 : a4.eval (.tmp 0) = .pointer (some ⟨g, 0, none⟩) := by rw [h4, eval_put_ne _ _ _ _ (by decide)]; exact e3_0
  have e4_1 : a4.eval (.tmp 1) = pv := by rw [h4, eval_put_ne _ _ _ _ (by decide)]; exact e3_1
  have e4_53 : a4.eval (.tmp 53) = .pointer (some ⟨g, 11, none⟩) := by rw [h4, eval_put_ne _ _ _ _ (by decide)]; exact e3_53
  have e4_54 : a4.eval (.tmp 54) = .pointer (some ⟨g, 0, none⟩) := by rw [h4]; exact eval_put_eq _ _ _ (by rw [sz3]; decide)
  clear e3_0 e3_1 e3_53 sz3
  refine takeH (v := .pointer (some ⟨g, 0, none⟩)) opWr7_4 opWr7_ns (by kernel_rfl) (by kernel_rfl) HPN (fun w hw o ho => run_nilCheck ho e4_54 w) hH ?_
  refine wpAnyH_as (l' := #[true, true, true, true, true, false, false, false, false, false, false, false, false, false, false, false]) (by kernel_rfl) ?_
  obtain ⟨a5, h5⟩ : ∃ a' : Act, a' = a4.put (some 55) (.pointer (some ⟨g, 0, none⟩)) := ⟨_, rfl⟩
  rw [← h5]
  have sz5 : a5.tmps.size = 82 := by rw [h5, size_put]; exact sz4
  have e5_0 : a5.eval (.tmp 0) = .pointer (some ⟨g, 0, none⟩) := by rw [h5, eval_put_ne _ _ _ _ (by decide)]; exact e4_0
  have e5_1 : a5.eval (.tmp 1) = pv := by rw [h5, eval_put_ne _ _ _ _ (by decide)]; exact e4_1
  have e5_53 : a5.eval (.tmp 53) = .pointer (some ⟨g, 11, none⟩) := by rw [h5, eval_put_ne _ _ _ _ (by decide)]; exact e4_53
  have e5_55 : a5.eval (.tmp 55) = .pointer (some ⟨g, 0, none⟩) := by rw [h5]; exact eval_put_eq _ _ _ (by rw [sz4]; decide)
  clear e4_0 e4_1 e4_53 e4_54 sz4
  refine takeH (v := .pointer (some ⟨g, 0, none⟩)) opWr7_5 opWr7_ns (by kernel_rfl) (by kernel_rfl) HPN (fun w hw o ho => run_fH0 ho e5_55 w) hH ?_
  refine wpAnyH_as (l' := #[true, true, true, true, true, true, false, false, false, false, false, false, false, false, false, false]) (by kernel_rfl) ?_
  obtain ⟨a6, h6⟩ : ∃ a' : Act, a' = a5.put (some 56) (.pointer (some ⟨g, 0, none⟩)) := ⟨_, rfl⟩
  rw [← h6]
  have sz6 : a6.tmps.size = 82 := by rw [h6, size_put]; exact sz5
  have e6_0 : a6.eval (.tmp 0) = .pointer (some ⟨g, 0, none⟩) := by rw [h6, eval_put_ne _ _ _ _ (by decide)]; exact e5_0
  have e6_1 : a6.eval (.tmp 1) = pv := by rw [h6, eval_put_ne _ _ _ _ (by decide)]; exact e5_1
  have e6_53 : a6.eval (.tmp 53) = .pointer (some ⟨g, 11, none⟩) := by rw [h6, eval_put_ne _ _ _ _ (by decide)]; exact e5_53
  have e6_56 : a6.eval (.tmp 56) = .pointer (some ⟨g, 0, none⟩) := by rw [h6]; exact eval_put_eq _ _ _ (by rw [sz5]; decide)
  clear e5_0 e5_1 e5_53 e5_55 sz5
  refine takeH (v := rv) opWr7_6 opWr7_ns (by kernel_rfl) (by kernel_rfl) HPN (fun w hw o ho => run_ldR ho e6_56 w hw.1) hH ?_
  refine wpAnyH_as (l' := #[true, true, true, true, true, true, true, false, false, false, false, false, false, false, false, false]) (by kernel_rfl) ?_
  obtain ⟨a7, h7⟩ : ∃ a' : Act, a' = a6.put (some 57) (rv) := ⟨_, rfl⟩
  rw [← h7]
  have sz7 : a7.tmps.size = 82 := by rw [h7, size_put]; exact sz6
  have e7_0 : a7.eval (.tmp 0) = .pointer (some ⟨g, 0, none⟩) := by rw [h7, eval_put_ne _ _ _ _ (by decide)]; exact e6_0
  have e7_1 : a7.eval (.tmp 1) = pv := by rw [h7, eval_put_ne _ _ _ _ (by decide)]; exact e6_1
  have e7_53 : a7.eval (.tmp 53) = .pointer (some ⟨g, 11, none⟩) := by rw [h7, eval_put_ne _ _ _ _ (by decide)]; exact e6_53
  have e7_57 : a7.eval (.tmp 57) = rv := by rw [h7]; exact eval_put_eq _ _ _ (by rw [sz6]; decide)
  clear e6_0 e6_1 e6_53 e6_56 sz6
  refine takeH (v := .pointer (some ⟨g, 0, none⟩)) opWr7_7 opWr7_ns (by kernel_rfl) (by kernel_rfl) HPN (fun w hw o ho => run_move ho e7_0 w) hH ?_
  refine wpAnyH_as (l' := #[true, true, true, true, true, true, true, true, false, false, false, false, false, false, false, false]) (by kernel_rfl) ?_
  obtain ⟨a8, h8⟩ : ∃ a' : Act, a' = a7.put (some 58) (.pointer (some ⟨g, 0, none⟩)) := ⟨_, rfl⟩
  rw [← h8]
  have sz8 : a8.tmps.size = 82 := by rw [h8, size_put]; exact sz7
  have e8_1 : a8.eval (.tmp 1) = pv := by rw [h8, eval_put_ne _ _ _ _ (by decide)]; exact e7_1
  have e8_53 : a8.eval (.tmp 53) = .pointer (some ⟨g, 11, none⟩) := by rw [h8, eval_put_ne _ _ _ _ (by decide)]; exact e7_53
  have e8_57 : a8.eval (.tmp 57) = rv := by rw [h8, eval_put_ne _ _ _ _ (by decide)]; exact e7_57
  have e8_58 : a8.eval (.tmp 58) = .pointer (some ⟨g, 0, none⟩) := by rw [h8]; exact eval_put_eq _ _ _ (by rw [sz7]; decide)
  clear e7_0 e7_1 e7_53 e7_57 sz7
  refine takeH (v := .pointer (some ⟨g, 0, none⟩)) opWr7_8 opWr7_ns (by kernel_rfl) (by kernel_rfl) HPN (fun w hw o ho => run_nilCheck ho e8_58 w) hH ?_
  refine wpAnyH_as (l' := #[true, true, true, true, true, true, true, true, true, false, false, false, false, false, false, false]) (by kernel_rfl) ?_
  obtain ⟨a9, h9⟩ : ∃ a' : Act, a' = a8.put (some 59) (.pointer (some ⟨g, 0, none⟩)) := ⟨_, rfl⟩
  rw [← h9]
  have sz9 : a9.tmps.size = 82 := by rw [h9, size_put]; exact sz8
  have e9_1 : a9.eval (.tmp 1) = pv := by rw [h9, eval_put_ne _ _ _ _ (by decide)]; exact e8_1
  have e9_53 : a9.eval (.tmp 53) = .pointer (some ⟨g, 11, none⟩) := by rw [h9, eval_put_ne _ _ _ _ (by decide)]; exact e8_53
  have e9_57 : a9.eval (.tmp 57) = rv := by rw [h9, eval_put_ne _ _ _ _ (by decide)]; exact e8_57
  have e9_59 : a9.eval (.tmp 59) = .pointer (some ⟨g, 0, none⟩) := by rw [h9]; exact eval_put_eq _ _ _ (by rw [sz8]; decide)
  clear e8_1 e8_53 e8_57 e8_58 sz8
  refine takeH (v := .pointer (some ⟨g, 75, none⟩)) opWr7_9 opWr7_ns (by kernel_rfl) (by kernel_rfl) HPN (fun w hw o ho => run_fH5 ho e9_59 w) hH ?_
  refine wpAnyH_as (l' := #[true, true, true, true, true, true, true, true, true, true, false, false, false, false, false, false]) (by kernel_rfl) ?_
  obtain ⟨a10, h10⟩ : ∃ a' : Act, a' = a9.put (some 60) (.pointer (some ⟨g, 75, none⟩)) := ⟨_, rfl⟩
  rw [← h10]
  have sz10 : a10.tmps.size = 82 := by rw [h10, size_put]; exact sz9
  have e10_1 : a10.eval (.tmp 1) = pv := by rw [h10, eval_put_ne _ _ _ _ (by decide)]; exact e9_1
  have e10_53 : a10.eval (.tmp 53) = .pointer (some ⟨g, 11, none⟩) := by rw [h10, eval_put_ne _ _ _ _ (by decide)]; exact e9_53
  have e10_57 : a10.eval (.tmp 57) = rv := by rw [h10, eval_put_ne _ _ _ _ (by decide)]; exact e9_57
  have e10_60 : a10.eval (.tmp 60) = .pointer (some ⟨g, 75, none⟩) := by rw [h10]; exact eval_put_eq _ _ _ (by rw [sz9]; decide)
  clear e9_1 e9_53 e9_57 e9_59 sz9
  refine takeH (v := .int .i64 ((h : Nat) : Int)) opWr7_10 opWr7_ns (by kernel_rfl) (by kernel_rfl) HPN (fun w hw o ho => run_ldI ho e10_60 w hw.2.1) hH ?_
  refine wpAnyH_as (l' := #[true, true, true, true, true, true, true, true, true, true, true, false, false, false, false, false]) (by kernel_rfl) ?_
  obtain ⟨a11, h11⟩ : ∃ a' : Act, a' = a10.put (some 61) (.int .i64 ((h : Nat) : Int)) := ⟨_, rfl⟩
  rw [← h11]
  have sz11 : a11.tmps.size = 82 := by rw [h11, size_put]; exact sz10
  have e11_1 : a11.eval (.tmp 1) = pv := by rw [h11, eval_put_ne _ _ _ _ (by decide)]; exact e10_1
  have e11_53 : a11.eval (.tmp 53) = .pointer (some ⟨g, 11, none⟩) := by rw [h11, eval_put_ne _ _ _ _ (by decide)]; exact e10_53
  have e11_57 : a11.eval (.tmp 57) = rv := by rw [h11, eval_put_ne _ _ _ _ (by decide)]; exact e10_57
  have e11_61 : a11.eval (.tmp 61) = .int .i64 ((h : Nat) : Int) := by rw [h11]; exact eval_put_eq _ _ _ (by rw [sz10]; decide)
  clear e10_1 e10_53 e10_57 e10_60 sz10
  refine takeH (v := pv) opWr7_13 opWr7_ns (by kernel_rfl) (by kernel_rfl) HPN (fun w hw o ho => run_move ho e11_1 w) hH ?_
  refine wpAnyH_as (l' := #[true, true, true, true, true, true, true, true, true, true, true, false, false, true, false, false]) (by kernel_rfl) ?_
  obtain ⟨a12, h12⟩ : ∃ a' : Act, a' = a11.put (some 64) (pv) := ⟨_, rfl⟩
  rw [← h12]
  have sz12 : a12.tmps.size = 82 := by rw [h12, size_put]; exact sz11
  have e12_53 : a12.eval (.tmp 53) = .pointer (some ⟨g, 11, none⟩) := by rw [h12, eval_put_ne _ _ _ _ (by decide)]; exact e11_53
  have e12_57 : a12.eval (.tmp 57) = rv := by rw [h12, eval_put_ne _ _ _ _ (by decide)]; exact e11_57
  have e12_61 : a12.eval (.tmp 61) = .int .i64 ((h : Nat) : Int) := by rw [h12, eval_put_ne _ _ _ _ (by decide)]; exact e11_61
  have e12_64 : a12.eval (.tmp 64) = pv := by rw [h12]; exact eval_put_eq _ _ _ (by rw [sz11]; decide)
  clear e11_1 e11_53 e11_57 e11_61 sz11
  refine readyH opWr7_11 (by kernel_rfl) (fun o ho hd => wpCall (v := .int .i64 ((h : Nat) : Int)) ho hd (args := #[rv, .int .i64 ((h : Nat) : Int)]) (by simp only [List.map_toArray, List.map_cons, List.map_nil, e12_57, e12_61] <;> rfl) (fun _ => rfl) (HK0.out  w0 hw0) (fun w1 hw1 => ?_))
  have hH := HS1  w1 hw1
  refine ⟨hH, ?_⟩
  refine wpAnyH_as (l' := #[true, true, true, true, true, true, true, true, true, true, true, true, false, true, false, false]) (by kernel_rfl) ?_
  obtain ⟨a13, h13⟩ : ∃ a' : Act, a' = a12.put (some 62) (.int .i64 ((h : Nat) : Int)) := ⟨_, rfl⟩
  rw [← h13]
  have sz13 : a13.tmps.size = 82 := by rw [h13, size_put]; exact sz12
  have e13_53 : a13.eval (.tmp 53) = .pointer (some ⟨g, 11, none⟩) := by rw [h13, eval_put_ne _ _ _ _ (by decide)]; exact e12_53
  have e13_64 : a13.eval (.tmp 64) = pv := by rw [h13, eval_put_ne _ _ _ _ (by decide)]; exact e12_64
  have e13_62 : a13.eval (.tmp 62) = .int .i64 ((h : Nat) : Int) := by rw [h13]; exact eval_put_eq _ _ _ (by rw [sz12]; decide)
  clear e12_53 e12_57 e12_61 e12_64 sz12
  refine takeH (v := .slice (some ⟨g, 11 + h, none⟩) (64 - h) (64 - h)) opWr7_12 opWr7_ns (by kernel_rfl) (by kernel_rfl) HPN (fun w hw o ho => run_sl64F hHb.out ho e13_53 e13_62 w) hH ?_
  refine wpAnyH_as (l' := #[true, true, true, true, true, true, true, true, true, true, true, true, true, true, false, false]) (by kernel_rfl) ?_
  obtain ⟨a14, h14⟩ : ∃ a' : Act, a' = a13.put (some 63) (.slice (some ⟨g, 11 + h, none⟩) (64 - h) (64 - h)) := ⟨_, rfl⟩
  rw [← h14]
  have sz14 : a14.tmps.size = 82 := by rw [h14, size_put]; exact sz13
  have e14_64 : a14.eval (.tmp 64) = pv := by rw [h14, eval_put_ne _ _ _ _ (by decide)]; exact e13_64
  have e14_63 : a14.eval (.tmp 63) = .slice (some ⟨g, 11 + h, none⟩) (64 - h) (64 - h) := by rw [h14]; exact eval_put_eq _ _ _ (by rw [sz13]; decide)
  clear e13_53 e13_62 e13_64 sz13
  refine readyH opWr7_14 (by kernel_rfl) (fun o ho hd => HK1.out  w1 hw1 _ o _ _ ho hd e14_63 e14_64 (fun  w2 hw2 => ?_))
  have hH := HS2  w2 hw2
  refine ⟨hH, ?_⟩
  refine wpAnyH_as (l' := #[true, true, true, true, true, true, true, true, true, true, true, true, true, true, true, false]) (by kernel_rfl) ?_
  obtain ⟨a15, h15⟩ : ∃ a' : Act, a' = a14.put (some 65) (kv) := ⟨_, rfl⟩
  rw [← h15]
  have sz15 : a15.tmps.size = 82 := by rw [h15, size_put]; exact sz14
  have e15_65 : a15.eval (.tmp 65) = kv := by rw [h15]; exact eval_put_eq _ _ _ (by rw [sz14]; decide)
  clear e14_63 e14_64 sz14
  refine readyH opWr7_15 (by kernel_rfl) (fun o ho hd => wpRun (v := kv) (w' := w2) hd (run_assign ho e15_65 w2) ⟨hH, ?_⟩)
  refine wpAnyH_as (l' := #[true, true, true, true, true, true, true, true, true, true, true, true, true, true, true, true]) (by kernel_rfl) ?_
  obtain ⟨a16, h16⟩ : ∃ a' : Act, a' = a15.put (some 4) (kv) := ⟨_, rfl⟩
  rw [← h16]
  have sz16 : a16.tmps.size = 82 := by rw [h16, size_put]; exact sz15
  clear e15_65 sz15
  refine wpAnyH_done (by kernel_rfl) ?_ _
  have hF : a16 = ⟨#[.pointer (some ⟨g, 0, none⟩), pv, c2, c3, kv, c5, c6, c7, c8, c9, c10, c11, c12, c13, c14, c15, c16, c17, c18, c19, c20, c21, c22, c23, c24, c25, c26, c27, c28, c29, c30, c31, c32, c33, c34, c35, c36, c37, c38, c39, c40, c41, c42, c43, c44, c45, c46, c47, c48, c49, c50, .pointer (some ⟨g, 0, none⟩), .pointer (some ⟨g, 0, none⟩), .pointer (some ⟨g, 11, none⟩), .pointer (some ⟨g, 0, none⟩), .pointer (some ⟨g, 0, none⟩), .pointer (some ⟨g, 0, none⟩), rv, .pointer (some ⟨g, 0, none⟩), .pointer (some ⟨g, 0, none⟩), .pointer (some ⟨g, 75, none⟩), .int .i64 ((h : Nat) : Int), .int .i64 ((h : Nat) : Int), .slice (some ⟨g, 11 + h, none⟩) (64 - h) (64 - h), pv, kv, c66, c67, c68, c69, c70, c71, c72, c73, c74, c75, c76, c77, c78, c79, c80, c81], []⟩ := by rw [h16, h15, h14, h13, h12, h11, h10, h9, h8, h7, h6, h5, h4, h3, h2, h1, ha]; kernel_rfl
  rw [hF]
  exact H  _ hw2
noncomputable def rgSu5 : Code := ((Tryd.f9.body.bind (findReg 5)).getD .skip)
noncomputable def opSu5 : Array Oper := opsOf rgSu5
theorem rgSu5_is : rgSu5 = .region 5 opSu5 true := by kernel_rfl
theorem opSu5_ns : Region.noSelect opSu5 = true := by kernel_rfl
theorem opSu5_0 : opIs opSu5 0 (.slice 49 (.tmp 4) none none none) (some 13) := by unfold opIs; kernel_rfl
theorem opSu5_1 : opIs opSu5 1 (.move (.tmp 0)) (some 14) := by unfold opIs; kernel_rfl
theorem opSu5_2 : opIs opSu5 2 (.nilCheck (.tmp 14)) (some 15) := by unfold opIs; kernel_rfl
theorem opSu5_3 : opIs opSu5 3 (.fieldAddr 51 (.tmp 15) 4) (some 16) := by unfold opIs; kernel_rfl
theorem opSu5_4 : opIs opSu5 4 (.move (.tmp 0)) (some 17) := by unfold opIs; kernel_rfl
theorem opSu5_5 : opIs opSu5 5 (.nilCheck (.tmp 17)) (some 18) := by unfold opIs; kernel_rfl
theorem opSu5_6 : opIs opSu5 6 (.fieldAddr 51 (.tmp 18) 0) (some 19) := by unfold opIs; kernel_rfl
theorem opSu5_7 : opIs opSu5 7 (.load 37 (.tmp 19)) (some 20) := by unfold opIs; kernel_rfl
theorem opSu5_8 : opIs opSu5 8 (.move (.tmp 0)) (some 21) := by unfold opIs; kernel_rfl
theorem opSu5_9 : opIs opSu5 9 (.nilCheck (.tmp 21)) (some 22) := by unfold opIs; kernel_rfl
theorem opSu5_10 : opIs opSu5 10 (.fieldAddr 51 (.tmp 22) 5) (some 23) := by unfold opIs; kernel_rfl
theorem opSu5_11 : opIs opSu5 11 (.load 3 (.tmp 23)) (some 24) := by unfold opIs; kernel_rfl
theorem opSu5_12 : opIs opSu5 12 (.call { callee := .value (.func 19), args := #[.tmp 20, .tmp 24], argTypes := #[37, 3] }) (some 25) := by unfold opIs; kernel_rfl
theorem opSu5_13 : opIs opSu5 13 (.slice 49 (.tmp 16) none (some (.tmp 25)) none) (some 26) := by unfold opIs; kernel_rfl
theorem opSu5_14 : opIs opSu5 14 (.call { callee := .builtin .copy, args := #[.tmp 13, .tmp 26], argTypes := #[22, 22] }) (some 27) := by unfold opIs; kernel_rfl
set_option maxRecDepth 100000 in
set_option maxHeartbeats 4000000 in
theorem Su5 {Q : Exit → Act → World → Prop} {W : World} {R0 : World → Prop} {R1 : World → Prop} {R2 : World → Prop} {g h p : Nat} {rv : Value} {p4 : Nat} {kv : Value} {c1 c2 c3 c5 c6 c7 c8 c9 c10 c11 c12 c13 c14 c15 c16 c17 c18 c19 c20 c21 c22 c23 c24 c25 c26 c27 c28 c29 c30 c31 c32 c33 c34 c35 c36 c37 c38 c39 c40 c41 c42 c43 c44 c45 c46 c47 c48 c49 c50 c51 c52 c53 : Value}
    (hHb : Hid (h ≤ 64))
    (hR0 : R0 W.drew) (HS0 : ∀ Y, R0 Y → (fun Y : World => Y.cell? ⟨g, 0, none⟩ = some rv ∧ Y.cell? ⟨g, 75, none⟩ = some (.int .i64 ((h : Nat) : Int)) ∧ Y.cell? ⟨g, 10, none⟩ = some (.int .u64 ((p : Nat) : Int))) Y)
    (HK0 : Hid (∀ Y, R0 Y → Calls Tryd.prog 19 #[rv, .int .i64 ((h : Nat) : Int)] Y fun e w' => e = .returned (.int .i64 ((h : Nat) : Int)) ∧ R1 w'))
    (HS1 : ∀ Y, R1 Y → (fun Y : World => Y.cell? ⟨g, 0, none⟩ = some rv ∧ Y.cell? ⟨g, 75, none⟩ = some (.int .i64 ((h : Nat) : Int)) ∧ Y.cell? ⟨g, 10, none⟩ = some (.int .u64 ((p : Nat) : Int))) Y)
    (HK1 : Hid (∀ Y, R1 Y → ∀ (a : Act) (o : Oper) (K : Act → World → Prop) (Q : Exit → Act → World → Prop), o.op = .call { callee := .builtin .copy, args := #[.tmp 13, .tmp 26], argTypes := #[22, 22] } → o.dst = some 27 → a.eval (.tmp 13) = .slice (some ⟨p4, 0, none⟩) 64 64 → a.eval (.tmp 26) = .slice (some ⟨g, 11, none⟩) h 64 → (∀ w', R2 w' → K (a.put (some 27) (kv)) w') → Oper.wp Tryd.prog o a Y K Q))
    (HS2 : ∀ Y, R2 Y → (fun Y : World => Y.cell? ⟨g, 0, none⟩ = some rv ∧ Y.cell? ⟨g, 75, none⟩ = some (.int .i64 ((h : Nat) : Int)) ∧ Y.cell? ⟨g, 10, none⟩ = some (.int .u64 ((p : Nat) : Int))) Y)
    (HPN : ∀ c (a : Act) d v w, Q (.panic c) (a.put d v) w → Q (.panic c) a w)
    (H : ∀ W', R2 W' → Q .normal ⟨#[.pointer (some ⟨g, 0, none⟩), c1, c2, c3, .pointer (some ⟨p4, 0, none⟩), c5, c6, c7, c8, c9, c10, c11, c12, .slice (some ⟨p4, 0, none⟩) 64 64, .pointer (some ⟨g, 0, none⟩), .pointer (some ⟨g, 0, none⟩), .pointer (some ⟨g, 11, none⟩), .pointer (some ⟨g, 0, none⟩), .pointer (some ⟨g, 0, none⟩), .pointer (some ⟨g, 0, none⟩), rv, .pointer (some ⟨g, 0, none⟩), .pointer (some ⟨g, 0, none⟩), .pointer (some ⟨g, 75, none⟩), .int .i64 ((h : Nat) : Int), .int .i64 ((h : Nat) : Int), .slice (some ⟨g, 11, none⟩) h 64, kv, c28, c29, c30, c31, c32, c33, c34, c35, c36, c37, c38, c39, c40, c41, c42, c43, c44, c45, c46, c47, c48, c49, c50, c51, c52, c53], []⟩ W') :
    Code.wp Tryd.prog rgSu5 Q ⟨#[.pointer (some ⟨g, 0, none⟩), c1, c2, c3, .pointer (some ⟨p4, 0, none⟩), c5, c6, c7, c8, c9, c10, c11, c12, c13, c14, c15, c16, c17, c18, c19, c20, c21, c22, c23, c24, c25, c26, c27, c28, c29, c30, c31, c32, c33, c34, c35, c36, c37, c38, c39, c40, c41, c42, c43, c44, c45, c46, c47, c48, c49, c50, c51, c52, c53], []⟩ W := by
  rw [rgSu5_is]
  refine wp_region_held_drew (S := fun Y : World => Y.cell? ⟨g, 0, none⟩ = some rv ∧ Y.cell? ⟨g, 75, none⟩ = some (.int .i64 ((h : Nat) : Int)) ∧ Y.cell? ⟨g, 10, none⟩ = some (.int .u64 ((p : Nat) : Int))) (by kernel_rfl) (HS0 _ hR0) (fun hH => ?_)
  obtain ⟨w0, hw00⟩ : ∃ V, W.drew = V := ⟨_, rfl⟩
  clear hH
  rw [hw00] at hR0 ⊢
  have hH := HS0 _ hR0
  have hw0 := hR0
  clear hw00
  obtain ⟨a0, ha⟩ : ∃ a : Act, a = ⟨#[.pointer (some ⟨g, 0, none⟩), c1, c2, c3, .pointer (some ⟨p4, 0, none⟩), c5, c6, c7, c8, c9, c10, c11, c12, c13, c14, c15, c16, c17, c18, c19, c20, c21, c22, c23, c24, c25, c26, c27, c28, c29, c30, c31, c32, c33, c34, c35, c36, c37, c38, c39, c40, c41, c42, c43, c44, c45, c46, c47, c48, c49, c50, c51, c52, c53], []⟩ := ⟨_, rfl⟩
  have sz0 : a0.tmps.size = 54 := by rw [ha]; kernel_rfl
  have e0_0 : a0.eval (.tmp 0) = .pointer (some ⟨g, 0, none⟩) := by rw [ha]; kernel_rfl
  have e0_4 : a0.eval (.tmp 4) = .pointer (some ⟨p4, 0, none⟩) := by rw [ha]; kernel_rfl
  rw [← ha]
  refine wpAnyH_as (l' := #[false, false, false, false, false, false, false, false, false, false, false, false, false, false, false]) (by kernel_rfl) ?_
  refine takeH (v := .slice (some ⟨p4, 0, none⟩) 64 64) opSu5_0 opSu5_ns (by kernel_rfl) (by kernel_rfl) HPN (fun w hw o ho => run_sl64 ho e0_4 w) hH ?_
  refine wpAnyH_as (l' := #[true, false, false, false, false, false, false, false, false, false, false, false, false, false, false]) (by kernel_rfl) ?_
  obtain ⟨a1, h1⟩ : ∃ a' : Act, a' = a0.put (some 13) (.slice (some ⟨p4, 0, none⟩) 64 64) := ⟨_, rfl⟩
  rw [← h1]
  have sz1 : a1.tmps.size = 54 := by rw [h1, size_put]; exact sz0
  have e1_0 : a1.eval (.tmp 0) = .pointer (some ⟨g, 0, none⟩) := by rw [h1, eval_put_ne _ _ _ _ (by decide)]; exact e0_0
  have e1_13 : a1.eval (.tmp 13) = .slice (some ⟨p4, 0, none⟩) 64 64 := by rw [h1]; exact eval_put_eq _ _ _ (by rw [sz0]; decide)
  clear e0_0 e0_4 sz0
  refine takeH (v := .pointer (some ⟨g, 0, none⟩)) opSu5_1 opSu5_ns (by kernel_rfl) (by kernel_rfl) HPN (fun w hw o ho => run_move ho e1_0 w) hH ?_
  refine wpAnyH_as (l' := #[true, true, false, false, false, false, false, false, false, false, false, false, false, false, false]) (by kernel_rfl) ?_
  obtain ⟨a2, h2⟩ : ∃ a' : Act, a' = a1.put (some 14) (.pointer (some ⟨g, 0, none⟩)) := ⟨_, rfl⟩
  rw [← h2]
  have sz2 : a2.tmps.size = 54 := by rw [h2, size_put]; exact sz1
  have e2_0 : a2.eval (.tmp 0) = .pointer (some ⟨g, 0, none⟩) := by rw [h2, eval_put_ne _ _ _ _ (by decide)]; exact e1_0
  have e2_13 : a2.eval (.tmp 13) = .slice (some ⟨p4, 0, none⟩) 64 64 := by rw [h2, eval_put_ne _ _ _ _ (by decide)]; exact e1_13
  have e2_14 : a2.eval (.tmp 14) = .pointer (some ⟨g, 0, none⟩) := by rw [h2]; exact eval_put_eq _ _ _ (by rw [sz1]; decide)
  clear e1_0 e1_13 sz1
  refine takeH (v := .pointer (some ⟨g, 0, none⟩)) opSu5_2 opSu5_ns (by kernel_rfl) (by kernel_rfl) HPN (fun w hw o ho => run_nilCheck ho e2_14 w) hH ?_
  refine wpAnyH_as (l' := #[true, true, true, false, false, false, false, false, false, false, false, false, false, false, false]) (by kernel_rfl) ?_
  obtain ⟨a3, h3⟩ : ∃ a' : Act, a' = a2.put (some 15) (.pointer (some ⟨g, 0, none⟩)) := ⟨_, rfl⟩
  rw [← h3]
  have sz3 : a3.tmps.size = 54 := by rw [h3, size_put]; exact sz2
  have e3_0 : a3.eval (.tmp 0) = .pointer (some ⟨g, 0, none⟩) := by rw [h3, eval_put_ne _ _ _ _ (by decide)]; exact e2_0
  have e3_13 : a3.eval (.tmp 13) = .slice (some ⟨p4, 0, none⟩) 64 64 := by rw [h3, eval_put_ne _ _ _ _ (by decide)]; exact e2_13
  have e3_15 : a3.eval (.tmp 15) = .pointer (some ⟨g, 0, none⟩) := by rw [h3]; exact eval_put_eq _ _ _ (by rw [sz2]; decide)
  clear e2_0 e2_13 e2_14 sz2
  refine takeH (v := .pointer (some ⟨g, 11, none⟩)) opSu5_3 opSu5_ns (by kernel_rfl) (by kernel_rfl) HPN (fun w hw o ho => run_fH4 ho e3_15 w) hH ?_
  refine wpAnyH_as (l' := #[true, true, true, true, false, false, false, false, false, false, false, false, false, false, false]) (by kernel_rfl) ?_
  obtain ⟨a4, h4⟩ : ∃ a' : Act, a' = a3.put (some 16) (.pointer (some ⟨g, 11, none⟩)) := ⟨_, rfl⟩
  rw [← h4]
  have sz4 : a4.tmps.size = 54 := by rw [h4, size_put]; exact sz3
  have e4_0 : a4.eval (.tmp 0) = .pointer (some ⟨g, 0, none⟩) := by rw [h4, eval_put_ne _ _ _ _ (by decide)]; exact e3_0
  have e4_13 : a4.eval (.tmp 13) = .slice (some ⟨p4, 0, none⟩) 64 64 := by rw [h4, eval_put_ne _ _ _ _ (by decide)]; exact e3_13
  have e4_16 : a4.eval (.tmp 16) = .pointer (some ⟨g, 11, none⟩) := by rw [h4]; exact eval_put_eq _ _ _ (by rw [sz3]; decide)
  clear e3_0 e3_13 e3_15 sz3
  refine takeH (v := .pointer (some ⟨g, 0, none⟩)) opSu5_4 opSu5_ns (by kernel_rfl) (by kernel_rfl) HPN (fun w hw o ho => run_move ho e4_0 w) hH ?_
  refine wpAnyH_as (l' := #[true, true, true, true, true, false, false, false, false, false, false, false, false, false, false]) (by kernel_rfl) ?_
  obtain ⟨a5, h5⟩ : ∃ a' : Act, a' = a4.put (some 17) (.pointer (some ⟨g, 0, none⟩)) := ⟨_, rfl⟩
  rw [← h5]
  have sz5 : a5.tmps.size = 54 := by rw [h5, size_put]; exact sz4
  have e5_0 : a5.eval (.tmp 0) = .pointer (some ⟨g, 0, none⟩) := by rw [h5, eval_put_ne _ _ _ _ (by decide)]; exact e4_0
  have e5_13 : a5.eval (.tmp 13) = .slice (some ⟨p4, 0, none⟩) 64 64 := by rw [h5, eval_put_ne _ _ _ _ (by decide)]; exact e4_13
  have e5_16 : a5.eval (.tmp 16) = .pointer (some ⟨g, 11, none⟩) := by rw [h5, eval_put_ne _ _ _ _ (by decide)]; exact e4_16
  have e5_17 : a5.eval (.tmp 17) = .pointer (some ⟨g, 0, none⟩) := by rw [h5]; exact eval_put_eq _ _ _ (by rw [sz4]; decide)
  clear e4_0 e4_13 e4_16 sz4
  refine takeH (v := .pointer (some ⟨g, 0, none⟩)) opSu5_5 opSu5_ns (by kernel_rfl) (by kernel_rfl) HPN (fun w hw o ho => run_nilCheck ho e5_17 w) hH ?_
  refine wpAnyH_as (l' := #[true, true, true, true, true, true, false, false, false, false, false, false, false, false, false]) (by kernel_rfl) ?_
  obtain ⟨a6, h6⟩ : ∃ a' : Act, a' = a5.put (some 18) (.pointer (some ⟨g, 0, none⟩)) := ⟨_, rfl⟩
  rw [← h6]
  have sz6 : a6.tmps.size = 54 := by rw [h6, size_put]; exact sz5
  have e6_0 : a6.eval (.tmp 0) = .pointer (some ⟨g, 0, none⟩) := by rw [h6, eval_put_ne _ _ _ _ (by decide)]; exact e5_0
  have e6_13 : a6.eval (.tmp 13) = .slice (some ⟨p4, 0, none⟩) 64 64 := by rw [h6, eval_put_ne _ _ _ _ (by decide)]; exact e5_13
  have e6_16 : a6.eval (.tmp 16) = .pointer (some ⟨g, 11, none⟩) := by rw [h6, eval_put_ne _ _ _ _ (by decide)]; exact e5_16
  have e6_18 : a6.eval (.tmp 18) = .pointer (some ⟨g, 0, none⟩) := by rw [h6]; exact eval_put_eq _ _ _ (by rw [sz5]; decide)
  clear e5_0 e5_13 e5_16 e5_17 sz5
  refine takeH (v := .pointer (some ⟨g, 0, none⟩)) opSu5_6 opSu5_ns (by kernel_rfl) (by kernel_rfl) HPN (fun w hw o ho => run_fH0 ho e6_18 w) hH ?_
  refine wpAnyH_as (l' := #[true, true, true, true, true, true, true, false, false, false, false, false, false, false, false]) (by kernel_rfl) ?_
  obtain ⟨a7, h7⟩ : ∃ a' : Act, a' = a6.put (some 19) (.pointer (some ⟨g, 0, none⟩)) := ⟨_, rfl⟩
  rw [← h7]
  have sz7 : a7.tmps.size = 54 := by rw [h7, size_put]; exact sz6
  have e7_0 : a7.eval (.tmp 0) = .pointer (some ⟨g, 0, none⟩) := by rw [h7, eval_put_ne _ _ _ _ (by decide)]; exact e6_0
  have e7_13 : a7.eval (.tmp 13) = .slice (some ⟨p4, 0, none⟩) 64 64 := by rw [h7, eval_put_ne _ _ _ _ (by decide)]; exact e6_13
  have e7_16 : a7.eval (.tmp 16) = .pointer (some ⟨g, 11, none⟩) := by rw [h7, eval_put_ne _ _ _ _ (by decide)]; exact e6_16
  have e7_19 : a7.eval (.tmp 19) = .pointer (some ⟨g, 0, none⟩) := by rw [h7]; exact eval_put_eq _ _ _ (by rw [sz6]; decide)
  clear e6_0 e6_13 e6_16 e6_18 sz6
  refine takeH (v := rv) opSu5_7 opSu5_ns (by kernel_rfl) (by kernel_rfl) HPN (fun w hw o ho => run_ldR ho e7_19 w hw.1) hH ?_
  refine wpAnyH_as (l' := #[true, true, true, true, true, true, true, true, false, false, false, false, false, false, false]) (by kernel_rfl) ?_
  obtain ⟨a8, h8⟩ : ∃ a' : Act, a' = a7.put (some 20) (rv) := ⟨_, rfl⟩
  rw [← h8]
  have sz8 : a8.tmps.size = 54 := by rw [h8, size_put]; exact sz7
  have e8_0 : a8.eval (.tmp 0) = .pointer (some ⟨g, 0, none⟩) := by rw [h8, eval_put_ne _ _ _ _ (by decide)]; exact e7_0
  have e8_13 : a8.eval (.tmp 13) = .slice (some ⟨p4, 0, none⟩) 64 64 := by rw [h8, eval_put_ne _ _ _ _ (by decide)]; exact e7_13
  have e8_16 : a8.eval (.tmp 16) = .pointer (some ⟨g, 11, none⟩) := by rw [h8, eval_put_ne _ _ _ _ (by decide)]; exact e7_16
  have e8_20 : a8.eval (.tmp 20) = rv := by rw [h8]; exact eval_put_eq _ _ _ (by rw [sz7]; decide)
  clear e7_0 e7_13 e7_16 e7_19 sz7
  refine takeH (v := .pointer (some ⟨g, 0, none⟩)) opSu5_8 opSu5_ns (by kernel_rfl) (by kernel_rfl) HPN (fun w hw o ho => run_move ho e8_0 w) hH ?_
  refine wpAnyH_as (l' := #[true, true, true, true, true, true, true, true, true, false, false, false, false, false, false]) (by kernel_rfl) ?_
  obtain ⟨a9, h9⟩ : ∃ a' : Act, a' = a8.put (some 21) (.pointer (some ⟨g, 0, none⟩)) := ⟨_, rfl⟩
  rw [← h9]
  have sz9 : a9.tmps.size = 54 := by rw [h9, size_put]; exact sz8
  have e9_13 : a9.eval (.tmp 13) = .slice (some ⟨p4, 0, none⟩) 64 64 := by rw [h9, eval_put_ne _ _ _ _ (by decide)]; exact e8_13
  have e9_16 : a9.eval (.tmp 16) = .pointer (some ⟨g, 11, none⟩) := by rw [h9, eval_put_ne _ _ _ _ (by decide)]; exact e8_16
  have e9_20 : a9.eval (.tmp 20) = rv := by rw [h9, eval_put_ne _ _ _ _ (by decide)]; exact e8_20
  have e9_21 : a9.eval (.tmp 21) = .pointer (some ⟨g, 0, none⟩) := by rw [h9]; exact eval_put_eq _ _ _ (by rw [sz8]; decide)
  clear e8_0 e8_13 e8_16 e8_20 sz8
  refine takeH (v := .pointer (some ⟨g, 0, none⟩)) opSu5_9 opSu5_ns (by kernel_rfl) (by kernel_rfl) HPN (fun w hw o ho => run_nilCheck ho e9_21 w) hH ?_
  refine wpAnyH_as (l' := #[true, true, true, true, true, true, true, true, true, true, false, false, false, false, false]) (by kernel_rfl) ?_
  obtain ⟨a10, h10⟩ : ∃ a' : Act, a' = a9.put (some 22) (.pointer (some ⟨g, 0, none⟩)) := ⟨_, rfl⟩
  rw [← h10]
  have sz10 : a10.tmps.size = 54 := by rw [h10, size_put]; exact sz9
  have e10_13 : a10.eval (.tmp 13) = .slice (some ⟨p4, 0, none⟩) 64 64 := by rw [h10, eval_put_ne _ _ _ _ (by decide)]; exact e9_13
  have e10_16 : a10.eval (.tmp 16) = .pointer (some ⟨g, 11, none⟩) := by rw [h10, eval_put_ne _ _ _ _ (by decide)]; exact e9_16
  have e10_20 : a10.eval (.tmp 20) = rv := by rw [h10, eval_put_ne _ _ _ _ (by decide)]; exact e9_20
  have e10_22 : a10.eval (.tmp 22) = .pointer (some ⟨g, 0, none⟩) := by rw [h10]; exact eval_put_eq _ _ _ (by rw [sz9]; decide)
  clear e9_13 e9_16 e9_20 e9_21 sz9
  refine takeH (v := .pointer (some ⟨g, 75, none⟩)) opSu5_10 opSu5_ns (by kernel_rfl) (by kernel_rfl) HPN (fun w hw o ho => run_fH5 ho e10_22 w) hH ?_
  refine wpAnyH_as (l' := #[true, true, true, true, true, true, true, true, true, true, true, false, false, false, false]) (by kernel_rfl) ?_
  obtain ⟨a11, h11⟩ : ∃ a' : Act, a' = a10.put (some 23) (.pointer (some ⟨g, 75, none⟩)) := ⟨_, rfl⟩
  rw [← h11]
  have sz11 : a11.tmps.size = 54 := by rw [h11, size_put]; exact sz10
  have e11_13 : a11.eval (.tmp 13) = .slice (some ⟨p4, 0, none⟩) 64 64 := by rw [h11, eval_put_ne _ _ _ _ (by decide)]; exact e10_13
  have e11_16 : a11.eval (.tmp 16) = .pointer (some ⟨g, 11, none⟩) := by rw [h11, eval_put_ne _ _ _ _ (by decide)]; exact e10_16
  have e11_20 : a11.eval (.tmp 20) = rv := by rw [h11, eval_put_ne _ _ _ _ (by decide)]; exact e10_20
  have e11_23 : a11.eval (.tmp 23) = .pointer (some ⟨g, 75, none⟩) := by rw [h11]; exact eval_put_eq _ _ _ (by rw [sz10]; decide)
  clear e10_13 e10_16 e10_20 e10_22 sz10
  refine takeH (v := .int .i64 ((h : Nat) : Int)) opSu5_11 opSu5_ns (by kernel_rfl) (by kernel_rfl) HPN (fun w hw o ho => run_ldI ho e11_23 w hw.2.1) hH ?_
  refine wpAnyH_as (l' := #[true, true, true, true, true, true, true, true, true, true, true, true, false, false, false]) (by kernel_rfl) ?_
  obtain ⟨a12, h12⟩ : ∃ a' : Act, a' = a11.put (some 24) (.int .i64 ((h : Nat) : Int)) := ⟨_, rfl⟩
  rw [← h12]
  have sz12 : a12.tmps.size = 54 := by rw [h12, size_put]; exact sz11
  have e12_13 : a12.eval (.tmp 13) = .slice (some ⟨p4, 0, none⟩) 64 64 := by rw [h12, eval_put_ne _ _ _ _ (by decide)]; exact e11_13
  have e12_16 : a12.eval (.tmp 16) = .pointer (some ⟨g, 11, none⟩) := by rw [h12, eval_put_ne _ _ _ _ (by decide)]; exact e11_16
  have e12_20 : a12.eval (.tmp 20) = rv := by rw [h12, eval_put_ne _ _ _ _ (by decide)]; exact e11_20
  have e12_24 : a12.eval (.tmp 24) = .int .i64 ((h : Nat) : Int) := by rw [h12]; exact eval_put_eq _ _ _ (by rw [sz11]; decide)
  clear e11_13 e11_16 e11_20 e11_23 sz11
  refine readyH opSu5_12 (by kernel_rfl) (fun o ho hd => wpCall (v := .int .i64 ((h : Nat) : Int)) ho hd (args := #[rv, .int .i64 ((h : Nat) : Int)]) (by simp only [List.map_toArray, List.map_cons, List.map_nil, e12_20, e12_24] <;> rfl) (fun _ => rfl) (HK0.out  w0 hw0) (fun w1 hw1 => ?_))
  have hH := HS1  w1 hw1
  refine ⟨hH, ?_⟩
  refine wpAnyH_as (l' := #[true, true, true, true, true, true, true, true, true, true, true, true, true, false, false]) (by kernel_rfl) ?_
  obtain ⟨a13, h13⟩ : ∃ a' : Act, a' = a12.put (some 25) (.int .i64 ((h : Nat) : Int)) := ⟨_, rfl⟩
  rw [← h13]
  have sz13 : a13.tmps.size = 54 := by rw [h13, size_put]; exact sz12
  have e13_13 : a13.eval (.tmp 13) = .slice (some ⟨p4, 0, none⟩) 64 64 := by rw [h13, eval_put_ne _ _ _ _ (by decide)]; exact e12_13
  have e13_16 : a13.eval (.tmp 16) = .pointer (some ⟨g, 11, none⟩) := by rw [h13, eval_put_ne _ _ _ _ (by decide)]; exact e12_16
  have e13_25 : a13.eval (.tmp 25) = .int .i64 ((h : Nat) : Int) := by rw [h13]; exact eval_put_eq _ _ _ (by rw [sz12]; decide)
  clear e12_13 e12_16 e12_20 e12_24 sz12
  refine takeH (v := .slice (some ⟨g, 11, none⟩) h 64) opSu5_13 opSu5_ns (by kernel_rfl) (by kernel_rfl) HPN (fun w hw o ho => run_sl64T hHb.out ho e13_16 e13_25 w) hH ?_
  refine wpAnyH_as (l' := #[true, true, true, true, true, true, true, true, true, true, true, true, true, true, false]) (by kernel_rfl) ?_
  obtain ⟨a14, h14⟩ : ∃ a' : Act, a' = a13.put (some 26) (.slice (some ⟨g, 11, none⟩) h 64) := ⟨_, rfl⟩
  rw [← h14]
  have sz14 : a14.tmps.size = 54 := by rw [h14, size_put]; exact sz13
  have e14_13 : a14.eval (.tmp 13) = .slice (some ⟨p4, 0, none⟩) 64 64 := by rw [h14, eval_put_ne _ _ _ _ (by decide)]; exact e13_13
  have e14_26 : a14.eval (.tmp 26) = .slice (some ⟨g, 11, none⟩) h 64 := by rw [h14]; exact eval_put_eq _ _ _ (by rw [sz13]; decide)
  clear e13_13 e13_16 e13_25 sz13
  refine readyH opSu5_14 (by kernel_rfl) (fun o ho hd => HK1.out  w1 hw1 _ o _ _ ho hd e14_13 e14_26 (fun  w2 hw2 => ?_))
  have hH := HS2  w2 hw2
  refine ⟨hH, ?_⟩
  refine wpAnyH_as (l' := #[true, true, true, true, true, true, true, true, true, true, true, true, true, true, true]) (by kernel_rfl) ?_
  obtain ⟨a15, h15⟩ : ∃ a' : Act, a' = a14.put (some 27) (kv) := ⟨_, rfl⟩
  rw [← h15]
  have sz15 : a15.tmps.size = 54 := by rw [h15, size_put]; exact sz14
  clear e14_13 e14_26 sz14
  refine wpAnyH_done (by kernel_rfl) ?_ _
  have hF : a15 = ⟨#[.pointer (some ⟨g, 0, none⟩), c1, c2, c3, .pointer (some ⟨p4, 0, none⟩), c5, c6, c7, c8, c9, c10, c11, c12, .slice (some ⟨p4, 0, none⟩) 64 64, .pointer (some ⟨g, 0, none⟩), .pointer (some ⟨g, 0, none⟩), .pointer (some ⟨g, 11, none⟩), .pointer (some ⟨g, 0, none⟩), .pointer (some ⟨g, 0, none⟩), .pointer (some ⟨g, 0, none⟩), rv, .pointer (some ⟨g, 0, none⟩), .pointer (some ⟨g, 0, none⟩), .pointer (some ⟨g, 75, none⟩), .int .i64 ((h : Nat) : Int), .int .i64 ((h : Nat) : Int), .slice (some ⟨g, 11, none⟩) h 64, kv, c28, c29, c30, c31, c32, c33, c34, c35, c36, c37, c38, c39, c40, c41, c42, c43, c44, c45, c46, c47, c48, c49, c50, c51, c52, c53], []⟩ := by rw [h15, h14, h13, h12, h11, h10, h9, h8, h7, h6, h5, h4, h3, h2, h1, ha]; kernel_rfl
  rw [hF]
  exact H  _ hw2
noncomputable def rgSu7 : Code := ((Tryd.f9.body.bind (findReg 7)).getD .skip)
noncomputable def opSu7 : Array Oper := opsOf rgSu7
theorem rgSu7_is : rgSu7 = .region 7 opSu7 true := by kernel_rfl
theorem opSu7_ns : Region.noSelect opSu7 = true := by kernel_rfl
theorem opSu7_0 : opIs opSu7 0 (.move (.tmp 0)) (some 33) := by unfold opIs; kernel_rfl
theorem opSu7_1 : opIs opSu7 1 (.nilCheck (.tmp 33)) (some 34) := by unfold opIs; kernel_rfl
theorem opSu7_2 : opIs opSu7 2 (.fieldAddr 51 (.tmp 34) 3) (some 35) := by unfold opIs; kernel_rfl
theorem opSu7_3 : opIs opSu7 3 (.load 48 (.tmp 35)) (some 36) := by unfold opIs; kernel_rfl
theorem opSu7_4 : opIs opSu7 4 (.move (.tmp 0)) (some 37) := by unfold opIs; kernel_rfl
theorem opSu7_5 : opIs opSu7 5 (.nilCheck (.tmp 37)) (some 38) := by unfold opIs; kernel_rfl
theorem opSu7_6 : opIs opSu7 6 (.fieldAddr 51 (.tmp 38) 5) (some 39) := by unfold opIs; kernel_rfl
theorem opSu7_7 : opIs opSu7 7 (.load 3 (.tmp 39)) (some 40) := by unfold opIs; kernel_rfl
theorem opSu7_8 : opIs opSu7 8 (.convert 3 48 (.tmp 40)) (some 41) := by unfold opIs; kernel_rfl
theorem opSu7_9 : opIs opSu7 9 (.binOp .add 48 (.tmp 36) (.tmp 41) 48) (some 42) := by unfold opIs; kernel_rfl
theorem opSu7_10 : opIs opSu7 10 (.call { callee := .value (.func 18), args := #[.tmp 3, .tmp 4, .tmp 42, .const (.int .u32 4294967295)], argTypes := #[54, 55, 48, 46] }) (some 43) := by unfold opIs; kernel_rfl
set_option maxRecDepth 100000 in
set_option maxHeartbeats 4000000 in
theorem Su7 {Q : Exit → Act → World → Prop} {W : World} {R0 : World → Prop} {R1 : World → Prop} {g h p : Nat} {rv : Value} {p3 p4 : Nat} {c1 c2 c5 c6 c7 c8 c9 c10 c11 c12 c13 c14 c15 c16 c17 c18 c19 c20 c21 c22 c23 c24 c25 c26 c27 c28 c29 c30 c31 c32 c33 c34 c35 c36 c37 c38 c39 c40 c41 c42 c43 c44 c45 c46 c47 c48 c49 c50 c51 c52 c53 : Value}
    (hHb : Hid (h ≤ 64)) (hP : Hid (p + h < 18446744073709551616))
    (hR0 : R0 W.drew) (HS0 : ∀ Y, R0 Y → (fun Y : World => Y.cell? ⟨g, 0, none⟩ = some rv ∧ Y.cell? ⟨g, 75, none⟩ = some (.int .i64 ((h : Nat) : Int)) ∧ Y.cell? ⟨g, 10, none⟩ = some (.int .u64 ((p : Nat) : Int))) Y)
    (HK0 : Hid (∀ Y, R0 Y → Calls Tryd.prog 18 #[.pointer (some ⟨p3, 0, none⟩), .pointer (some ⟨p4, 0, none⟩), .int .u64 ((p + h : Nat) : Int), .int .u32 4294967295] Y fun e w' => e = .returned (.tuple #[]) ∧ R1 w'))
    (HS1 : ∀ Y, R1 Y → (fun Y : World => Y.cell? ⟨g, 0, none⟩ = some rv ∧ Y.cell? ⟨g, 75, none⟩ = some (.int .i64 ((h : Nat) : Int)) ∧ Y.cell? ⟨g, 10, none⟩ = some (.int .u64 ((p : Nat) : Int))) Y)
    (HPN : ∀ c (a : Act) d v w, Q (.panic c) (a.put d v) w → Q (.panic c) a w)
    (H : ∀ W', R1 W' → Q .normal ⟨#[.pointer (some ⟨g, 0, none⟩), c1, c2, .pointer (some ⟨p3, 0, none⟩), .pointer (some ⟨p4, 0, none⟩), c5, c6, c7, c8, c9, c10, c11, c12, c13, c14, c15, c16, c17, c18, c19, c20, c21, c22, c23, c24, c25, c26, c27, c28, c29, c30, c31, c32, .pointer (some ⟨g, 0, none⟩), .pointer (some ⟨g, 0, none⟩), .pointer (some ⟨g, 10, none⟩), .int .u64 ((p : Nat) : Int), .pointer (some ⟨g, 0, none⟩), .pointer (some ⟨g, 0, none⟩), .pointer (some ⟨g, 75, none⟩), .int .i64 ((h : Nat) : Int), .int .u64 ((h : Nat) : Int), .int .u64 ((p + h : Nat) : Int), .tuple #[], c44, c45, c46, c47, c48, c49, c50, c51, c52, c53], []⟩ W') :
    Code.wp Tryd.prog rgSu7 Q ⟨#[.pointer (some ⟨g, 0, none⟩), c1, c2, .pointer (some ⟨p3, 0, none⟩), .pointer (some ⟨p4, 0, none⟩), c5, c6, c7, c8, c9, c10, c11, c12, c13, c14, c15, c16, c17, c18, c19, c20, c21, c22, c23, c24, c25, c26, c27, c28, c29, c30, c31, c32, c33, c34, c35, c36, c37, c38, c39, c40, c41, c42, c43, c44, c45, c46, c47, c48, c49, c50, c51, c52, c53], []⟩ W := by
  rw [rgSu7_is]
  refine wp_region_held_drew (S := fun Y : World => Y.cell? ⟨g, 0, none⟩ = some rv ∧ Y.cell? ⟨g, 75, none⟩ = some (.int .i64 ((h : Nat) : Int)) ∧ Y.cell? ⟨g, 10, none⟩ = some (.int .u64 ((p : Nat) : Int))) (by kernel_rfl) (HS0 _ hR0) (fun hH => ?_)
  obtain ⟨w0, hw00⟩ : ∃ V, W.drew = V := ⟨_, rfl⟩
  clear hH
  rw [hw00] at hR0 ⊢
  have hH := HS0 _ hR0
  have hw0 := hR0
  clear hw00
  obtain ⟨a0, ha⟩ : ∃ a : Act, a = ⟨#[.pointer (some ⟨g, 0, none⟩), c1, c2, .pointer (some ⟨p3, 0, none⟩), .pointer (some ⟨p4, 0, none⟩), c5, c6, c7, c8, c9, c10, c11, c12, c13, c14, c15, c16, c17, c18, c19, c20, c21, c22, c23, c24, c25, c26, c27, c28, c29, c30, c31, c32, c33, c34, c35, c36, c37, c38, c39, c40, c41, c42, c43, c44, c45, c46, c47, c48, c49, c50, c51, c52, c53], []⟩ := ⟨_, rfl⟩
  have sz0 : a0.tmps.size = 54 := by rw [ha]; kernel_rfl
  have e0_0 : a0.eval (.tmp 0) = .pointer (some ⟨g, 0, none⟩) := by rw [ha]; kernel_rfl
  have e0_3 : a0.eval (.tmp 3) = .pointer (some ⟨p3, 0, none⟩) := by rw [ha]; kernel_rfl
  have e0_4 : a0.eval (.tmp 4) = .pointer (some ⟨p4, 0, none⟩) := by rw [ha]; kernel_rfl
  rw [← ha]
  refine wpAnyH_as (l' := #[false, false, false, false, false, false, false, false, false, false, false]) (by kernel_rfl) ?_
  refine takeH (v := .pointer (some ⟨g, 0, none⟩)) opSu7_0 opSu7_ns (by kernel_rfl) (by kernel_rfl) HPN (fun w hw o ho => run_move ho e0_0 w) hH ?_
  refine wpAnyH_as (l' := #[true, false, false, false, false, false, false, false, false, false, false]) (by kernel_rfl) ?_
  obtain ⟨a1, h1⟩ : ∃ a' : Act, a' = a0.put (some 33) (.pointer (some ⟨g, 0, none⟩)) := ⟨_, rfl⟩
  rw [← h1]
  have sz1 : a1.tmps.size = 54 := by rw [h1, size_put]; exact sz0
  have e1_0 : a1.eval (.tmp 0) = .pointer (some ⟨g, 0, none⟩) := by rw [h1, eval_put_ne _ _ _ _ (by decide)]; exact e0_0
  have e1_3 : a1.eval (.tmp 3) = .pointer (some ⟨p3, 0, none⟩) := by rw [h1, eval_put_ne _ _ _ _ (by decide)]; exact e0_3
  have e1_4 : a1.eval (.tmp 4) = .pointer (some ⟨p4, 0, none⟩) := by rw [h1, eval_put_ne _ _ _ _ (by decide)]; exact e0_4
  have e1_33 : a1.eval (.tmp 33) = .pointer (some ⟨g, 0, none⟩) := by rw [h1]; exact eval_put_eq _ _ _ (by rw [sz0]; decide)
  clear e0_0 e0_3 e0_4 sz0
  refine takeH (v := .pointer (some ⟨g, 0, none⟩)) opSu7_1 opSu7_ns (by kernel_rfl) (by kernel_rfl) HPN (fun w hw o ho => run_nilCheck ho e1_33 w) hH ?_
  refine wpAnyH_as (l' := #[true, true, false, false, false, false, false, false, false, false, false]) (by kernel_rfl) ?_
  obtain ⟨a2, h2⟩ : ∃ a' : Act, a' = a1.put (some 34) (.pointer (some ⟨g, 0, none⟩)) := ⟨_, rfl⟩
  rw [← h2]
  have sz2 : a2.tmps.size = 54 := by rw [h2, size_put]; exact sz1
  have e2_0 : a2.eval (.tmp 0) = .pointer (some ⟨g, 0, none⟩) := by rw [h2, eval_put_ne _ _ _ _ (by decide)]; exact e1_0
  have e2_3 : a2.eval (.tmp 3) = .pointer (some ⟨p3, 0, none⟩) := by rw [h2, eval_put_ne _ _ _ _ (by decide)]; exact e1_3
  have e2_4 : a2.eval (.tmp 4) = .pointer (some ⟨p4, 0, none⟩) := by rw [h2, eval_put_ne _ _ _ _ (by decide)]; exact e1_4
  have e2_34 : a2.eval (.tmp 34) = .pointer (some ⟨g, 0, none⟩) := by rw [h2]; exact eval_put_eq _ _ _ (by rw [sz1]; decide)
  clear e1_0 e1_3 e1_33 e1_4 sz1
  refine takeH (v := .pointer (some ⟨g, 10, none⟩)) opSu7_2 opSu7_ns (by kernel_rfl) (by kernel_rfl) HPN (fun w hw o ho => run_fH3 ho e2_34 w) hH ?_
  refine wpAnyH_as (l' := #[true, true, true, false, false, false, false, false, false, false, false]) (by kernel_rfl) ?_
  obtain ⟨a3, h3⟩ : ∃ a' : Act, a' = a2.put (some 35) (.pointer (some ⟨g, 10, none⟩)) := ⟨_, rfl⟩
  rw [← h3]
  have sz3 : a3.tmps.size = 54 := by rw [h3, size_put]; exact sz2
  have e3_0 : a3.eval (.tmp 0) = .pointer (some ⟨g, 0, none⟩) := by rw [h3, eval_put_ne _ _ _ _ (by decide)]; exact e2_0
  have e3_3 : a3.eval (.tmp 3) = .pointer (some ⟨p3, 0, none⟩) := by rw [h3, eval_put_ne _ _ _ _ (by decide)]; exact e2_3
  have e3_4 : a3.eval (.tmp 4) = .pointer (some ⟨p4, 0, none⟩) := by rw [h3, eval_put_ne _ _ _ _ (by decide)]; exact e2_4
  have e3_35 : a3.eval (.tmp 35) = .pointer (some ⟨g, 10, none⟩) := by rw [h3]; exact eval_put_eq _ _ _ (by rw [sz2]; decide)
  clear e2_0 e2_3 e2_34 e2_4 sz2
  refine takeH (v := .int .u64 ((p : Nat) : Int)) opSu7_3 opSu7_ns (by kernel_rfl) (by kernel_rfl) HPN (fun w hw o ho => run_ldQ ho e3_35 w hw.2.2) hH ?_
  refine wpAnyH_as (l' := #[true, true, true, true, false, false, false, false, false, false, false]) (by kernel_rfl) ?_
  obtain ⟨a4, h4⟩ : ∃ a' : Act, a' = a3.put (some 36) (.int .u64 ((p : Nat) : Int)) := ⟨_, rfl⟩
  rw [← h4]
  have sz4 : a4.tmps.size = 54 := by rw [h4, size_put]; exact sz3
  have e4_0 : a4.eval (.tmp 0) = .pointer (some ⟨g, 0, none⟩) := by rw [h4, eval_put_ne _ _ _ _ (by decide)]; exact e3_0
  have e4_3 : a4.eval (.tmp 3) = .pointer (some ⟨p3, 0, none⟩) := by rw [h4, eval_put_ne _ _ _ _ (by decide)]; exact e3_3
  have e4_4 : a4.eval (.tmp 4) = .pointer (some ⟨p4, 0, none⟩) := by rw [h4, eval_put_ne _ _ _ _ (by decide)]; exact e3_4
  have e4_36 : a4.eval (.tmp 36) = .int .u64 ((p : Nat) : Int) := by rw [h4]; exact eval_put_eq _ _ _ (by rw [sz3]; decide)
  clear e3_0 e3_3 e3_35 e3_4 sz3
  refine takeH (v := .pointer (some ⟨g, 0, none⟩)) opSu7_4 opSu7_ns (by kernel_rfl) (by kernel_rfl) HPN (fun w hw o ho => run_move ho e4_0 w) hH ?_
  refine wpAnyH_as (l' := #[true, true, true, true, true, false, false, false, false, false, false]) (by kernel_rfl) ?_
  obtain ⟨a5, h5⟩ : ∃ a' : Act, a' = a4.put (some 37) (.pointer (some ⟨g, 0, none⟩)) := ⟨_, rfl⟩
  rw [← h5]
  have sz5 : a5.tmps.size = 54 := by rw [h5, size_put]; exact sz4
  have e5_3 : a5.eval (.tmp 3) = .pointer (some ⟨p3, 0, none⟩) := by rw [h5, eval_put_ne _ _ _ _ (by decide)]; exact e4_3
  have e5_4 : a5.eval (.tmp 4) = .pointer (some ⟨p4, 0, none⟩) := by rw [h5, eval_put_ne _ _ _ _ (by decide)]; exact e4_4
  have e5_36 : a5.eval (.tmp 36) = .int .u64 ((p : Nat) : Int) := by rw [h5, eval_put_ne _ _ _ _ (by decide)]; exact e4_36
  have e5_37 : a5.eval (.tmp 37) = .pointer (some ⟨g, 0, none⟩) := by rw [h5]; exact eval_put_eq _ _ _ (by rw [sz4]; decide)
  clear e4_0 e4_3 e4_36 e4_4 sz4
  refine takeH (v := .pointer (some ⟨g, 0, none⟩)) opSu7_5 opSu7_ns (by kernel_rfl) (by kernel_rfl) HPN (fun w hw o ho => run_nilCheck ho e5_37 w) hH ?_
  refine wpAnyH_as (l' := #[true, true, true, true, true, true, false, false, false, false, false]) (by kernel_rfl) ?_
  obtain ⟨a6, h6⟩ : ∃ a' : Act, a' = a5.put (some 38) (.pointer (some ⟨g, 0, none⟩)) := ⟨_, rfl⟩
  rw [← h6]
  have sz6 : a6.tmps.size = 54 := by rw [h6, size_put]; exact sz5
  have e6_3 : a6.eval (.tmp 3) = .pointer (some ⟨p3, 0, none⟩) := by rw [h6, eval_put_ne _ _ _ _ (by decide)]; exact e5_3
  have e6_4 : a6.eval (.tmp 4) = .pointer (some ⟨p4, 0, none⟩) := by rw [h6, eval_put_ne _ _ _ _ (by decide)]; exact e5_4
  have e6_36 : a6.eval (.tmp 36) = .int .u64 ((p : Nat) : Int) := by rw [h6, eval_put_ne _ _ _ _ (by decide)]; exact e5_36
  have e6_38 : a6.eval (.tmp 38) = .pointer (some ⟨g, 0, none⟩) := by rw [h6]; exact eval_put_eq _ _ _ (by rw [sz5]; decide)
  clear e5_3 e5_36 e5_37 e5_4 sz5
  refine takeH (v := .pointer (some ⟨g, 75, none⟩)) opSu7_6 opSu7_ns (by kernel_rfl) (by kernel_rfl) HPN (fun w hw o ho => run_fH5 ho e6_38 w) hH ?_
  refine wpAnyH_as (l' := #[true, true, true, true, true, true, true, false, false, false, false]) (by kernel_rfl) ?_
  obtain ⟨a7, h7⟩ : ∃ a' : Act, a' = a6.put (some 39) (.pointer (some ⟨g, 75, none⟩)) := ⟨_, rfl⟩
  rw [← h7]
  have sz7 : a7.tmps.size = 54 := by rw [h7, size_put]; exact sz6
  have e7_3 : a7.eval (.tmp 3) = .pointer (some ⟨p3, 0, none⟩) := by rw [h7, eval_put_ne _ _ _ _ (by decide)]; exact e6_3
  have e7_4 : a7.eval (.tmp 4) = .pointer (some ⟨p4, 0, none⟩) := by rw [h7, eval_put_ne _ _ _ _ (by decide)]; exact e6_4
  have e7_36 : a7.eval (.tmp 36) = .int .u64 ((p : Nat) : Int) := by rw [h7, eval_put_ne _ _ _ _ (by decide)]; exact e6_36
  have e7_39 : a7.eval (.tmp 39) = .pointer (some ⟨g, 75, none⟩) := by rw [h7]; exact eval_put_eq _ _ _ (by rw [sz6]; decide)
  clear e6_3 e6_36 e6_38 e6_4 sz6
  refine takeH (v := .int .i64 ((h : Nat) : Int)) opSu7_7 opSu7_ns (by kernel_rfl) (by kernel_rfl) HPN (fun w hw o ho => run_ldI ho e7_39 w hw.2.1) hH ?_
  refine wpAnyH_as (l' := #[true, true, true, true, true, true, true, true, false, false, false]) (by kernel_rfl) ?_
  obtain ⟨a8, h8⟩ : ∃ a' : Act, a' = a7.put (some 40) (.int .i64 ((h : Nat) : Int)) := ⟨_, rfl⟩
  rw [← h8]
  have sz8 : a8.tmps.size = 54 := by rw [h8, size_put]; exact sz7
  have e8_3 : a8.eval (.tmp 3) = .pointer (some ⟨p3, 0, none⟩) := by rw [h8, eval_put_ne _ _ _ _ (by decide)]; exact e7_3
  have e8_4 : a8.eval (.tmp 4) = .pointer (some ⟨p4, 0, none⟩) := by rw [h8, eval_put_ne _ _ _ _ (by decide)]; exact e7_4
  have e8_36 : a8.eval (.tmp 36) = .int .u64 ((p : Nat) : Int) := by rw [h8, eval_put_ne _ _ _ _ (by decide)]; exact e7_36
  have e8_40 : a8.eval (.tmp 40) = .int .i64 ((h : Nat) : Int) := by rw [h8]; exact eval_put_eq _ _ _ (by rw [sz7]; decide)
  clear e7_3 e7_36 e7_39 e7_4 sz7
  refine takeH (v := .int .u64 ((h : Nat) : Int)) opSu7_8 opSu7_ns (by kernel_rfl) (by kernel_rfl) HPN (fun w hw o ho => run_cv hHb.out ho e8_40 w) hH ?_
  refine wpAnyH_as (l' := #[true, true, true, true, true, true, true, true, true, false, false]) (by kernel_rfl) ?_
  obtain ⟨a9, h9⟩ : ∃ a' : Act, a' = a8.put (some 41) (.int .u64 ((h : Nat) : Int)) := ⟨_, rfl⟩
  rw [← h9]
  have sz9 : a9.tmps.size = 54 := by rw [h9, size_put]; exact sz8
  have e9_3 : a9.eval (.tmp 3) = .pointer (some ⟨p3, 0, none⟩) := by rw [h9, eval_put_ne _ _ _ _ (by decide)]; exact e8_3
  have e9_4 : a9.eval (.tmp 4) = .pointer (some ⟨p4, 0, none⟩) := by rw [h9, eval_put_ne _ _ _ _ (by decide)]; exact e8_4
  have e9_36 : a9.eval (.tmp 36) = .int .u64 ((p : Nat) : Int) := by rw [h9, eval_put_ne _ _ _ _ (by decide)]; exact e8_36
  have e9_41 : a9.eval (.tmp 41) = .int .u64 ((h : Nat) : Int) := by rw [h9]; exact eval_put_eq _ _ _ (by rw [sz8]; decide)
  clear e8_3 e8_36 e8_4 e8_40 sz8
  refine takeH (v := .int .u64 ((p + h : Nat) : Int)) opSu7_9 opSu7_ns (by kernel_rfl) (by kernel_rfl) HPN (fun w hw o ho => run_ad hP.out ho e9_36 e9_41 w) hH ?_
  refine wpAnyH_as (l' := #[true, true, true, true, true, true, true, true, true, true, false]) (by kernel_rfl) ?_
  obtain ⟨a10, h10⟩ : ∃ a' : Act, a' = a9.put (some 42) (.int .u64 ((p + h : Nat) : Int)) := ⟨_, rfl⟩
  rw [← h10]
  have sz10 : a10.tmps.size = 54 := by rw [h10, size_put]; exact sz9
  have e10_3 : a10.eval (.tmp 3) = .pointer (some ⟨p3, 0, none⟩) := by rw [h10, eval_put_ne _ _ _ _ (by decide)]; exact e9_3
  have e10_4 : a10.eval (.tmp 4) = .pointer (some ⟨p4, 0, none⟩) := by rw [h10, eval_put_ne _ _ _ _ (by decide)]; exact e9_4
  have e10_42 : a10.eval (.tmp 42) = .int .u64 ((p + h : Nat) : Int) := by rw [h10]; exact eval_put_eq _ _ _ (by rw [sz9]; decide)
  clear e9_3 e9_36 e9_4 e9_41 sz9
  refine readyH opSu7_10 (by kernel_rfl) (fun o ho hd => wpCall (v := .tuple #[]) ho hd (args := #[.pointer (some ⟨p3, 0, none⟩), .pointer (some ⟨p4, 0, none⟩), .int .u64 ((p + h : Nat) : Int), .int .u32 4294967295]) (by simp only [List.map_toArray, List.map_cons, List.map_nil, e10_3, e10_4, e10_42] <;> rfl) (fun _ => rfl) (HK0.out  w0 hw0) (fun w1 hw1 => ?_))
  have hH := HS1  w1 hw1
  refine ⟨hH, ?_⟩
  refine wpAnyH_as (l' := #[true, true, true, true, true, true, true, true, true, true, true]) (by kernel_rfl) ?_
  obtain ⟨a11, h11⟩ : ∃ a' : Act, a' = a10.put (some 43) (.tuple #[]) := ⟨_, rfl⟩
  rw [← h11]
  have sz11 : a11.tmps.size = 54 := by rw [h11, size_put]; exact sz10
  clear e10_3 e10_4 e10_42 sz10
  refine wpAnyH_done (by kernel_rfl) ?_ _
  have hF : a11 = ⟨#[.pointer (some ⟨g, 0, none⟩), c1, c2, .pointer (some ⟨p3, 0, none⟩), .pointer (some ⟨p4, 0, none⟩), c5, c6, c7, c8, c9, c10, c11, c12, c13, c14, c15, c16, c17, c18, c19, c20, c21, c22, c23, c24, c25, c26, c27, c28, c29, c30, c31, c32, .pointer (some ⟨g, 0, none⟩), .pointer (some ⟨g, 0, none⟩), .pointer (some ⟨g, 10, none⟩), .int .u64 ((p : Nat) : Int), .pointer (some ⟨g, 0, none⟩), .pointer (some ⟨g, 0, none⟩), .pointer (some ⟨g, 75, none⟩), .int .i64 ((h : Nat) : Int), .int .u64 ((h : Nat) : Int), .int .u64 ((p + h : Nat) : Int), .tuple #[], c44, c45, c46, c47, c48, c49, c50, c51, c52, c53], []⟩ := by rw [h11, h10, h9, h8, h7, h6, h5, h4, h3, h2, h1, ha]; kernel_rfl
  rw [hF]
  exact H  _ hw1
end Go.Proofs.YtfkbgodfcnmepabDoor
