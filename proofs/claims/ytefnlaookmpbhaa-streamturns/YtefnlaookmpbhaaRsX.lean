import Derived.Test.YtefnlaookmpbhaaStrU
import Derived.Test.YtefnlaookmpbhaaRsD
namespace Go.Proofs.Ytefnlaookmpbhaa
set_option linter.unusedSimpArgs false
set_option linter.unusedVariables false
open Go.ChangeShapes Go.WideShapes Go.ChangeAt Go.RowKit Go.Pin Go.Str
theorem wpRun {P : Program} {o : Oper} {a : Act} {w w' : World} {v : Value} {d : Option Nat} {K : Act → World → Prop} {Q : Exit → Act → World → Prop} (hd : o.dst = d) (hrun : (execOp a.eval o).run P w = .ok (.value v) w') (h : K (a.put d v) w') : Oper.wp P o a w K Q := by
  subst hd
  unfold Oper.wp
  rw [hrun]
  exact h
theorem wpApp {P : Program} {o : Oper} {a : Act} {w : World} {K : Act → World → Prop} {Q : Exit → Act → World → Prop} {s x : Operand} {t : TypeId} {v u : Value} {R : Value → World → Prop} {d : Option Nat}
    (ho : o.op = .call { callee := .builtin .append, args := #[s, x], argTypes := #[t, t] }) (hd : o.dst = d) (hs : a.eval s = v) (hx : a.eval x = u) (hr : ∀ ty, ∃ v' w', (Builtin.append_ #[t, t] ty #[v, u]).run P w = .ok v' w' ∧ R v' w') (h : ∀ v' w', R v' w' → K (a.put d v') w') : Oper.wp P o a w K Q := by
  subst hd
  obtain ⟨v', w', h1, h2⟩ := hr o.type
  unfold Oper.wp execOp
  simp only [ho, resolve, invoke, builtin, Sem.run_bind, Sem.run_pure, Result.andThen_ok, List.map_toArray, List.map_cons, List.map_nil, hs, hx, h1]
  exact h v' w' h2
section
variable {a : Act} {o : Oper} {x y : Operand}
theorem run_ixS {b of n cap i : Nat} (hi : i < n) (ho : o.op = .indexAddr 40 x y) (he : a.eval x = .slice (some ⟨b, of, none⟩) n cap) (hy : a.eval y = .int .i64 (i : Int)) (w : World) : (execOp a.eval o).run Try.prog w = .ok (.value (.pointer (some ⟨b, of + i, none⟩))) w := by
  have : (i : Int) < (n : Int) := by omega
  unfold execOp
  simp only [ho, he, hy]
  go_simp
theorem run_ixB {g n : Nat} (hn : n < 64) (ho : o.op = .indexAddr 29 x y) (he : a.eval x = .pointer (some ⟨g, 0, none⟩)) (hy : a.eval y = .int .i64 (n : Int)) (w : World) : (execOp a.eval o).run Try.prog w = .ok (.value (.pointer (some ⟨g, n, none⟩))) w := by
  have : (n : Int) < 64 := by omega
  unfold execOp
  simp only [ho, he, hy]
  go_simp
theorem run_ld8 {g f : Nat} {v : Int} (ho : o.op = .load 5 x) (he : a.eval x = .pointer (some ⟨g, f, none⟩)) (w : World) (hg : w.cell? ⟨g, f, none⟩ = some (.int .u8 v)) : (execOp a.eval o).run Try.prog w = .ok (.value (.int .u8 v)) w := by
  unfold execOp
  simp only [ho, he]
  go_simp
theorem run_xor8 {p q z : Nat} (h : bits .xor .u8 (p : Int) (q : Int) = (z : Int)) (ho : o.op = .binOp .xor 5 x y 5) (hx : a.eval x = .int .u8 (p : Int)) (hy : a.eval y = .int .u8 (q : Int)) (w : World) : (execOp a.eval o).run Try.prog w = .ok (.value (.int .u8 (z : Int))) w := by
  unfold execOp
  simp only [ho, hx, hy]
  go_simp
theorem run_assign {P : Program} {v : Value} (ho : o.op = .assign x) (he : a.eval x = v) (w : World) : (execOp a.eval o).run P w = .ok (.value v) w := by
  unfold execOp
  simp only [ho, he]
  rfl
theorem run_mk1 {s : Nat} {v : Int} (ho : o.op = .buildSlice 40 1 #[(0, .tmp s)]) (he : a.eval (.tmp s) = .int .u8 v) (w : World) : (execOp a.eval o).run Try.prog w = .ok (.value (.slice (some ⟨w.heap.size, 0, none⟩) 1 1)) (w.alloc (.cells #[.int .u8 v] 5)) := by
  unfold execOp
  have he' : a.tmps[s]?.getD undef = .int .u8 v := by rw [← he]; simp [Act.eval]
  simp only [ho]
  go_simp
end
noncomputable def rgRx8 : Code := ((Try.f18.body.bind (findReg 8)).getD .skip)
noncomputable def opRx8 : Array Oper := opsOf rgRx8
theorem rgRx8_is : rgRx8 = .region 8 opRx8 true := by kernel_rfl
theorem opRx8_ns : Region.noSelect opRx8 = true := by kernel_rfl
theorem opRx8_0 : opIs opRx8 0 (.move (.tmp 9)) (some 31) := by unfold opIs; kernel_rfl
theorem opRx8_1 : opIs opRx8 1 (.move (.tmp 3)) (some 32) := by unfold opIs; kernel_rfl
theorem opRx8_2 : opIs opRx8 2 (.move (.tmp 11)) (some 33) := by unfold opIs; kernel_rfl
theorem opRx8_3 : opIs opRx8 3 (.indexAddr 40 (.tmp 32) (.tmp 33)) (some 34) := by unfold opIs; kernel_rfl
theorem opRx8_4 : opIs opRx8 4 (.load 5 (.tmp 34)) (some 35) := by unfold opIs; kernel_rfl
theorem opRx8_5 : opIs opRx8 5 (.move (.tmp 11)) (some 36) := by unfold opIs; kernel_rfl
theorem opRx8_6 : opIs opRx8 6 (.binOp .rem 3 (.tmp 36) (.const (.int .i64 64)) 3) (some 37) := by unfold opIs; kernel_rfl
theorem opRx8_7 : opIs opRx8 7 (.indexAddr 29 (.tmp 10) (.tmp 37)) (some 38) := by unfold opIs; kernel_rfl
theorem opRx8_8 : opIs opRx8 8 (.load 5 (.tmp 38)) (some 39) := by unfold opIs; kernel_rfl
theorem opRx8_9 : opIs opRx8 9 (.binOp .xor 5 (.tmp 35) (.tmp 39) 5) (some 40) := by unfold opIs; kernel_rfl
theorem opRx8_10 : opIs opRx8 10 (.buildSlice 40 1 #[(0, .tmp 40)]) (some 41) := by unfold opIs; kernel_rfl
theorem opRx8_11 : opIs opRx8 11 (.call { callee := .builtin .append, args := #[.tmp 31, .tmp 41], argTypes := #[40, 40] }) (some 42) := by unfold opIs; kernel_rfl
theorem opRx8_12 : opIs opRx8 12 (.assign (.tmp 42)) (some 9) := by unfold opIs; kernel_rfl
set_option maxRecDepth 100000 in
set_option maxHeartbeats 4000000 in
theorem Rx8 {Q : Exit → Act → World → Prop} {W : World} {R : Value → World → Prop} {b oo n cap i g x y z : Nat} {v : Value} {c0 c1 c2 c4 c5 c6 c7 c8 c12 c13 c14 c15 c16 c17 c18 c19 c20 c21 c22 c23 c24 c25 c26 c27 c28 c29 c30 c31 c32 c33 c34 c35 c36 c37 c38 c39 c40 c41 c42 c43 : Value}
    (hI : Hid (i < n)) (hJ : Hid (i < 9223372036854775808)) (hX : Hid (bits .xor .u8 ((x : Nat) : Int) ((y : Nat) : Int) = ((z : Nat) : Int)))
    (HAP : Hid (∀ ty, ∃ v' w', (Builtin.append_ #[40, 40] ty #[v, .slice (some ⟨W.heap.size, 0, none⟩) 1 1]).run Try.prog (W.drew.alloc (.cells #[.int .u8 ((z : Nat) : Int)] 5)) = .ok v' w' ∧ R v' w'))
    (HS : Hid ((fun Y : World => Y.cell? ⟨b, oo + i, none⟩ = some (.int .u8 ((x : Nat) : Int)) ∧ Y.cell? ⟨g, i % 64, none⟩ = some (.int .u8 ((y : Nat) : Int))) W.drew)) (hSA : (fun Y : World => Y.cell? ⟨b, oo + i, none⟩ = some (.int .u8 ((x : Nat) : Int)) ∧ Y.cell? ⟨g, i % 64, none⟩ = some (.int .u8 ((y : Nat) : Int))) (W.drew.alloc (.cells #[.int .u8 ((z : Nat) : Int)] 5))) (HSR : ∀ v' w', R v' w' → (fun Y : World => Y.cell? ⟨b, oo + i, none⟩ = some (.int .u8 ((x : Nat) : Int)) ∧ Y.cell? ⟨g, i % 64, none⟩ = some (.int .u8 ((y : Nat) : Int))) w')
    (HPN : ∀ c (a : Act) d v w, Q (.panic c) (a.put d v) w → Q (.panic c) a w)
    (H : ∀ v' W', R v' W' → Q .normal ⟨#[c0, c1, c2, .slice (some ⟨b, oo, none⟩) n cap, c4, c5, c6, c7, c8, v', .pointer (some ⟨g, 0, none⟩), .int .i64 ((i : Nat) : Int), c12, c13, c14, c15, c16, c17, c18, c19, c20, c21, c22, c23, c24, c25, c26, c27, c28, c29, c30, v, .slice (some ⟨b, oo, none⟩) n cap, .int .i64 ((i : Nat) : Int), .pointer (some ⟨b, oo + i, none⟩), .int .u8 ((x : Nat) : Int), .int .i64 ((i : Nat) : Int), .int .i64 ((i % 64 : Nat) : Int), .pointer (some ⟨g, i % 64, none⟩), .int .u8 ((y : Nat) : Int), .int .u8 ((z : Nat) : Int), .slice (some ⟨W.heap.size, 0, none⟩) 1 1, v', c43], []⟩ W') :
    Code.wp Try.prog rgRx8 Q ⟨#[c0, c1, c2, .slice (some ⟨b, oo, none⟩) n cap, c4, c5, c6, c7, c8, v, .pointer (some ⟨g, 0, none⟩), .int .i64 ((i : Nat) : Int), c12, c13, c14, c15, c16, c17, c18, c19, c20, c21, c22, c23, c24, c25, c26, c27, c28, c29, c30, c31, c32, c33, c34, c35, c36, c37, c38, c39, c40, c41, c42, c43], []⟩ W := by
  rw [rgRx8_is]
  refine wp_region_held_drew (S := fun Y : World => Y.cell? ⟨b, oo + i, none⟩ = some (.int .u8 ((x : Nat) : Int)) ∧ Y.cell? ⟨g, i % 64, none⟩ = some (.int .u8 ((y : Nat) : Int))) (by kernel_rfl) HS.out (fun hH => ?_)
  obtain ⟨V0, hV0⟩ : ∃ V, W.drew = V := ⟨_, rfl⟩
  have hs : W.heap.size = V0.heap.size := by rw [← hV0]; rfl
  rw [hs] at HAP
  simp only [hs] at H
  rw [hV0] at hH hSA HAP ⊢
  clear hV0 HS
  obtain ⟨a0, ha⟩ : ∃ a : Act, a = ⟨#[c0, c1, c2, .slice (some ⟨b, oo, none⟩) n cap, c4, c5, c6, c7, c8, v, .pointer (some ⟨g, 0, none⟩), .int .i64 ((i : Nat) : Int), c12, c13, c14, c15, c16, c17, c18, c19, c20, c21, c22, c23, c24, c25, c26, c27, c28, c29, c30, c31, c32, c33, c34, c35, c36, c37, c38, c39, c40, c41, c42, c43], []⟩ := ⟨_, rfl⟩
  have sz0 : a0.tmps.size = 44 := by rw [ha]; kernel_rfl
  have e0_3 : a0.eval (.tmp 3) = .slice (some ⟨b, oo, none⟩) n cap := by rw [ha]; kernel_rfl
  have e0_9 : a0.eval (.tmp 9) = v := by rw [ha]; kernel_rfl
  have e0_10 : a0.eval (.tmp 10) = .pointer (some ⟨g, 0, none⟩) := by rw [ha]; kernel_rfl
  have e0_11 : a0.eval (.tmp 11) = .int .i64 ((i : Nat) : Int) := by rw [ha]; kernel_rfl
  rw [← ha]
  refine wpAnyH_as (l' := #[false, false, false, false, false, false, false, false, false, false, false, false, false]) (by kernel_rfl) ?_
  refine takeH (v := v) opRx8_0 opRx8_ns (by kernel_rfl) (by kernel_rfl) HPN (fun w hw o ho => run_move ho e0_9 w) hH ?_
  refine wpAnyH_as (l' := #[true, false, false, false, false, false, false, false, false, false, false, false, false]) (by kernel_rfl) ?_
  obtain ⟨a1, h1⟩ : ∃ a' : Act, a' = a0.put (some 31) (v) := ⟨_, rfl⟩
  rw [← h1]
  have sz1 : a1.tmps.size = 44 := by rw [h1, size_put]; exact sz0
  have e1_3 : a1.eval (.tmp 3) = .slice (some ⟨b, oo, none⟩) n cap := by rw [h1, eval_put_ne _ _ _ _ (by decide)]; exact e0_3
  have e1_10 : a1.eval (.tmp 10) = .pointer (some ⟨g, 0, none⟩) := by rw [h1, eval_put_ne _ _ _ _ (by decide)]; exact e0_10
  have e1_11 : a1.eval (.tmp 11) = .int .i64 ((i : Nat) : Int) := by rw [h1, eval_put_ne _ _ _ _ (by decide)]; exact e0_11
  have e1_31 : a1.eval (.tmp 31) = v := by rw [h1]; exact eval_put_eq _ _ _ (by rw [sz0]; decide)
  clear e0_10 e0_11 e0_3 e0_9 sz0
  refine takeH (v := .slice (some ⟨b, oo, none⟩) n cap) opRx8_1 opRx8_ns (by kernel_rfl) (by kernel_rfl) HPN (fun w hw o ho => run_move ho e1_3 w) hH ?_
  refine wpAnyH_as (l' := #[true, true, false, false, false, false, false, false, false, false, false, false, false]) (by kernel_rfl) ?_
  obtain ⟨a2, h2⟩ : ∃ a' : Act, a' = a1.put (some 32) (.slice (some ⟨b, oo, none⟩) n cap) := ⟨_, rfl⟩
  rw [← h2]
  have sz2 : a2.tmps.size = 44 := by rw [h2, size_put]; exact sz1
  have e2_10 : a2.eval (.tmp 10) = .pointer (some ⟨g, 0, none⟩) := by rw [h2, eval_put_ne _ _ _ _ (by decide)]; exact e1_10
  have e2_11 : a2.eval (.tmp 11) = .int .i64 ((i : Nat) : Int) := by rw [h2, eval_put_ne _ _ _ _ (by decide)]; exact e1_11
  have e2_31 : a2.eval (.tmp 31) = v := by rw [h2, eval_put_ne _ _ _ _ (by decide)]; exact e1_31
  have e2_32 : a2.eval (.tmp 32) = .slice (some ⟨b, oo, none⟩) n cap := by rw [h2]; exact eval_put_eq _ _ _ (by rw [sz1]; decide)
  clear e1_10 e1_11 e1_3 e1_31 sz1
  refine takeH (v := .int .i64 ((i : Nat) : Int)) opRx8_2 opRx8_ns (by kernel_rfl) (by kernel_rfl) HPN (fun w hw o ho => run_move ho e2_11 w) hH ?_
  refine wpAnyH_as (l' := #[true, true, true, false, false, false, false, false, false, false, false, false, false]) (by kernel_rfl) ?_
  obtain ⟨a3, h3⟩ : ∃ a' : Act, a' = a2.put (some 33) (.int .i64 ((i : Nat) : Int)) := ⟨_, rfl⟩
  rw [← h3]
  have sz3 : a3.tmps.size = 44 := by rw [h3, size_put]; exact sz2
  have e3_10 : a3.eval (.tmp 10) = .pointer (some ⟨g, 0, none⟩) := by rw [h3, eval_put_ne _ _ _ _ (by decide)]; exact e2_10
  have e3_11 : a3.eval (.tmp 11) = .int .i64 ((i : Nat) : Int) := by rw [h3, eval_put_ne _ _ _ _ (by decide)]; exact e2_11
  have e3_31 : a3.eval (.tmp 31) = v := by rw [h3, eval_put_ne _ _ _ _ (by decide)]; exact e2_31
  have e3_32 : a3.eval (.tmp 32) = .slice (some ⟨b, oo, none⟩) n cap := by rw [h3, eval_put_ne _ _ _ _ (by decide)]; exact e2_32
  have e3_33 : a3.eval (.tmp 33) = .int .i64 ((i : Nat) : Int) := by rw [h3]; exact eval_put_eq _ _ _ (by rw [sz2]; decide)
  clear e2_10 e2_11 e2_31 e2_32 sz2
  refine takeH (v := .pointer (some ⟨b, oo + i, none⟩)) opRx8_3 opRx8_ns (by kernel_rfl) (by kernel_rfl) HPN (fun w hw o ho => run_ixS hI.out ho e3_32 e3_33 w) hH ?_
  refine wpAnyH_as (l' := #[true, true, true, true, false, false, false, false, false, false, false, false, false]) (by kernel_rfl) ?_
  obtain ⟨a4, h4⟩ : ∃ a' : Act, a' = a3.put (some 34) (.pointer (some ⟨b, oo + i, none⟩)) := ⟨_, rfl⟩
  rw [← h4]
  have sz4 : a4.tmps.size = 44 := by rw [h4, size_put]; exact sz3
  have e4_10 : a4.eval (.tmp 10) = .pointer (some ⟨g, 0, none⟩) := by rw [h4, eval_put_ne _ _ _ _ (by decide)]; exact e3_10
  have e4_11 : a4.eval (.tmp 11) = .int .i64 ((i : Nat) : Int) := by rw [h4, eval_put_ne _ _ _ _ (by decide)]; exact e3_11
  have e4_31 : a4.eval (.tmp 31) = v := by rw [h4, eval_put_ne _ _ _ _ (by decide)]; exact e3_31
  have e4_34 : a4.eval (.tmp 34) = .pointer (some ⟨b, oo + i, none⟩) := by rw [h4]; exact eval_put_eq _ _ _ (by rw [sz3]; decide)
  clear e3_10 e3_11 e3_31 e3_32 e3_33 sz3
  refine takeH (v := .int .u8 ((x : Nat) : Int)) opRx8_4 opRx8_ns (by kernel_rfl) (by kernel_rfl) HPN (fun w hw o ho => run_ld8 ho e4_34 w hw.1) hH ?_
  refine wpAnyH_as (l' := #[true, true, true, true, true, false, false, false, false, false, false, false, false]) (by kernel_rfl) ?_
  obtain ⟨a5, h5⟩ : ∃ a' : Act, a' = a4.put (some 35) (.int .u8 ((x : Nat) : Int)) := ⟨_, rfl⟩
  rw [← h5]
  have sz5 : a5.tmps.size = 44 := by rw [h5, size_put]; exact sz4
  have e5_10 : a5.eval (.tmp 10) = .pointer (some ⟨g, 0, none⟩) := by rw [h5, eval_put_ne _ _ _ _ (by decide)]; exact e4_10
  have e5_11 : a5.eval (.tmp 11) = .int .i64 ((i : Nat) : Int) := by rw [h5, eval_put_ne _ _ _ _ (by decide)]; exact e4_11
  have e5_31 : a5.eval (.tmp 31) = v := by rw [h5, eval_put_ne _ _ _ _ (by decide)]; exact e4_31
  have e5_35 : a5.eval (.tmp 35) = .int .u8 ((x : Nat) : Int) := by rw [h5]; exact eval_put_eq _ _ _ (by rw [sz4]; decide)
  clear e4_10 e4_11 e4_31 e4_34 sz4
  refine takeH (v := .int .i64 ((i : Nat) : Int)) opRx8_5 opRx8_ns (by kernel_rfl) (by kernel_rfl) HPN (fun w hw o ho => run_move ho e5_11 w) hH ?_
  refine wpAnyH_as (l' := #[true, true, true, true, true, true, false, false, false, false, false, false, false]) (by kernel_rfl) ?_
  obtain ⟨a6, h6⟩ : ∃ a' : Act, a' = a5.put (some 36) (.int .i64 ((i : Nat) : Int)) := ⟨_, rfl⟩
  rw [← h6]
  have sz6 : a6.tmps.size = 44 := by rw [h6, size_put]; exact sz5
  have e6_10 : a6.eval (.tmp 10) = .pointer (some ⟨g, 0, none⟩) := by rw [h6, eval_put_ne _ _ _ _ (by decide)]; exact e5_10
  have e6_31 : a6.eval (.tmp 31) = v := by rw [h6, eval_put_ne _ _ _ _ (by decide)]; exact e5_31
  have e6_35 : a6.eval (.tmp 35) = .int .u8 ((x : Nat) : Int) := by rw [h6, eval_put_ne _ _ _ _ (by decide)]; exact e5_35
  have e6_36 : a6.eval (.tmp 36) = .int .i64 ((i : Nat) : Int) := by rw [h6]; exact eval_put_eq _ _ _ (by rw [sz5]; decide)
  clear e5_10 e5_11 e5_31 e5_35 sz5
  refine takeH (v := .int .i64 ((i % 64 : Nat) : Int)) opRx8_6 opRx8_ns (by kernel_rfl) (by kernel_rfl) HPN (fun w hw o ho => run_remI (p := i) (q := 64) (by decide) hJ.out ho e6_36 rfl w) hH ?_
  refine wpAnyH_as (l' := #[true, true, true, true, true, true, true, false, false, false, false, false, false]) (by kernel_rfl) ?_
  obtain ⟨a7, h7⟩ : ∃ a' : Act, a' = a6.put (some 37) (.int .i64 ((i % 64 : Nat) : Int)) := ⟨_, rfl⟩
  rw [← h7]
  have sz7 : a7.tmps.size = 44 := by rw [h7, size_put]; exact sz6
  have e7_10 : a7.eval (.tmp 10) = .pointer (some ⟨g, 0, none⟩) := by rw [h7, eval_put_ne _ _ _ _ (by decide)]; exact e6_10
  have e7_31 : a7.eval (.tmp 31) = v := by rw [h7, eval_put_ne _ _ _ _ (by decide)]; exact e6_31
  have e7_35 : a7.eval (.tmp 35) = .int .u8 ((x : Nat) : Int) := by rw [h7, eval_put_ne _ _ _ _ (by decide)]; exact e6_35
  have e7_37 : a7.eval (.tmp 37) = .int .i64 ((i % 64 : Nat) : Int) := by rw [h7]; exact eval_put_eq _ _ _ (by rw [sz6]; decide)
  clear e6_10 e6_31 e6_35 e6_36 sz6
  refine takeH (v := .pointer (some ⟨g, i % 64, none⟩)) opRx8_7 opRx8_ns (by kernel_rfl) (by kernel_rfl) HPN (fun w hw o ho => run_ixB (n := i % 64) (Nat.mod_lt _ (by decide)) ho e7_10 e7_37 w) hH ?_
  refine wpAnyH_as (l' := #[true, true, true, true, true, true, true, true, false, false, false, false, false]) (by kernel_rfl) ?_
  obtain ⟨a8, h8⟩ : ∃ a' : Act, a' = a7.put (some 38) (.pointer (some ⟨g, i % 64, none⟩)) := ⟨_, rfl⟩
  rw [← h8]
  have sz8 : a8.tmps.size = 44 := by rw [h8, size_put]; exact sz7
  have e8_31 : a8.eval (.tmp 31) = v := by rw [h8, eval_put_ne _ _ _ _ (by decide)]; exact e7_31
  have e8_35 : a8.eval (.tmp 35) = .int .u8 ((x : Nat) : Int) := by rw [h8, eval_put_ne _ _ _ _ (by decide)]; exact e7_35
  have e8_38 : a8.eval (.tmp 38) = .pointer (some ⟨g, i % 64, none⟩) := by rw [h8]; exact eval_put_eq _ _ _ (by rw [sz7]; decide)
  clear e7_10 e7_31 e7_35 e7_37 sz7
  refine takeH (v := .int .u8 ((y : Nat) : Int)) opRx8_8 opRx8_ns (by kernel_rfl) (by kernel_rfl) HPN (fun w hw o ho => run_ld8 ho e8_38 w hw.2) hH ?_
  refine wpAnyH_as (l' := #[true, true, true, true, true, true, true, true, true, false, false, false, false]) (by kernel_rfl) ?_
  obtain ⟨a9, h9⟩ : ∃ a' : Act, a' = a8.put (some 39) (.int .u8 ((y : Nat) : Int)) := ⟨_, rfl⟩
  rw [← h9]
  have sz9 : a9.tmps.size = 44 := by rw [h9, size_put]; exact sz8
  have e9_31 : a9.eval (.tmp 31) = v := by rw [h9, eval_put_ne _ _ _ _ (by decide)]; exact e8_31
  have e9_35 : a9.eval (.tmp 35) = .int .u8 ((x : Nat) : Int) := by rw [h9, eval_put_ne _ _ _ _ (by decide)]; exact e8_35
  have e9_39 : a9.eval (.tmp 39) = .int .u8 ((y : Nat) : Int) := by rw [h9]; exact eval_put_eq _ _ _ (by rw [sz8]; decide)
  clear e8_31 e8_35 e8_38 sz8
  refine takeH (v := .int .u8 ((z : Nat) : Int)) opRx8_9 opRx8_ns (by kernel_rfl) (by kernel_rfl) HPN (fun w hw o ho => run_xor8 hX.out ho e9_35 e9_39 w) hH ?_
  refine wpAnyH_as (l' := #[true, true, true, true, true, true, true, true, true, true, false, false, false]) (by kernel_rfl) ?_
  obtain ⟨a10, h10⟩ : ∃ a' : Act, a' = a9.put (some 40) (.int .u8 ((z : Nat) : Int)) := ⟨_, rfl⟩
  rw [← h10]
  have sz10 : a10.tmps.size = 44 := by rw [h10, size_put]; exact sz9
  have e10_31 : a10.eval (.tmp 31) = v := by rw [h10, eval_put_ne _ _ _ _ (by decide)]; exact e9_31
  have e10_40 : a10.eval (.tmp 40) = .int .u8 ((z : Nat) : Int) := by rw [h10]; exact eval_put_eq _ _ _ (by rw [sz9]; decide)
  clear e9_31 e9_35 e9_39 sz9
  refine readyH opRx8_10 (by kernel_rfl) (fun o ho hd => wpRun (v := .slice (some ⟨V0.heap.size, 0, none⟩) 1 1) (w' := V0.alloc (.cells #[.int .u8 ((z : Nat) : Int)] 5)) hd (run_mk1 ho e10_40 V0) ⟨hSA, ?_⟩)
  refine wpAnyH_as (l' := #[true, true, true, true, true, true, true, true, true, true, true, false, false]) (by kernel_rfl) ?_
  obtain ⟨a11, h11⟩ : ∃ a' : Act, a' = a10.put (some 41) (.slice (some ⟨V0.heap.size, 0, none⟩) 1 1) := ⟨_, rfl⟩
  rw [← h11]
  have sz11 : a11.tmps.size = 44 := by rw [h11, size_put]; exact sz10
  have e11_31 : a11.eval (.tmp 31) = v := by rw [h11, eval_put_ne _ _ _ _ (by decide)]; exact e10_31
  have e11_41 : a11.eval (.tmp 41) = .slice (some ⟨V0.heap.size, 0, none⟩) 1 1 := by rw [h11]; exact eval_put_eq _ _ _ (by rw [sz10]; decide)
  clear e10_31 e10_40 sz10
  refine readyH opRx8_11 (by kernel_rfl) (fun o ho hd => wpApp ho hd e11_31 e11_41 HAP.out (fun v' w' hr => ⟨HSR v' w' hr, ?_⟩))
  refine wpAnyH_as (l' := #[true, true, true, true, true, true, true, true, true, true, true, true, false]) (by kernel_rfl) ?_
  obtain ⟨a12, h12⟩ : ∃ a' : Act, a' = a11.put (some 42) (v') := ⟨_, rfl⟩
  rw [← h12]
  have sz12 : a12.tmps.size = 44 := by rw [h12, size_put]; exact sz11
  have e12_42 : a12.eval (.tmp 42) = v' := by rw [h12]; exact eval_put_eq _ _ _ (by rw [sz11]; decide)
  clear e11_31 e11_41 sz11
  refine readyH opRx8_12 (by kernel_rfl) (fun o ho hd => wpRun (v := v') (w' := w') hd (run_assign ho e12_42 w') ⟨HSR v' w' hr, ?_⟩)
  refine wpAnyH_as (l' := #[true, true, true, true, true, true, true, true, true, true, true, true, true]) (by kernel_rfl) ?_
  obtain ⟨a13, h13⟩ : ∃ a' : Act, a' = a12.put (some 9) (v') := ⟨_, rfl⟩
  rw [← h13]
  have sz13 : a13.tmps.size = 44 := by rw [h13, size_put]; exact sz12
  clear e12_42 sz12
  refine wpAnyH_done (by kernel_rfl) ?_ _
  have hF : a13 = ⟨#[c0, c1, c2, .slice (some ⟨b, oo, none⟩) n cap, c4, c5, c6, c7, c8, v', .pointer (some ⟨g, 0, none⟩), .int .i64 ((i : Nat) : Int), c12, c13, c14, c15, c16, c17, c18, c19, c20, c21, c22, c23, c24, c25, c26, c27, c28, c29, c30, v, .slice (some ⟨b, oo, none⟩) n cap, .int .i64 ((i : Nat) : Int), .pointer (some ⟨b, oo + i, none⟩), .int .u8 ((x : Nat) : Int), .int .i64 ((i : Nat) : Int), .int .i64 ((i % 64 : Nat) : Int), .pointer (some ⟨g, i % 64, none⟩), .int .u8 ((y : Nat) : Int), .int .u8 ((z : Nat) : Int), .slice (some ⟨V0.heap.size, 0, none⟩) 1 1, v', c43], []⟩ := by rw [h13, h12, h11, h10, h9, h8, h7, h6, h5, h4, h3, h2, h1, ha]; kernel_rfl
  rw [hF]
  exact H v' w' hr
end Go.Proofs.Ytefnlaookmpbhaa
