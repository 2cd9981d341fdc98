import Derived.Test.YtjhleocpipmklaaDoorMjac
namespace Go.Proofs.YtjhleocpipmklaaDoor
set_option linter.unusedSimpArgs false
set_option linter.unusedVariables false
open Go.ChangeShapes Go.WideShapes Go.ChangeAt Go.RowKit Go.Pin Go.Pat
theorem wp_as {P : Program} {c c' : Code} {Q : Exit → Act → World → Prop} {a : Act} {w : World} (h : c = c') (hc : Code.wp P c' Q a w) : Code.wp P c Q a w := by rw [h]; exact hc
/-- the region number n -/
def findReg (n : Nat) : Code → Option Code
  | .region i ops d => if i = n then some (.region i ops d) else none
  | .seq a b => match findReg n a with
    | some c => some c
    | none => findReg n b
  | .block _ c => findReg n c
  | .loop c => findReg n c
  | .scope c => findReg n c
  | .cond _ a b => match findReg n a with
    | some c => some c
    | none => findReg n b
  | _ => none
theorem put_comm (a : Act) {d e : Nat} (v u : Value) (h : d ≠ e) : (a.put (some d) v).put (some e) u = (a.put (some e) u).put (some d) v := by
  simp only [Act.put]
  rw [Array.setIfInBounds_comm _ _ h]
section
variable {P : Program} {ops : Array Oper} {Q : Exit → Act → World → Prop} {S : World → Prop} {fuel : Nat} {listed : Array Bool} {a : Act} {w : World}
/-- two may come up -/
theorem readyH2 {i j : Nat} {op oq : Op} {d e : Option Nat} (hi : opIs ops i op d) (hj : opIs ops j oq e) (hr : Region.ready .any ops listed = [i, j])
    (h1 : ∀ o : Oper, o.op = op → o.dst = d → Oper.wp P o a w (fun a' w' => S w' ∧ wpAnyH P .any ops Q S fuel (listed.setIfInBounds i true) a' w') Q)
    (h2 : ∀ o : Oper, o.op = oq → o.dst = e → Oper.wp P o a w (fun a' w' => S w' ∧ wpAnyH P .any ops Q S fuel (listed.setIfInBounds j true) a' w') Q) : wpAnyH P .any ops Q S (fuel + 1) listed a w := by
  obtain ⟨o1, k1, g1, p1, q1⟩ := hi.get
  obtain ⟨o2, k2, g2, p2, q2⟩ := hj.get
  refine wpAnyH_all hr (by simp) (fun k hk => ?_)
  simp only [List.mem_cons, List.not_mem_nil, or_false] at hk
  rcases hk with rfl | rfl
  · unfold wpOp
    simp only [k1]
    rw [if_pos (wanted_none g1 _)]
    exact .inl (h1 o1 p1 q1)
  · unfold wpOp
    simp only [k2]
    rw [if_pos (wanted_none g2 _)]
    exact .inl (h2 o2 p2 q2)
end
theorem wpRun {P : Program} {o : Oper} {a : Act} {w w' : World} {v : Value} {d : Option Nat} {K : Act → World → Prop} {Q : Exit → Act → World → Prop} (hd : o.dst = d) (hrun : (execOp a.eval o).run P w = .ok (.value v) w') (h : K (a.put d v) w') : Oper.wp P o a w K Q := by
  subst hd
  unfold Oper.wp
  rw [hrun]
  exact h
theorem wpCallX {α : Type} {P : Program} {o : Oper} {a : Act} {w : World} {K : Act → World → Prop} {Q : Exit → Act → World → Prop} {f : Nat} {xs : Array Operand} {ts : Array TypeId} {args : Array Value} {v : α → Value} {R : α → World → Prop} {d : Option Nat}
    (ho : o.op = .call { callee := .value (.func f), args := xs, argTypes := ts }) (hd : o.dst = d) (ha : xs.map a.eval = args) (hen : ∀ w, (callFunc f args).run P w = .ok (.enter f args) w) (hc : Calls P f args w fun e w' => ∃ x, e = .returned (v x) ∧ R x w') (h : ∀ x w', R x w' → K (a.put d (v x)) w') : Oper.wp P o a w K Q := by
  subst hd
  unfold Oper.wp execOp
  simp only [ho]
  go_simp
  refine hc.mono ?_
  rintro e w' ⟨x, rfl, hr⟩
  exact h x w' hr
theorem wpCall {P : Program} {o : Oper} {a : Act} {w : World} {K : Act → World → Prop} {Q : Exit → Act → World → Prop} {f : Nat} {xs : Array Operand} {ts : Array TypeId} {args : Array Value} {v : Value} {R : World → Prop} {d : Option Nat}
    (ho : o.op = .call { callee := .value (.func f), args := xs, argTypes := ts }) (hd : o.dst = d) (ha : xs.map a.eval = args) (hen : ∀ w, (callFunc f args).run P w = .ok (.enter f args) w) (hc : Calls P f args w fun e w' => e = .returned v ∧ R w') (h : ∀ w', R w' → K (a.put d v) w') : Oper.wp P o a w K Q := by
  subst hd
  unfold Oper.wp execOp
  simp only [ho]
  go_simp
  refine hc.mono ?_
  rintro e w' ⟨rfl, hr⟩
  exact h w' hr
theorem put_none (a : Act) (v : Value) : a.put none v = a := rfl
section
variable {a : Act} {o : Oper} {x y z : Operand}
theorem run_assign {P : Program} {v : Value} (ho : o.op = .assign x) (he : a.eval x = v) (w : World) : (execOp a.eval o).run P w = .ok (.value v) w := by
  unfold execOp
  simp only [ho, he]
  rfl
theorem run_fL0 {m : Nat} (ho : o.op = .fieldAddr 43 x 0) (he : a.eval x = .pointer (some ⟨m, 0, none⟩)) (w : World) : (execOp a.eval o).run Tryd.prog w = .ok (.value (.pointer (some ⟨m, 0, none⟩))) w := by
  unfold execOp
  simp only [ho, he]
  go_simp
theorem run_fL1 {m : Nat} (ho : o.op = .fieldAddr 43 x 1) (he : a.eval x = .pointer (some ⟨m, 0, none⟩)) (w : World) : (execOp a.eval o).run Tryd.prog w = .ok (.value (.pointer (some ⟨m, 1, none⟩))) w := by
  unfold execOp
  simp only [ho, he]
  go_simp
theorem run_ldI {m i : Nat} {f : Int} (ho : o.op = .load 3 x) (he : a.eval x = .pointer (some ⟨m, i, none⟩)) (w : World) (hc : w.cell? ⟨m, i, none⟩ = some (.int .i64 f)) : (execOp a.eval o).run Tryd.prog w = .ok (.value (.int .i64 f)) w := by
  unfold execOp
  simp only [ho, he]
  go_simp
theorem run_ldS {m i : Nat} {a2 : Option Addr} {n2 c2 : Nat} (ho : o.op = .load 22 x) (he : a.eval x = .pointer (some ⟨m, i, none⟩)) (w : World) (hc : w.cell? ⟨m, i, none⟩ = some (.slice a2 n2 c2)) : (execOp a.eval o).run Tryd.prog w = .ok (.value (.slice a2 n2 c2)) w := by
  unfold execOp
  simp only [ho, he]
  go_simp
theorem run_ixI {b i n2 c2 j : Nat} (ho : o.op = .indexAddr 22 x y) (he : a.eval x = .slice (some ⟨b, i, none⟩) n2 c2) (hf : a.eval y = .int .i64 (j : Int)) (hj : j < n2) (w : World) : (execOp a.eval o).run Tryd.prog w = .ok (.value (.pointer (some ⟨b, i + j, none⟩))) w := by
  unfold execOp
  have b4 : (j : Int) < (n2 : Int) := by omega
  simp only [ho, he, hf]
  go_simp
theorem run_ldX {g : Nat} {s : Sn} (hs : s.length = 12) (ho : o.op = .load 90 x) (he : a.eval x = .pointer (some ⟨g, 0, none⟩)) (w : World) (hg : w.heap[g]? = some (.cells (BV s) 90)) : (execOp a.eval o).run Tryd.prog w = .ok (.value (.agg (BV s))) w := by
  unfold execOp
  simp only [ho, he, Instr.loadAt, Instr.sureAddr, Sem.run_bind, Sem.run_pure, Result.andThen_ok, run_loadVar_row w g _ _ _ _ _ hg Tryd.underlying90 rfl (infoS hs)]
theorem run_ex0 {u v : Value} (ho : o.op = .extract x 0) (he : a.eval x = .tuple #[u, v]) (w : World) : (execOp a.eval o).run Tryd.prog w = .ok (.value u) w := by
  unfold execOp
  simp only [ho, he]
  go_simp
theorem run_ex1 {u v : Value} (ho : o.op = .extract x 1) (he : a.eval x = .tuple #[u, v]) (w : World) : (execOp a.eval o).run Tryd.prog w = .ok (.value v) w := by
  unfold execOp
  simp only [ho, he]
  go_simp
theorem run_alX (ho : o.op = .alloc 90) (w : World) : (execOp a.eval o).run Tryd.prog w = .ok (.value (.pointer (some ⟨w.heap.size, 0, none⟩))) (w.alloc (.cells (BV Sn0) 90)) := by
  unfold execOp
  simp only [ho]
  go_simp
  try rfl
end
/-- Check's boxes -/
structure CK (q g : Nat) (w : World) (nm : ByteArray) (v0 v1 vl : Value) (x : Sn) (wr : World) : Prop where
  pb : PB q w nm v0 v1 vl wr
  ne : q < g
  lt : g < wr.heap.size
  hx : wr.heap[g]? = some (.cells (BV x) 90)
section
variable {q g : Nat} {w wr w' : World} {nm : ByteArray} {v0 v1 vl : Value} {x : Sn}
theorem CK.below (h : CK q g w nm v0 v1 vl x wr) (hb : Below wr.heap.size wr w') : CK q g w nm v0 v1 vl x w' :=
  ⟨h.pb.below hb, h.ne, Nat.lt_of_lt_of_le h.lt hb.size, (hb.block _ h.lt).trans h.hx⟩
theorem ck_start (h : PB q w nm v0 v1 vl wr) (x : Sn) : CK q wr.heap.size w nm v0 v1 vl x (wr.alloc (.cells (BV x) 90)) :=
  ⟨h.below ((Below.refl _ _).alloc (Nat.le_refl _) _), h.lt, by simp [size_alloc], heap_alloc_new _ _⟩
end
/-- and a line's -/
structure CL (q g m : Nat) (w : World) (nm : ByteArray) (v0 v1 vl : Value) (x : Sn) (f : Int) (vt : Value) (wr : World) : Prop where
  ck : CK q g w nm v0 v1 vl x wr
  ne : g < m
  lt : m < wr.heap.size
  row : wr.heap[m]? = some (.cells #[.int .i64 f, vt] 43)
section
variable {q g m : Nat} {w wr w' : World} {nm : ByteArray} {v0 v1 vl : Value} {x : Sn} {f : Int} {vt : Value}
theorem CL.c0 (h : CL q g m w nm v0 v1 vl x f vt wr) : wr.cell? ⟨m, 0, none⟩ = some (.int .i64 f) := by rw [cell_of_row _ _ _ _ _ _ h.row]; rfl
theorem CL.c1 (h : CL q g m w nm v0 v1 vl x f vt wr) : wr.cell? ⟨m, 1, none⟩ = some vt := by rw [cell_of_row _ _ _ _ _ _ h.row]; rfl
theorem CL.below (h : CL q g m w nm v0 v1 vl x f vt wr) (hb : Below wr.heap.size wr w') : CL q g m w nm v0 v1 vl x f vt w' :=
  ⟨h.ck.below hb, h.ne, Nat.lt_of_lt_of_le h.lt hb.size, (hb.block _ h.lt).trans h.row⟩
theorem cl_start (h : CK q g w nm v0 v1 vl x wr) (f : Int) (vt : Value) : CL q g wr.heap.size w nm v0 v1 vl x f vt (wr.alloc (.cells #[.int .i64 f, vt] 43)) :=
  ⟨h.below ((Below.refl _ _).alloc (Nat.le_refl _) _), h.lt, by simp [size_alloc], heap_alloc_new _ _⟩
/-- what is seen is written over -/
theorem CL.over (h : CL q g m w nm v0 v1 vl x f vt wr) (y : Sn) : CL q g m w nm v0 v1 vl y f vt (wr.setRow g (BV y)) := by
  have hs : (wr.setRow g (BV y)).heap.size = wr.heap.size := by simp [World.setRow]
  have ho : ∀ k, k ≠ g → (wr.setRow g (BV y)).heap[k]? = wr.heap[k]? := fun k hk => setRow_other _ _ _ _ hk
  have := h.ck.ne
  have := h.ne
  exact ⟨⟨⟨below_setRow h.ck.pb.old _ (by omega) _, by rw [hs]; exact h.ck.pb.lt, (ho _ (by omega)).trans h.ck.pb.row⟩, h.ck.ne, by rw [hs]; exact h.ck.lt, setRow_heap _ _ _ _ _ _ h.ck.hx⟩, h.ne, by rw [hs]; exact h.lt, (ho _ (by omega)).trans h.row⟩
end
end Go.Proofs.YtjhleocpipmklaaDoor
namespace Go.Proofs.YtjhleocpipmklaaDoor
set_option linter.unusedSimpArgs false
set_option linter.unusedVariables false
open Go.ChangeShapes Go.WideShapes Go.ChangeAt Go.RowKit Go.Pin Go.Pat
noncomputable def rgC11 : Code := ((Tryd.f28.body.bind (findReg 11)).getD .skip)
noncomputable def opC11 : Array Oper := opsOf rgC11
theorem rgC11_is : rgC11 = .region 11 opC11 true := by kernel_rfl
theorem opC11_ns : Region.noSelect opC11 = true := by kernel_rfl
theorem opC11_0 : opIs opC11 0 (.load 90 (.tmp 3)) (some 34) := by unfold opIs; kernel_rfl
theorem opC11_1 : opIs opC11 1 (.fieldAddr 43 (.tmp 5) 0) (some 35) := by unfold opIs; kernel_rfl
theorem opC11_2 : opIs opC11 2 (.load 3 (.tmp 35)) (some 36) := by unfold opIs; kernel_rfl
theorem opC11_3 : opIs opC11 3 (.fieldAddr 43 (.tmp 5) 1) (some 37) := by unfold opIs; kernel_rfl
theorem opC11_4 : opIs opC11 4 (.load 22 (.tmp 37)) (some 38) := by unfold opIs; kernel_rfl
theorem opC11_5 : opIs opC11 5 (.move (.tmp 6)) (some 39) := by unfold opIs; kernel_rfl
theorem opC11_6 : opIs opC11 6 (.indexAddr 22 (.tmp 38) (.tmp 39)) (some 40) := by unfold opIs; kernel_rfl
theorem opC11_7 : opIs opC11 7 (.load 3 (.tmp 40)) (some 41) := by unfold opIs; kernel_rfl
theorem opC11_8 : opIs opC11 8 (.call { callee := .value (.func 50), args := #[.tmp 34, .tmp 36, .tmp 41], argTypes := #[90, 3, 3] }) (some 42) := by unfold opIs; kernel_rfl
theorem opC11_9 : opIs opC11 9 (.move (.tmp 42)) (some 33) := by unfold opIs; kernel_rfl
theorem opC11_10 : opIs opC11 10 (.extract (.tmp 33) 0) (some 43) := by unfold opIs; kernel_rfl
theorem opC11_11 : opIs opC11 11 (.extract (.tmp 33) 1) (some 44) := by unfold opIs; kernel_rfl
theorem opC11_12 : opIs opC11 12 (.alloc 90) (some 7) := by unfold opIs; kernel_rfl
theorem opC11_13 : opIs opC11 13 (.store 90 (.tmp 7) (.tmp 43)) (none) := by unfold opIs; kernel_rfl
theorem opC11_14 : opIs opC11 14 (.assign (.tmp 44)) (some 8) := by unfold opIs; kernel_rfl
set_option maxRecDepth 100000 in
set_option maxHeartbeats 4000000 in
theorem C11 {Q : Exit → Act → World → Prop} {q g m : Nat} {w W0 : World} {nm : ByteArray} {v0 v1 vl : Value} {y : Sn} {s : Nat} {b o n2 c2 j : Nat} {t : Int} {a0 : Act} (hy : y.length = 12) (hs : s < 2) (ht : 1 ≤ t ∧ t ≤ 7) (hj : j < n2)
    (h0 : CL q g m w nm v0 v1 vl y (s : Int) (.slice (some ⟨b, o, none⟩) n2 c2) W0) (hct : ∀ Y, Below q w Y → Y.cell? ⟨b, o + j, none⟩ = some (.int .i64 t))
    (sz0 : a0.tmps.size = 67) (e3 : a0.eval (.tmp 3) = .pointer (some ⟨g, 0, none⟩)) (e5 : a0.eval (.tmp 5) = .pointer (some ⟨m, 0, none⟩)) (e6 : a0.eval (.tmp 6) = .int .i64 (j : Int))
    (HPN : ∀ c (a : Act) d v w, Q (.panic c) (a.put d v) w → Q (.panic c) a w)
    (H : ∀ g7 Y, W0.heap.size ≤ g7 → Y.heap[g7]? = some (.cells (BV (tk y s t).1) 90) → Below W0.heap.size W0 Y → Q .normal ((((((((((((((a0.put (some 34) (.agg (BV y))).put (some 35) (.pointer (some ⟨m, 0, none⟩))).put (some 36) (.int .i64 (s : Int))).put (some 37) (.pointer (some ⟨m, 1, none⟩))).put (some 38) (.slice (some ⟨b, o, none⟩) n2 c2)).put (some 39) (.int .i64 (j : Int))).put (some 40) (.pointer (some ⟨b, o + j, none⟩))).put (some 41) (.int .i64 t)).put (some 42) (.tuple #[.agg (BV (tk y s t).1), .int .i64 (tk y s t).2])).put (some 33) (.tuple #[.agg (BV (tk y s t).1), .int .i64 (tk y s t).2])).put (some 43) (.agg (BV (tk y s t).1))).put (some 44) (.int .i64 (tk y s t).2)).put (some 7) (.pointer (some ⟨g7, 0, none⟩))).put (some 8) (.int .i64 (tk y s t).2)) Y) : Code.wp Tryd.prog rgC11 Q a0 W0 := by
  have hcl : ∀ Y, Below W0.heap.size W0 Y → CL q g m w nm v0 v1 vl y (s : Int) (.slice (some ⟨b, o, none⟩) n2 c2) Y := fun Y hY => h0.below hY
  have hD : Below W0.heap.size W0 W0.drew := drew_below (Below.refl _ _)
  rw [rgC11_is]
  refine wp_region_held_drew (S := (fun Y : World => Below W0.heap.size W0 Y)) (by kernel_rfl) hD (fun hH => ?_)
  refine wpAnyH_as (l' := #[false, false, false, false, false, false, false, false, false, false, false, false, false, false, false]) (by kernel_rfl) ?_
  have e0_3 := e3
  have e0_5 := e5
  have e0_6 := e6
  refine takeH (v := (.agg (BV y))) opC11_0 opC11_ns (by kernel_rfl) (by kernel_rfl) HPN (fun w hw o ho => run_ldX hy ho e0_3 w (hcl w hw).ck.hx) hD ?_
  refine wpAnyH_as (l' := #[true, false, false, false, false, false, false, false, false, false, false, false, false, false, false]) (by kernel_rfl) ?_
  obtain ⟨a1, ha1⟩ : ∃ a' : Act, a' = a0.put (some 34) (.agg (BV y)) := ⟨_, rfl⟩
  rw [← ha1]
  have sz1 : a1.tmps.size = 67 := by rw [ha1, size_put]; exact sz0
  have e1_5 : a1.eval (.tmp 5) = .pointer (some ⟨m, 0, none⟩) := by rw [ha1, eval_put_ne _ _ _ _ (by decide)]; exact e0_5
  have e1_6 : a1.eval (.tmp 6) = .int .i64 (j : Int) := by rw [ha1, eval_put_ne _ _ _ _ (by decide)]; exact e0_6
  have e1_34 : a1.eval (.tmp 34) = (.agg (BV y)) := by rw [ha1]; exact eval_put_eq _ _ _ (by rw [sz0]; decide)
  refine takeH (v := (.pointer (some ⟨m, 0, none⟩))) opC11_1 opC11_ns (by kernel_rfl) (by kernel_rfl) HPN (fun w hw o ho => run_fL0 ho e1_5 w) hD ?_
  refine wpAnyH_as (l' := #[true, true, false, false, false, false, false, false, false, false, false, false, false, false, false]) (by kernel_rfl) ?_
  obtain ⟨a2, ha2⟩ : ∃ a' : Act, a' = a1.put (some 35) (.pointer (some ⟨m, 0, none⟩)) := ⟨_, rfl⟩
  rw [← ha2]
  have sz2 : a2.tmps.size = 67 := by rw [ha2, size_put]; exact sz1
  have e2_5 : a2.eval (.tmp 5) = .pointer (some ⟨m, 0, none⟩) := by rw [ha2, eval_put_ne _ _ _ _ (by decide)]; exact e1_5
  have e2_6 : a2.eval (.tmp 6) = .int .i64 (j : Int) := by rw [ha2, eval_put_ne _ _ _ _ (by decide)]; exact e1_6
  have e2_34 : a2.eval (.tmp 34) = (.agg (BV y)) := by rw [ha2, eval_put_ne _ _ _ _ (by decide)]; exact e1_34
  have e2_35 : a2.eval (.tmp 35) = (.pointer (some ⟨m, 0, none⟩)) := by rw [ha2]; exact eval_put_eq _ _ _ (by rw [sz1]; decide)
  refine takeH (v := (.int .i64 (s : Int))) opC11_2 opC11_ns (by kernel_rfl) (by kernel_rfl) HPN (fun w hw o ho => run_ldI ho e2_35 w (hcl w hw).c0) hD ?_
  refine wpAnyH_as (l' := #[true, true, true, false, false, false, false, false, false, false, false, false, false, false, false]) (by kernel_rfl) ?_
  obtain ⟨a3, ha3⟩ : ∃ a' : Act, a' = a2.put (some 36) (.int .i64 (s : Int)) := ⟨_, rfl⟩
  rw [← ha3]
  have sz3 : a3.tmps.size = 67 := by rw [ha3, size_put]; exact sz2
  have e3_5 : a3.eval (.tmp 5) = .pointer (some ⟨m, 0, none⟩) := by rw [ha3, eval_put_ne _ _ _ _ (by decide)]; exact e2_5
  have e3_6 : a3.eval (.tmp 6) = .int .i64 (j : Int) := by rw [ha3, eval_put_ne _ _ _ _ (by decide)]; exact e2_6
  have e3_34 : a3.eval (.tmp 34) = (.agg (BV y)) := by rw [ha3, eval_put_ne _ _ _ _ (by decide)]; exact e2_34
  have e3_36 : a3.eval (.tmp 36) = (.int .i64 (s : Int)) := by rw [ha3]; exact eval_put_eq _ _ _ (by rw [sz2]; decide)
  refine takeH (v := (.pointer (some ⟨m, 1, none⟩))) opC11_3 opC11_ns (by kernel_rfl) (by kernel_rfl) HPN (fun w hw o ho => run_fL1 ho e3_5 w) hD ?_
  refine wpAnyH_as (l' := #[true, true, true, true, false, false, false, false, false, false, false, false, false, false, false]) (by kernel_rfl) ?_
  obtain ⟨a4, ha4⟩ : ∃ a' : Act, a' = a3.put (some 37) (.pointer (some ⟨m, 1, none⟩)) := ⟨_, rfl⟩
  rw [← ha4]
  have sz4 : a4.tmps.size = 67 := by rw [ha4, size_put]; exact sz3
  have e4_6 : a4.eval (.tmp 6) = .int .i64 (j : Int) := by rw [ha4, eval_put_ne _ _ _ _ (by decide)]; exact e3_6
  have e4_34 : a4.eval (.tmp 34) = (.agg (BV y)) := by rw [ha4, eval_put_ne _ _ _ _ (by decide)]; exact e3_34
  have e4_36 : a4.eval (.tmp 36) = (.int .i64 (s : Int)) := by rw [ha4, eval_put_ne _ _ _ _ (by decide)]; exact e3_36
  have e4_37 : a4.eval (.tmp 37) = (.pointer (some ⟨m, 1, none⟩)) := by rw [ha4]; exact eval_put_eq _ _ _ (by rw [sz3]; decide)
  refine takeH (v := (.slice (some ⟨b, o, none⟩) n2 c2)) opC11_4 opC11_ns (by kernel_rfl) (by kernel_rfl) HPN (fun w hw o ho => run_ldS ho e4_37 w (hcl w hw).c1) hD ?_
  refine wpAnyH_as (l' := #[true, true, true, true, true, false, false, false, false, false, false, false, false, false, false]) (by kernel_rfl) ?_
  obtain ⟨a5, ha5⟩ : ∃ a' : Act, a' = a4.put (some 38) (.slice (some ⟨b, o, none⟩) n2 c2) := ⟨_, rfl⟩
  rw [← ha5]
  have sz5 : a5.tmps.size = 67 := by rw [ha5, size_put]; exact sz4
  have e5_6 : a5.eval (.tmp 6) = .int .i64 (j : Int) := by rw [ha5, eval_put_ne _ _ _ _ (by decide)]; exact e4_6
  have e5_34 : a5.eval (.tmp 34) = (.agg (BV y)) := by rw [ha5, eval_put_ne _ _ _ _ (by decide)]; exact e4_34
  have e5_36 : a5.eval (.tmp 36) = (.int .i64 (s : Int)) := by rw [ha5, eval_put_ne _ _ _ _ (by decide)]; exact e4_36
  have e5_38 : a5.eval (.tmp 38) = (.slice (some ⟨b, o, none⟩) n2 c2) := by rw [ha5]; exact eval_put_eq _ _ _ (by rw [sz4]; decide)
  refine takeH (v := (.int .i64 (j : Int))) opC11_5 opC11_ns (by kernel_rfl) (by kernel_rfl) HPN (fun w hw o ho => run_move ho e5_6 w) hD ?_
  refine wpAnyH_as (l' := #[true, true, true, true, true, true, false, false, false, false, false, false, false, false, false]) (by kernel_rfl) ?_
  obtain ⟨a6, ha6⟩ : ∃ a' : Act, a' = a5.put (some 39) (.int .i64 (j : Int)) := ⟨_, rfl⟩
  rw [← ha6]
  have sz6 : a6.tmps.size = 67 := by rw [ha6, size_put]; exact sz5
  have e6_34 : a6.eval (.tmp 34) = (.agg (BV y)) := by rw [ha6, eval_put_ne _ _ _ _ (by decide)]; exact e5_34
  have e6_36 : a6.eval (.tmp 36) = (.int .i64 (s : Int)) := by rw [ha6, eval_put_ne _ _ _ _ (by decide)]; exact e5_36
  have e6_38 : a6.eval (.tmp 38) = (.slice (some ⟨b, o, none⟩) n2 c2) := by rw [ha6, eval_put_ne _ _ _ _ (by decide)]; exact e5_38
  have e6_39 : a6.eval (.tmp 39) = (.int .i64 (j : Int)) := by rw [ha6]; exact eval_put_eq _ _ _ (by rw [sz5]; decide)
  refine takeH (v := (.pointer (some ⟨b, o + j, none⟩))) opC11_6 opC11_ns (by kernel_rfl) (by kernel_rfl) HPN (fun w hw o ho => run_ixI ho e6_38 e6_39 hj w) hD ?_
  refine wpAnyH_as (l' := #[true, true, true, true, true, true, true, false, false, false, false, false, false, false, false]) (by kernel_rfl) ?_
  obtain ⟨a7, ha7⟩ : ∃ a' : Act, a' = a6.put (some 40) (.pointer (some ⟨b, o + j, none⟩)) := ⟨_, rfl⟩
  rw [← ha7]
  have sz7 : a7.tmps.size = 67 := by rw [ha7, size_put]; exact sz6
  have e7_34 : a7.eval (.tmp 34) = (.agg (BV y)) := by rw [ha7, eval_put_ne _ _ _ _ (by decide)]; exact e6_34
  have e7_36 : a7.eval (.tmp 36) = (.int .i64 (s : Int)) := by rw [ha7, eval_put_ne _ _ _ _ (by decide)]; exact e6_36
  have e7_40 : a7.eval (.tmp 40) = (.pointer (some ⟨b, o + j, none⟩)) := by rw [ha7]; exact eval_put_eq _ _ _ (by rw [sz6]; decide)
  refine takeH (v := (.int .i64 t)) opC11_7 opC11_ns (by kernel_rfl) (by kernel_rfl) HPN (fun w hw o ho => run_ldI ho e7_40 w (hct w (hcl w hw).ck.pb.old)) hD ?_
  refine wpAnyH_as (l' := #[true, true, true, true, true, true, true, true, false, false, false, false, false, false, false]) (by kernel_rfl) ?_
  obtain ⟨a8, ha8⟩ : ∃ a' : Act, a' = a7.put (some 41) (.int .i64 t) := ⟨_, rfl⟩
  rw [← ha8]
  have sz8 : a8.tmps.size = 67 := by rw [ha8, size_put]; exact sz7
  have e8_34 : a8.eval (.tmp 34) = (.agg (BV y)) := by rw [ha8, eval_put_ne _ _ _ _ (by decide)]; exact e7_34
  have e8_36 : a8.eval (.tmp 36) = (.int .i64 (s : Int)) := by rw [ha8, eval_put_ne _ _ _ _ (by decide)]; exact e7_36
  have e8_41 : a8.eval (.tmp 41) = (.int .i64 t) := by rw [ha8]; exact eval_put_eq _ _ _ (by rw [sz7]; decide)
  have hA : ((((a8.put (some 42) (.tuple #[.agg (BV (tk y s t).1), .int .i64 (tk y s t).2])).put (some 33) (.tuple #[.agg (BV (tk y s t).1), .int .i64 (tk y s t).2])).put (some 43) (.agg (BV (tk y s t).1))).put (some 44) (.int .i64 (tk y s t).2)) = ((((((((((((a0.put (some 34) (.agg (BV y))).put (some 35) (.pointer (some ⟨m, 0, none⟩))).put (some 36) (.int .i64 (s : Int))).put (some 37) (.pointer (some ⟨m, 1, none⟩))).put (some 38) (.slice (some ⟨b, o, none⟩) n2 c2)).put (some 39) (.int .i64 (j : Int))).put (some 40) (.pointer (some ⟨b, o + j, none⟩))).put (some 41) (.int .i64 t)).put (some 42) (.tuple #[.agg (BV (tk y s t).1), .int .i64 (tk y s t).2])).put (some 33) (.tuple #[.agg (BV (tk y s t).1), .int .i64 (tk y s t).2])).put (some 43) (.agg (BV (tk y s t).1))).put (some 44) (.int .i64 (tk y s t).2)) := by rw [ha8, ha7, ha6, ha5, ha4, ha3, ha2, ha1]
  have Lend : ∀ g7 Y, W0.heap.size ≤ g7 → Y.heap[g7]? = some (.cells (BV Sn0) 90) → Below W0.heap.size W0 Y → wpAnyH Tryd.prog .any opC11 Q (fun Y : World => Below W0.heap.size W0 Y) 2 #[true, true, true, true, true, true, true, true, true, true, true, true, true, false, false] (((((a8.put (some 42) (.tuple #[.agg (BV (tk y s t).1), .int .i64 (tk y s t).2])).put (some 33) (.tuple #[.agg (BV (tk y s t).1), .int .i64 (tk y s t).2])).put (some 43) (.agg (BV (tk y s t).1))).put (some 44) (.int .i64 (tk y s t).2)).put (some 7) (.pointer (some ⟨g7, 0, none⟩))) Y := fun g7 Y hg hz hb => by
    have q1 : (((((a8.put (some 42) (.tuple #[.agg (BV (tk y s t).1), .int .i64 (tk y s t).2])).put (some 33) (.tuple #[.agg (BV (tk y s t).1), .int .i64 (tk y s t).2])).put (some 43) (.agg (BV (tk y s t).1))).put (some 44) (.int .i64 (tk y s t).2)).put (some 7) (.pointer (some ⟨g7, 0, none⟩))).eval (.tmp 7) = (.pointer (some ⟨g7, 0, none⟩)) := by exact eval_put_eq _ _ _ (by simp only [size_put, sz8]; decide)
    have q2 : (((((a8.put (some 42) (.tuple #[.agg (BV (tk y s t).1), .int .i64 (tk y s t).2])).put (some 33) (.tuple #[.agg (BV (tk y s t).1), .int .i64 (tk y s t).2])).put (some 43) (.agg (BV (tk y s t).1))).put (some 44) (.int .i64 (tk y s t).2)).put (some 7) (.pointer (some ⟨g7, 0, none⟩))).eval (.tmp 43) = (.agg (BV (tk y s t).1)) := by rw [eval_put_ne _ _ _ _ (by decide)]; rw [eval_put_ne _ _ _ _ (by decide)]; exact eval_put_eq _ _ _ (by simp only [size_put, sz8]; decide)
    have q3 : (((((a8.put (some 42) (.tuple #[.agg (BV (tk y s t).1), .int .i64 (tk y s t).2])).put (some 33) (.tuple #[.agg (BV (tk y s t).1), .int .i64 (tk y s t).2])).put (some 43) (.agg (BV (tk y s t).1))).put (some 44) (.int .i64 (tk y s t).2)).put (some 7) (.pointer (some ⟨g7, 0, none⟩))).eval (.tmp 44) = (.int .i64 (tk y s t).2) := by rw [eval_put_ne _ _ _ _ (by decide)]; exact eval_put_eq _ _ _ (by simp only [size_put, sz8]; decide)
    have hl : (tk y s t).1.length = 12 := by rw [tk_length]; exact hy
    refine readyH opC11_13 (by kernel_rfl) (fun o ho hd => ?_)
    refine wp_store_row 90 (.tmp 7) (.tmp 43) ho g7 (BV (tk y s t).1) q1 q2 90 (BV Sn0) hz (infoS hl) (szS hl) (BV_one _) ?_
    rw [hd, put_none]
    have hb2 : Below W0.heap.size W0 (Y.setRow g7 (BV (tk y s t).1)) := below_setRow hb _ hg _
    refine ⟨hb2, ?_⟩
    refine wpAnyH_as (l' := #[true, true, true, true, true, true, true, true, true, true, true, true, true, true, false]) (by kernel_rfl) ?_
    refine readyH opC11_14 (by kernel_rfl) (fun o ho hd => wpRun (v := (.int .i64 (tk y s t).2)) (w' := _) hd (run_assign ho q3 _) ⟨hb2, ?_⟩)
    refine wpAnyH_as (l' := #[true, true, true, true, true, true, true, true, true, true, true, true, true, true, true]) (by kernel_rfl) ?_
    refine wpAnyH_done (by kernel_rfl) ?_ _
    rw [hA]
    exact H g7 _ hg (setRow_heap _ _ _ _ _ _ hz) hb2
  have CT : ∀ Y, Calls Tryd.prog 50 #[.agg (BV y), .int .i64 (s : Int), .int .i64 t] Y fun e w' => e = .returned (.tuple #[.agg (BV (tk y s t).1), .int .i64 (tk y s t).2]) ∧ Below Y.heap.size Y w' := fun Y => token_any y hy s hs t ht.1 ht.2 Y
  have hbt : ∀ Y w', Below W0.heap.size W0 Y → Below Y.heap.size Y w' → Below W0.heap.size W0 w' := fun Y w' h1 h2 => h1.trans (h2.mono h1.size)
  have Lc1 : ∀ Y, Below W0.heap.size W0 Y → wpAnyH Tryd.prog .any opC11 Q (fun Y : World => Below W0.heap.size W0 Y) 6 #[true, true, true, true, true, true, true, true, true, false, false, false, false, false, false] (a8.put (some 42) (.tuple #[.agg (BV (tk y s t).1), .int .i64 (tk y s t).2])) Y := fun Y hb => by
    have q1 : (a8.put (some 42) (.tuple #[.agg (BV (tk y s t).1), .int .i64 (tk y s t).2])).eval (.tmp 42) = (.tuple #[.agg (BV (tk y s t).1), .int .i64 (tk y s t).2]) := by exact eval_put_eq _ _ _ (by simp only [size_put, sz8]; decide)
    refine takeH (v := (.tuple #[.agg (BV (tk y s t).1), .int .i64 (tk y s t).2])) opC11_9 opC11_ns (by kernel_rfl) (by kernel_rfl) HPN (fun w hw o ho => run_move ho q1 w) hb ?_
    refine wpAnyH_as (l' := #[true, true, true, true, true, true, true, true, true, true, false, false, false, false, false]) (by kernel_rfl) ?_
    have q2 : ((a8.put (some 42) (.tuple #[.agg (BV (tk y s t).1), .int .i64 (tk y s t).2])).put (some 33) (.tuple #[.agg (BV (tk y s t).1), .int .i64 (tk y s t).2])).eval (.tmp 33) = (.tuple #[.agg (BV (tk y s t).1), .int .i64 (tk y s t).2]) := by exact eval_put_eq _ _ _ (by simp only [size_put, sz8]; decide)
    refine takeH (v := (.agg (BV (tk y s t).1))) opC11_10 opC11_ns (by kernel_rfl) (by kernel_rfl) HPN (fun w hw o ho => run_ex0 ho q2 w) hb ?_
    refine wpAnyH_as (l' := #[true, true, true, true, true, true, true, true, true, true, true, false, false, false, false]) (by kernel_rfl) ?_
    have q3 : (((a8.put (some 42) (.tuple #[.agg (BV (tk y s t).1), .int .i64 (tk y s t).2])).put (some 33) (.tuple #[.agg (BV (tk y s t).1), .int .i64 (tk y s t).2])).put (some 43) (.agg (BV (tk y s t).1))).eval (.tmp 33) = (.tuple #[.agg (BV (tk y s t).1), .int .i64 (tk y s t).2]) := by rw [eval_put_ne _ _ _ _ (by decide)]; exact eval_put_eq _ _ _ (by simp only [size_put, sz8]; decide)
    refine takeH (v := (.int .i64 (tk y s t).2)) opC11_11 opC11_ns (by kernel_rfl) (by kernel_rfl) HPN (fun w hw o ho => run_ex1 ho q3 w) hb ?_
    refine wpAnyH_as (l' := #[true, true, true, true, true, true, true, true, true, true, true, true, false, false, false]) (by kernel_rfl) ?_
    have hb2 : Below W0.heap.size W0 (Y.alloc (.cells (BV Sn0) 90)) := hb.alloc hb.size _
    refine readyH opC11_12 (by kernel_rfl) (fun o ho hd => wpRun hd (run_alX ho Y) ⟨hb2, ?_⟩)
    refine wpAnyH_as (l' := #[true, true, true, true, true, true, true, true, true, true, true, true, true, false, false]) (by kernel_rfl) ?_
    exact Lend _ _ hb.size (heap_alloc_new _ _) hb2
  have Lc2 : ∀ g7 Y, W0.heap.size ≤ g7 → Y.heap[g7]? = some (.cells (BV Sn0) 90) → Below W0.heap.size W0 Y → wpAnyH Tryd.prog .any opC11 Q (fun Y : World => Below W0.heap.size W0 Y) 5 #[true, true, true, true, true, true, true, true, true, false, false, false, true, false, false] ((a8.put (some 42) (.tuple #[.agg (BV (tk y s t).1), .int .i64 (tk y s t).2])).put (some 7) (.pointer (some ⟨g7, 0, none⟩))) Y := fun g7 Y hg hz hb => by
    have q1 : ((a8.put (some 42) (.tuple #[.agg (BV (tk y s t).1), .int .i64 (tk y s t).2])).put (some 7) (.pointer (some ⟨g7, 0, none⟩))).eval (.tmp 42) = (.tuple #[.agg (BV (tk y s t).1), .int .i64 (tk y s t).2]) := by rw [eval_put_ne _ _ _ _ (by decide)]; exact eval_put_eq _ _ _ (by simp only [size_put, sz8]; decide)
    refine takeH (v := (.tuple #[.agg (BV (tk y s t).1), .int .i64 (tk y s t).2])) opC11_9 opC11_ns (by kernel_rfl) (by kernel_rfl) HPN (fun w hw o ho => run_move ho q1 w) hb ?_
    refine wpAnyH_as (l' := #[true, true, true, true, true, true, true, true, true, true, false, false, true, false, false]) (by kernel_rfl) ?_
    rw [put_comm _ _ _ (by decide)]
    have q2 : (((a8.put (some 42) (.tuple #[.agg (BV (tk y s t).1), .int .i64 (tk y s t).2])).put (some 33) (.tuple #[.agg (BV (tk y s t).1), .int .i64 (tk y s t).2])).put (some 7) (.pointer (some ⟨g7, 0, none⟩))).eval (.tmp 33) = (.tuple #[.agg (BV (tk y s t).1), .int .i64 (tk y s t).2]) := by rw [eval_put_ne _ _ _ _ (by decide)]; exact eval_put_eq _ _ _ (by simp only [size_put, sz8]; decide)
    refine takeH (v := (.agg (BV (tk y s t).1))) opC11_10 opC11_ns (by kernel_rfl) (by kernel_rfl) HPN (fun w hw o ho => run_ex0 ho q2 w) hb ?_
    refine wpAnyH_as (l' := #[true, true, true, true, true, true, true, true, true, true, true, false, true, false, false]) (by kernel_rfl) ?_
    rw [put_comm _ _ _ (by decide)]
    have q3 : ((((a8.put (some 42) (.tuple #[.agg (BV (tk y s t).1), .int .i64 (tk y s t).2])).put (some 33) (.tuple #[.agg (BV (tk y s t).1), .int .i64 (tk y s t).2])).put (some 43) (.agg (BV (tk y s t).1))).put (some 7) (.pointer (some ⟨g7, 0, none⟩))).eval (.tmp 33) = (.tuple #[.agg (BV (tk y s t).1), .int .i64 (tk y s t).2]) := by rw [eval_put_ne _ _ _ _ (by decide)]; rw [eval_put_ne _ _ _ _ (by decide)]; exact eval_put_eq _ _ _ (by simp only [size_put, sz8]; decide)
    refine takeH (v := (.int .i64 (tk y s t).2)) opC11_11 opC11_ns (by kernel_rfl) (by kernel_rfl) HPN (fun w hw o ho => run_ex1 ho q3 w) hb ?_
    refine wpAnyH_as (l' := #[true, true, true, true, true, true, true, true, true, true, true, true, true, false, false]) (by kernel_rfl) ?_
    rw [put_comm _ _ _ (by decide)]
    exact Lend g7 Y hg hz hb
  refine readyH2 opC11_8 opC11_12 (by kernel_rfl) (fun o ho hd => wpCall (v := (.tuple #[.agg (BV (tk y s t).1), .int .i64 (tk y s t).2])) ho hd (args := #[.agg (BV y), .int .i64 (s : Int), .int .i64 t]) (by simp only [List.map_toArray, List.map_cons, List.map_nil, e8_34, e8_36, e8_41]) (fun _ => rfl) (CT _) (fun w' hw' => ⟨hbt _ _ hD hw', ?_⟩)) (fun o ho hd => wpRun hd (run_alX ho _) ⟨hD.alloc hD.size _, ?_⟩)
  · refine wpAnyH_as (l' := #[true, true, true, true, true, true, true, true, true, false, false, false, false, false, false]) (by kernel_rfl) ?_
    exact Lc1 w' (hbt _ _ hD hw')
  · refine wpAnyH_as (l' := #[true, true, true, true, true, true, true, true, false, false, false, false, true, false, false]) (by kernel_rfl) ?_
    have hb2 : Below W0.heap.size W0 (W0.drew.alloc (.cells (BV Sn0) 90)) := hD.alloc hD.size _
    have p1 : ∀ g7, (a8.put (some 7) (.pointer (some ⟨g7, 0, none⟩))).eval (.tmp 34) = .agg (BV y) := fun g7 => by rw [eval_put_ne _ _ _ _ (by decide)]; exact e8_34
    have p2 : ∀ g7, (a8.put (some 7) (.pointer (some ⟨g7, 0, none⟩))).eval (.tmp 36) = .int .i64 (s : Int) := fun g7 => by rw [eval_put_ne _ _ _ _ (by decide)]; exact e8_36
    have p3 : ∀ g7, (a8.put (some 7) (.pointer (some ⟨g7, 0, none⟩))).eval (.tmp 41) = .int .i64 t := fun g7 => by rw [eval_put_ne _ _ _ _ (by decide)]; exact e8_41
    refine readyH opC11_8 (by kernel_rfl) (fun o ho hd => wpCall (v := (.tuple #[.agg (BV (tk y s t).1), .int .i64 (tk y s t).2])) ho hd (args := #[.agg (BV y), .int .i64 (s : Int), .int .i64 t]) (by simp only [List.map_toArray, List.map_cons, List.map_nil, p1, p2, p3]) (fun _ => rfl) (CT _) (fun w' hw' => ⟨hbt _ _ hb2 hw', ?_⟩))
    refine wpAnyH_as (l' := #[true, true, true, true, true, true, true, true, true, false, false, false, true, false, false]) (by kernel_rfl) ?_
    rw [put_comm _ _ _ (by decide)]
    exact Lc2 _ w' hD.size ((hw'.block _ (by simp [size_alloc])).trans (heap_alloc_new _ _)) (hbt _ _ hb2 hw')
end Go.Proofs.YtjhleocpipmklaaDoor
