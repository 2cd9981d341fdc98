import Derived.Test.YtjhleocpipmklaaDoorMjag
import Derived.Test.YtjhleocpipmklaaDoorMjaf
namespace Go.Proofs.YtjhleocpipmklaaDoor
set_option linter.unusedSimpArgs false
set_option linter.unusedVariables false
open Go.ChangeShapes Go.WideShapes Go.ChangeAt Go.RowKit Go.Pin Go.Pat
abbrev Gd := Int × Int × Int
def gcs (l : List Gd) : List Value := l.flatMap fun g => [.int .i64 g.1, .int .i64 g.2.1, .int .i64 g.2.2]
theorem gcs_length (l : List Gd) : (gcs l).length = l.length * 3 := by
  induction l with
  | nil => rfl
  | cons g r ih => simp [gcs] at ih ⊢; omega
theorem gcs_snoc (l : List Gd) (g : Gd) : gcs (l ++ [g]) = gcs l ++ [.int .i64 g.1, .int .i64 g.2.1, .int .i64 g.2.2] := by simp [gcs]
theorem parts_g : (Tryd.prog.info? 48).map (fun i => (i.zero, i.size, i.bytes)) = some (some (.agg #[.int .i64 0, .int .i64 0, .int .i64 0]), 3, 24) := by kernel_rfl
/-- Levels' boxes: the pattern's, a list of grades that grows -/
structure LV (q : Nat) (w : World) (nm : ByteArray) (v0 v1 vl : Value) (gs : List Gd) (v : Value) (wr : World) : Prop where
  pb : PB q w nm v0 v1 vl wr
  own : wr.ownsRow (q + 1) 48 3 v gs.length (gcs gs)
section
variable {q : Nat} {w wr w' : World} {nm : ByteArray} {v0 v1 vl v : Value} {gs : List Gd}
theorem LV.below (h : LV q w nm v0 v1 vl gs v wr) (hb : Below wr.heap.size wr w') : LV q w nm v0 v1 vl gs v w' := ⟨h.pb.below hb, owns_below hb h.own⟩
theorem LV.app (h : LV q w nm v0 v1 vl gs v wr) (hn : gs.length + 1 ≤ 1000) (a : Nat) (g : Gd) (hc : wr.heap[a]? = some (.cells #[.int .i64 g.1, .int .i64 g.2.1, .int .i64 g.2.2] 48)) :
    ∀ ty, ∃ v' w', (Builtin.append_ #[30, 30] ty #[v, .slice (some ⟨a, 0, none⟩) 1 1]).run Tryd.prog wr = .ok v' w' ∧ LV q w nm v0 v1 vl (gs ++ [g]) v' w' := fun ty => by
  obtain ⟨i, i1, hz⟩ := Option.map_eq_some_iff.1 parts_g
  simp only [Prod.mk.injEq] at hz
  obtain ⟨i2, i3, i4⟩ := hz
  obtain ⟨v', w', hr, h2, h3, _, _⟩ := run_append_own_at (P := Tryd.prog) wr (q + 1) 30 ty 48 i (.agg #[.int .i64 0, .int .i64 0, .int .i64 0]) 3 24 Tryd.underlying30 i1 i2 i3 i4 rfl (by decide) v gs.length (gcs gs) h.own ⟨a, 0, none⟩ 1 1 [.int .i64 g.1, .int .i64 g.2.1, .int .i64 g.2.2] rfl (fun j u hu => by
    rw [add_mid, Nat.zero_add, cell_of_row _ _ _ _ _ _ hc, ← hu]; simp) (fun u hu => by simp at hu; rcases hu with rfl | rfl | rfl <;> rfl) (by unfold maxLen; omega) (by omega) h.pb.lt
  refine ⟨v', w', hr, ⟨?_, Nat.lt_of_lt_of_le h.pb.lt h3.size, ?_⟩, ?_⟩
  · refine ⟨h3.os.trans h.pb.old.os, h3.tape.trans h.pb.old.tape, h3.output.trans h.pb.old.output, Nat.le_trans h.pb.old.size h3.size, fun k hk => ?_⟩
    rw [h3.block k (Nat.lt_trans hk h.pb.lt) (fun e => by have := (h.own.lt k e.symm).1; omega)]
    exact h.pb.old.block k hk
  · rw [h3.block q h.pb.lt (fun e => by have := (h.own.lt q e.symm).1; omega)]
    exact h.pb.row
  · rw [gcs_snoc, List.length_append]
    exact h2
end
section
variable {a : Act} {o : Oper} {x y z : Operand}
theorem run_mkG {s : Nat} {c0 c1 c2 : Value} (ho : o.op = .buildSlice 30 1 #[(0, .tmp s)]) (he : a.eval (.tmp s) = .agg #[c0, c1, c2]) (w : World) : (execOp a.eval o).run Tryd.prog w = .ok (.value (.slice (some ⟨w.heap.size, 0, none⟩) 1 1)) (w.alloc (.cells #[c0, c1, c2] 48)) := by
  unfold execOp
  have he' : a.tmps[s]?.getD undef = .agg #[c0, c1, c2] := by rw [← he]; simp [Act.eval]
  simp only [ho]
  go_simp
theorem run_bG {s t u : Nat} {x y z : Int} (ho : o.op = .build 48 #[(0, .tmp s), (1, .tmp t), (2, .tmp u)]) (h1 : a.eval (.tmp s) = .int .i64 x) (h2 : a.eval (.tmp t) = .int .i64 y) (h3 : a.eval (.tmp u) = .int .i64 z) (w : World) : (execOp a.eval o).run Tryd.prog w = .ok (.value (.agg #[.int .i64 x, .int .i64 y, .int .i64 z])) w := by
  unfold execOp
  have e1 : a.tmps[s]?.getD undef = .int .i64 x := by rw [← h1]; simp [Act.eval]
  have e2 : a.tmps[t]?.getD undef = .int .i64 y := by rw [← h2]; simp [Act.eval]
  have e3 : a.tmps[u]?.getD undef = .int .i64 z := by rw [← h3]; simp [Act.eval]
  simp only [ho]
  go_simp
end
noncomputable def rgLe10 : Code := ((Tryd.f12.body.bind (findReg 10)).getD .skip)
noncomputable def opLe10 : Array Oper := opsOf rgLe10
theorem rgLe10_is : rgLe10 = .region 10 opLe10 true := by kernel_rfl
theorem opLe10_ns : Region.noSelect opLe10 = true := by kernel_rfl
theorem opLe10_0 : opIs opLe10 0 (.move (.tmp 7)) (some 29) := by unfold opIs; kernel_rfl
theorem opLe10_1 : opIs opLe10 1 (.load 26 (.tmp 2)) (some 30) := by unfold opIs; kernel_rfl
theorem opLe10_2 : opIs opLe10 2 (.move (.tmp 8)) (some 31) := by unfold opIs; kernel_rfl
theorem opLe10_3 : opIs opLe10 3 (.call { callee := .value (.func 29), args := #[.tmp 30, .tmp 31], argTypes := #[26, 3] }) (some 32) := by unfold opIs; kernel_rfl
theorem opLe10_4 : opIs opLe10 4 (.load 26 (.tmp 2)) (some 33) := by unfold opIs; kernel_rfl
theorem opLe10_5 : opIs opLe10 5 (.move (.tmp 8)) (some 34) := by unfold opIs; kernel_rfl
theorem opLe10_6 : opIs opLe10 6 (.call { callee := .value (.func 30), args := #[.tmp 33, .tmp 34], argTypes := #[26, 3] }) (some 35) := by unfold opIs; kernel_rfl
theorem opLe10_7 : opIs opLe10 7 (.load 26 (.tmp 2)) (some 36) := by unfold opIs; kernel_rfl
theorem opLe10_8 : opIs opLe10 8 (.move (.tmp 8)) (some 37) := by unfold opIs; kernel_rfl
theorem opLe10_9 : opIs opLe10 9 (.call { callee := .value (.func 31), args := #[.tmp 36, .tmp 37], argTypes := #[26, 3] }) (some 38) := by unfold opIs; kernel_rfl
theorem opLe10_10 : opIs opLe10 10 (.build 48 #[(0, .tmp 32), (1, .tmp 35), (2, .tmp 38)]) (some 39) := by unfold opIs; kernel_rfl
theorem opLe10_11 : opIs opLe10 11 (.buildSlice 30 1 #[(0, .tmp 39)]) (some 40) := by unfold opIs; kernel_rfl
theorem opLe10_12 : opIs opLe10 12 (.call { callee := .builtin .append, args := #[.tmp 29, .tmp 40], argTypes := #[30, 30] }) (some 41) := by unfold opIs; kernel_rfl
theorem opLe10_13 : opIs opLe10 13 (.assign (.tmp 41)) (some 7) := by unfold opIs; kernel_rfl
set_option maxRecDepth 100000 in
set_option maxHeartbeats 4000000 in
theorem Le10 {Q : Exit → Act → World → Prop} {q : Nat} {w W0 : World} {nm : ByteArray} {v0 v1 vl v7 : Value} {k : Nat} {gs : List Gd} {sd sr ds : Int} {a0 : Act} (h0 : LV q w nm v0 v1 vl gs v7 W0) (hn : gs.length + 1 ≤ 1000)
    (HSE : ∀ W, Below q w W → Calls Tryd.prog 29 #[.agg #[.string nm, v0, v1, vl], .int .i64 (k : Int)] W fun e w' => e = .returned (.int .i64 sd) ∧ Below W.heap.size W w')
    (HSO : ∀ W, Below q w W → Calls Tryd.prog 30 #[.agg #[.string nm, v0, v1, vl], .int .i64 (k : Int)] W fun e w' => e = .returned (.int .i64 sr) ∧ Below W.heap.size W w')
    (HDE : ∀ W, Below q w W → Calls Tryd.prog 31 #[.agg #[.string nm, v0, v1, vl], .int .i64 (k : Int)] W fun e w' => e = .returned (.int .i64 ds) ∧ Below W.heap.size W w')
    (sz0 : a0.tmps.size = 43) (e0_2 : a0.eval (.tmp 2) = .pointer (some ⟨q, 0, none⟩)) (e0_7 : a0.eval (.tmp 7) = v7) (e0_8 : a0.eval (.tmp 8) = .int .i64 (k : Int))
    (HPN : ∀ c (a : Act) d v w, Q (.panic c) (a.put d v) w → Q (.panic c) a w)
    (H : ∀ u v' Y, LV q w nm v0 v1 vl (gs ++ [(sd, sr, ds)]) v' Y → Q .normal ((((((((((((((a0.put (some 29) v7).put (some 30) (.agg #[.string nm, v0, v1, vl])).put (some 31) (.int .i64 (k : Int))).put (some 33) (.agg #[.string nm, v0, v1, vl])).put (some 34) (.int .i64 (k : Int))).put (some 36) (.agg #[.string nm, v0, v1, vl])).put (some 37) (.int .i64 (k : Int))).put (some 32) (.int .i64 sd)).put (some 35) (.int .i64 sr)).put (some 38) (.int .i64 ds)).put (some 39) (.agg #[.int .i64 sd, .int .i64 sr, .int .i64 ds])).put (some 40) u).put (some 41) v').put (some 7) v') Y) : Code.wp Tryd.prog rgLe10 Q a0 W0 := by
  have st0 : LV q w nm v0 v1 vl gs v7 W0.drew := h0.below (drew_below (Below.refl _ _))
  rw [rgLe10_is]
  refine wp_region_held_drew (S := (fun Y : World => PB q w nm v0 v1 vl Y)) (by kernel_rfl) st0.pb (fun hH => ?_)
  refine wpAnyH_as (l' := #[false, false, false, false, false, false, false, false, false, false, false, false, false, false]) (by kernel_rfl) ?_
  refine takeH (v := v7) opLe10_0 opLe10_ns (by kernel_rfl) (by kernel_rfl) HPN (fun w hw o ho => run_move ho e0_7 w) st0.pb ?_
  refine wpAnyH_as (l' := #[true, false, false, false, false, false, false, false, false, false, false, false, false, false]) (by kernel_rfl) ?_
  obtain ⟨a1, ha1⟩ : ∃ a' : Act, a' = a0.put (some 29) v7 := ⟨_, rfl⟩
  rw [← ha1]
  have sz1 : a1.tmps.size = 43 := by rw [ha1, size_put]; exact sz0
  have e1_2 : a1.eval (.tmp 2) = .pointer (some ⟨q, 0, none⟩) := by rw [ha1, eval_put_ne _ _ _ _ (by decide)]; exact e0_2
  have e1_8 : a1.eval (.tmp 8) = .int .i64 (k : Int) := by rw [ha1, eval_put_ne _ _ _ _ (by decide)]; exact e0_8
  have e1_29 : a1.eval (.tmp 29) = v7 := by rw [ha1]; exact eval_put_eq _ _ _ (by rw [sz0]; decide)
  refine takeH (v := (.agg #[.string nm, v0, v1, vl])) opLe10_1 opLe10_ns (by kernel_rfl) (by kernel_rfl) HPN (fun w hw o ho => run_ldP ho e1_2 w hw.row) st0.pb ?_
  refine wpAnyH_as (l' := #[true, true, false, false, false, false, false, false, false, false, false, false, false, false]) (by kernel_rfl) ?_
  obtain ⟨a2, ha2⟩ : ∃ a' : Act, a' = a1.put (some 30) (.agg #[.string nm, v0, v1, vl]) := ⟨_, rfl⟩
  rw [← ha2]
  have sz2 : a2.tmps.size = 43 := by rw [ha2, size_put]; exact sz1
  have e2_2 : a2.eval (.tmp 2) = .pointer (some ⟨q, 0, none⟩) := by rw [ha2, eval_put_ne _ _ _ _ (by decide)]; exact e1_2
  have e2_8 : a2.eval (.tmp 8) = .int .i64 (k : Int) := by rw [ha2, eval_put_ne _ _ _ _ (by decide)]; exact e1_8
  have e2_29 : a2.eval (.tmp 29) = v7 := by rw [ha2, eval_put_ne _ _ _ _ (by decide)]; exact e1_29
  have e2_30 : a2.eval (.tmp 30) = (.agg #[.string nm, v0, v1, vl]) := by rw [ha2]; exact eval_put_eq _ _ _ (by rw [sz1]; decide)
  refine takeH (v := (.int .i64 (k : Int))) opLe10_2 opLe10_ns (by kernel_rfl) (by kernel_rfl) HPN (fun w hw o ho => run_move ho e2_8 w) st0.pb ?_
  refine wpAnyH_as (l' := #[true, true, true, false, false, false, false, false, false, false, false, false, false, false]) (by kernel_rfl) ?_
  obtain ⟨a3, ha3⟩ : ∃ a' : Act, a' = a2.put (some 31) (.int .i64 (k : Int)) := ⟨_, rfl⟩
  rw [← ha3]
  have sz3 : a3.tmps.size = 43 := by rw [ha3, size_put]; exact sz2
  have e3_2 : a3.eval (.tmp 2) = .pointer (some ⟨q, 0, none⟩) := by rw [ha3, eval_put_ne _ _ _ _ (by decide)]; exact e2_2
  have e3_8 : a3.eval (.tmp 8) = .int .i64 (k : Int) := by rw [ha3, eval_put_ne _ _ _ _ (by decide)]; exact e2_8
  have e3_29 : a3.eval (.tmp 29) = v7 := by rw [ha3, eval_put_ne _ _ _ _ (by decide)]; exact e2_29
  have e3_30 : a3.eval (.tmp 30) = (.agg #[.string nm, v0, v1, vl]) := by rw [ha3, eval_put_ne _ _ _ _ (by decide)]; exact e2_30
  have e3_31 : a3.eval (.tmp 31) = (.int .i64 (k : Int)) := by rw [ha3]; exact eval_put_eq _ _ _ (by rw [sz2]; decide)
  refine takeH (v := (.agg #[.string nm, v0, v1, vl])) opLe10_4 opLe10_ns (by kernel_rfl) (by kernel_rfl) HPN (fun w hw o ho => run_ldP ho e3_2 w hw.row) st0.pb ?_
  refine wpAnyH_as (l' := #[true, true, true, false, true, false, false, false, false, false, false, false, false, false]) (by kernel_rfl) ?_
  obtain ⟨a4, ha4⟩ : ∃ a' : Act, a' = a3.put (some 33) (.agg #[.string nm, v0, v1, vl]) := ⟨_, rfl⟩
  rw [← ha4]
  have sz4 : a4.tmps.size = 43 := by rw [ha4, size_put]; exact sz3
  have e4_2 : a4.eval (.tmp 2) = .pointer (some ⟨q, 0, none⟩) := by rw [ha4, eval_put_ne _ _ _ _ (by decide)]; exact e3_2
  have e4_8 : a4.eval (.tmp 8) = .int .i64 (k : Int) := by rw [ha4, eval_put_ne _ _ _ _ (by decide)]; exact e3_8
  have e4_29 : a4.eval (.tmp 29) = v7 := by rw [ha4, eval_put_ne _ _ _ _ (by decide)]; exact e3_29
  have e4_30 : a4.eval (.tmp 30) = (.agg #[.string nm, v0, v1, vl]) := by rw [ha4, eval_put_ne _ _ _ _ (by decide)]; exact e3_30
  have e4_31 : a4.eval (.tmp 31) = (.int .i64 (k : Int)) := by rw [ha4, eval_put_ne _ _ _ _ (by decide)]; exact e3_31
  have e4_33 : a4.eval (.tmp 33) = (.agg #[.string nm, v0, v1, vl]) := by rw [ha4]; exact eval_put_eq _ _ _ (by rw [sz3]; decide)
  refine takeH (v := (.int .i64 (k : Int))) opLe10_5 opLe10_ns (by kernel_rfl) (by kernel_rfl) HPN (fun w hw o ho => run_move ho e4_8 w) st0.pb ?_
  refine wpAnyH_as (l' := #[true, true, true, false, true, true, false, false, false, false, false, false, false, false]) (by kernel_rfl) ?_
  obtain ⟨a5, ha5⟩ : ∃ a' : Act, a' = a4.put (some 34) (.int .i64 (k : Int)) := ⟨_, rfl⟩
  rw [← ha5]
  have sz5 : a5.tmps.size = 43 := by rw [ha5, size_put]; exact sz4
  have e5_2 : a5.eval (.tmp 2) = .pointer (some ⟨q, 0, none⟩) := by rw [ha5, eval_put_ne _ _ _ _ (by decide)]; exact e4_2
  have e5_8 : a5.eval (.tmp 8) = .int .i64 (k : Int) := by rw [ha5, eval_put_ne _ _ _ _ (by decide)]; exact e4_8
  have e5_29 : a5.eval (.tmp 29) = v7 := by rw [ha5, eval_put_ne _ _ _ _ (by decide)]; exact e4_29
  have e5_30 : a5.eval (.tmp 30) = (.agg #[.string nm, v0, v1, vl]) := by rw [ha5, eval_put_ne _ _ _ _ (by decide)]; exact e4_30
  have e5_31 : a5.eval (.tmp 31) = (.int .i64 (k : Int)) := by rw [ha5, eval_put_ne _ _ _ _ (by decide)]; exact e4_31
  have e5_33 : a5.eval (.tmp 33) = (.agg #[.string nm, v0, v1, vl]) := by rw [ha5, eval_put_ne _ _ _ _ (by decide)]; exact e4_33
  have e5_34 : a5.eval (.tmp 34) = (.int .i64 (k : Int)) := by rw [ha5]; exact eval_put_eq _ _ _ (by rw [sz4]; decide)
  refine takeH (v := (.agg #[.string nm, v0, v1, vl])) opLe10_7 opLe10_ns (by kernel_rfl) (by kernel_rfl) HPN (fun w hw o ho => run_ldP ho e5_2 w hw.row) st0.pb ?_
  refine wpAnyH_as (l' := #[true, true, true, false, true, true, false, true, false, false, false, false, false, false]) (by kernel_rfl) ?_
  obtain ⟨a6, ha6⟩ : ∃ a' : Act, a' = a5.put (some 36) (.agg #[.string nm, v0, v1, vl]) := ⟨_, rfl⟩
  rw [← ha6]
  have sz6 : a6.tmps.size = 43 := by rw [ha6, size_put]; exact sz5
  have e6_8 : a6.eval (.tmp 8) = .int .i64 (k : Int) := by rw [ha6, eval_put_ne _ _ _ _ (by decide)]; exact e5_8
  have e6_29 : a6.eval (.tmp 29) = v7 := by rw [ha6, eval_put_ne _ _ _ _ (by decide)]; exact e5_29
  have e6_30 : a6.eval (.tmp 30) = (.agg #[.string nm, v0, v1, vl]) := by rw [ha6, eval_put_ne _ _ _ _ (by decide)]; exact e5_30
  have e6_31 : a6.eval (.tmp 31) = (.int .i64 (k : Int)) := by rw [ha6, eval_put_ne _ _ _ _ (by decide)]; exact e5_31
  have e6_33 : a6.eval (.tmp 33) = (.agg #[.string nm, v0, v1, vl]) := by rw [ha6, eval_put_ne _ _ _ _ (by decide)]; exact e5_33
  have e6_34 : a6.eval (.tmp 34) = (.int .i64 (k : Int)) := by rw [ha6, eval_put_ne _ _ _ _ (by decide)]; exact e5_34
  have e6_36 : a6.eval (.tmp 36) = (.agg #[.string nm, v0, v1, vl]) := by rw [ha6]; exact eval_put_eq _ _ _ (by rw [sz5]; decide)
  refine takeH (v := (.int .i64 (k : Int))) opLe10_8 opLe10_ns (by kernel_rfl) (by kernel_rfl) HPN (fun w hw o ho => run_move ho e6_8 w) st0.pb ?_
  refine wpAnyH_as (l' := #[true, true, true, false, true, true, false, true, true, false, false, false, false, false]) (by kernel_rfl) ?_
  obtain ⟨a7, ha7⟩ : ∃ a' : Act, a' = a6.put (some 37) (.int .i64 (k : Int)) := ⟨_, rfl⟩
  rw [← ha7]
  have sz7 : a7.tmps.size = 43 := by rw [ha7, size_put]; exact sz6
  have e7_29 : a7.eval (.tmp 29) = v7 := by rw [ha7, eval_put_ne _ _ _ _ (by decide)]; exact e6_29
  have e7_30 : a7.eval (.tmp 30) = (.agg #[.string nm, v0, v1, vl]) := by rw [ha7, eval_put_ne _ _ _ _ (by decide)]; exact e6_30
  have e7_31 : a7.eval (.tmp 31) = (.int .i64 (k : Int)) := by rw [ha7, eval_put_ne _ _ _ _ (by decide)]; exact e6_31
  have e7_33 : a7.eval (.tmp 33) = (.agg #[.string nm, v0, v1, vl]) := by rw [ha7, eval_put_ne _ _ _ _ (by decide)]; exact e6_33
  have e7_34 : a7.eval (.tmp 34) = (.int .i64 (k : Int)) := by rw [ha7, eval_put_ne _ _ _ _ (by decide)]; exact e6_34
  have e7_36 : a7.eval (.tmp 36) = (.agg #[.string nm, v0, v1, vl]) := by rw [ha7, eval_put_ne _ _ _ _ (by decide)]; exact e6_36
  have e7_37 : a7.eval (.tmp 37) = (.int .i64 (k : Int)) := by rw [ha7]; exact eval_put_eq _ _ _ (by rw [sz6]; decide)
  refine readyH opLe10_3 (by kernel_rfl) (fun o ho hd => wpCall (v := (.int .i64 sd)) ho hd (args := #[.agg #[.string nm, v0, v1, vl], .int .i64 (k : Int)]) (by simp only [List.map_toArray, List.map_cons, List.map_nil, e7_30, e7_31]) (fun _ => rfl) (HSE _ st0.pb.old) (fun w7 hw7 => ⟨(st0.below hw7).pb, ?_⟩))
  have st8 := st0.below hw7
  refine wpAnyH_as (l' := #[true, true, true, true, true, true, false, true, true, false, false, false, false, false]) (by kernel_rfl) ?_
  obtain ⟨a8, ha8⟩ : ∃ a' : Act, a' = a7.put (some 32) (.int .i64 sd) := ⟨_, rfl⟩
  rw [← ha8]
  have sz8 : a8.tmps.size = 43 := by rw [ha8, size_put]; exact sz7
  have e8_29 : a8.eval (.tmp 29) = v7 := by rw [ha8, eval_put_ne _ _ _ _ (by decide)]; exact e7_29
  have e8_33 : a8.eval (.tmp 33) = (.agg #[.string nm, v0, v1, vl]) := by rw [ha8, eval_put_ne _ _ _ _ (by decide)]; exact e7_33
  have e8_34 : a8.eval (.tmp 34) = (.int .i64 (k : Int)) := by rw [ha8, eval_put_ne _ _ _ _ (by decide)]; exact e7_34
  have e8_36 : a8.eval (.tmp 36) = (.agg #[.string nm, v0, v1, vl]) := by rw [ha8, eval_put_ne _ _ _ _ (by decide)]; exact e7_36
  have e8_37 : a8.eval (.tmp 37) = (.int .i64 (k : Int)) := by rw [ha8, eval_put_ne _ _ _ _ (by decide)]; exact e7_37
  have e8_32 : a8.eval (.tmp 32) = (.int .i64 sd) := by rw [ha8]; exact eval_put_eq _ _ _ (by rw [sz7]; decide)
  refine readyH opLe10_6 (by kernel_rfl) (fun o ho hd => wpCall (v := (.int .i64 sr)) ho hd (args := #[.agg #[.string nm, v0, v1, vl], .int .i64 (k : Int)]) (by simp only [List.map_toArray, List.map_cons, List.map_nil, e8_33, e8_34]) (fun _ => rfl) (HSO _ st8.pb.old) (fun w8 hw8 => ⟨(st8.below hw8).pb, ?_⟩))
  have st9 := st8.below hw8
  refine wpAnyH_as (l' := #[true, true, true, true, true, true, true, true, true, false, false, false, false, false]) (by kernel_rfl) ?_
  obtain ⟨a9, ha9⟩ : ∃ a' : Act, a' = a8.put (some 35) (.int .i64 sr) := ⟨_, rfl⟩
  rw [← ha9]
  have sz9 : a9.tmps.size = 43 := by rw [ha9, size_put]; exact sz8
  have e9_29 : a9.eval (.tmp 29) = v7 := by rw [ha9, eval_put_ne _ _ _ _ (by decide)]; exact e8_29
  have e9_36 : a9.eval (.tmp 36) = (.agg #[.string nm, v0, v1, vl]) := by rw [ha9, eval_put_ne _ _ _ _ (by decide)]; exact e8_36
  have e9_37 : a9.eval (.tmp 37) = (.int .i64 (k : Int)) := by rw [ha9, eval_put_ne _ _ _ _ (by decide)]; exact e8_37
  have e9_32 : a9.eval (.tmp 32) = (.int .i64 sd) := by rw [ha9, eval_put_ne _ _ _ _ (by decide)]; exact e8_32
  have e9_35 : a9.eval (.tmp 35) = (.int .i64 sr) := by rw [ha9]; exact eval_put_eq _ _ _ (by rw [sz8]; decide)
  refine readyH opLe10_9 (by kernel_rfl) (fun o ho hd => wpCall (v := (.int .i64 ds)) ho hd (args := #[.agg #[.string nm, v0, v1, vl], .int .i64 (k : Int)]) (by simp only [List.map_toArray, List.map_cons, List.map_nil, e9_36, e9_37]) (fun _ => rfl) (HDE _ st9.pb.old) (fun w9 hw9 => ⟨(st9.below hw9).pb, ?_⟩))
  have st10 := st9.below hw9
  refine wpAnyH_as (l' := #[true, true, true, true, true, true, true, true, true, true, false, false, false, false]) (by kernel_rfl) ?_
  obtain ⟨a10, ha10⟩ : ∃ a' : Act, a' = a9.put (some 38) (.int .i64 ds) := ⟨_, rfl⟩
  rw [← ha10]
  have sz10 : a10.tmps.size = 43 := by rw [ha10, size_put]; exact sz9
  have e10_29 : a10.eval (.tmp 29) = v7 := by rw [ha10, eval_put_ne _ _ _ _ (by decide)]; exact e9_29
  have e10_32 : a10.eval (.tmp 32) = (.int .i64 sd) := by rw [ha10, eval_put_ne _ _ _ _ (by decide)]; exact e9_32
  have e10_35 : a10.eval (.tmp 35) = (.int .i64 sr) := by rw [ha10, eval_put_ne _ _ _ _ (by decide)]; exact e9_35
  have e10_38 : a10.eval (.tmp 38) = (.int .i64 ds) := by rw [ha10]; exact eval_put_eq _ _ _ (by rw [sz9]; decide)
  refine takeH (v := (.agg #[.int .i64 sd, .int .i64 sr, .int .i64 ds])) opLe10_10 opLe10_ns (by kernel_rfl) (by kernel_rfl) HPN (fun w hw o ho => run_bG ho e10_32 e10_35 e10_38 w) st10.pb ?_
  refine wpAnyH_as (l' := #[true, true, true, true, true, true, true, true, true, true, true, false, false, false]) (by kernel_rfl) ?_
  obtain ⟨a11, ha11⟩ : ∃ a' : Act, a' = a10.put (some 39) (.agg #[.int .i64 sd, .int .i64 sr, .int .i64 ds]) := ⟨_, rfl⟩
  rw [← ha11]
  have sz11 : a11.tmps.size = 43 := by rw [ha11, size_put]; exact sz10
  have e11_29 : a11.eval (.tmp 29) = v7 := by rw [ha11, eval_put_ne _ _ _ _ (by decide)]; exact e10_29
  have e11_39 : a11.eval (.tmp 39) = (.agg #[.int .i64 sd, .int .i64 sr, .int .i64 ds]) := by rw [ha11]; exact eval_put_eq _ _ _ (by rw [sz10]; decide)
  obtain ⟨V, hV⟩ : ∃ V, V = w9 := ⟨_, rfl⟩
  have stA := st10.below ((Below.refl w9.heap.size w9).alloc (Nat.le_refl _) (.cells #[.int .i64 sd, .int .i64 sr, .int .i64 ds] 48))
  have hrow : (w9.alloc (.cells #[.int .i64 sd, .int .i64 sr, .int .i64 ds] 48)).heap[w9.heap.size]? = some (.cells #[.int .i64 sd, .int .i64 sr, .int .i64 ds] 48) := heap_alloc_new _ _
  refine readyH opLe10_11 (by kernel_rfl) (fun o ho hd => wpRun (v := .slice (some ⟨w9.heap.size, 0, none⟩) 1 1) (w' := w9.alloc (.cells #[.int .i64 sd, .int .i64 sr, .int .i64 ds] 48)) hd (run_mkG ho e11_39 w9) ⟨stA.pb, ?_⟩)
  refine wpAnyH_as (l' := #[true, true, true, true, true, true, true, true, true, true, true, true, false, false]) (by kernel_rfl) ?_
  have q29 : (a11.put (some 40) (.slice (some ⟨w9.heap.size, 0, none⟩) 1 1)).eval (.tmp 29) = v7 := by rw [eval_put_ne _ _ _ _ (by decide)]; exact e11_29
  have q40 : (a11.put (some 40) (.slice (some ⟨w9.heap.size, 0, none⟩) 1 1)).eval (.tmp 40) = .slice (some ⟨w9.heap.size, 0, none⟩) 1 1 := eval_put_eq _ _ _ (by rw [sz11]; decide)
  refine readyH opLe10_12 (by kernel_rfl) (fun o ho hd => wpApp ho hd q29 q40 (stA.app hn w9.heap.size (sd, sr, ds) hrow) (fun v' w' hr => ⟨hr.pb, ?_⟩))
  refine wpAnyH_as (l' := #[true, true, true, true, true, true, true, true, true, true, true, true, true, false]) (by kernel_rfl) ?_
  have q41 : ((a11.put (some 40) (.slice (some ⟨w9.heap.size, 0, none⟩) 1 1)).put (some 41) v').eval (.tmp 41) = v' := eval_put_eq _ _ _ (by rw [size_put, sz11]; decide)
  refine readyH opLe10_13 (by kernel_rfl) (fun o ho hd => wpRun (v := v') (w' := _) hd (run_assign ho q41 _) ⟨hr.pb, ?_⟩)
  refine wpAnyH_as (l' := #[true, true, true, true, true, true, true, true, true, true, true, true, true, true]) (by kernel_rfl) ?_
  refine wpAnyH_done (by kernel_rfl) ?_ _
  rw [ha11, ha10, ha9, ha8, ha7, ha6, ha5, ha4, ha3, ha2, ha1]
  exact H _ v' w' hr
end Go.Proofs.YtjhleocpipmklaaDoor
namespace Go.Proofs.YtjhleocpipmklaaDoor
set_option linter.unusedSimpArgs false
set_option linter.unusedVariables false
open Go.ChangeShapes Go.WideShapes Go.ChangeAt Go.RowKit Go.Pin Go.Pat
theorem shp_len : ∀ (L : List Ln) (o : Option Int) (m : Nat), shp o m L = true → L ≠ [] → m + L.length ≤ 24
  | [], _, _, _, h => absurd rfl h
  | (f, ts) :: r, o, m, h, _ => by
    rw [shp_split] at h
    simp only [Bool.and_eq_true, decide_eq_true_eq, Bool.not_eq_true', List.isEmpty_eq_false_iff] at h
    have h1 : 0 < ts.length := List.length_pos_iff.2 h.1.1.1.2
    have h2 := h.1.1.2
    by_cases hr : r = []
    · subst hr; simp; omega
    · have := shp_len r _ _ h.2 hr
      simp; omega
theorem chk_valid {p : Pt} (h : chk p = 0) : (∀ l ∈ p.ln, l.1 = 0 ∨ l.1 = 1) ∧ p.ln.length ≤ 24 := by
  have hs : shaped p = true := by
    rcases e : shaped p with _ | _
    · simp [chk, e] at h
    · rfl
  unfold shaped at hs
  simp only [Bool.and_eq_true, Bool.not_eq_true', List.isEmpty_eq_false_iff] at hs
  refine ⟨fun l hl => (shp_lines _ _ _ hs.2 l hl).1, ?_⟩
  have := shp_len _ _ _ hs.2 hs.1.2
  omega
def gd (p : Pt) (k : Nat) : Gd := (sender p k, src p k, dst p k)
def lvE (p : Pt) (more : Int) : Int := if chk p ≠ 0 then chk p else if more < 0 ∨ 64 < more then 1 else 0
def lvL (p : Pt) (more : Int) : List Gd := if lvE p more = 0 then (List.range (p.ln.length + more.toNat)).map (gd p) else []
theorem own_nil (w : World) (b : Nat) : w.ownsRow b 48 3 (.slice none 0 0) 0 (gcs []) := ⟨rfl, .inl ⟨rfl, rfl⟩⟩
set_option maxRecDepth 100000 in
set_option maxHeartbeats 4000000 in
theorem levels_any (v : Value) (p : Pt) (w : World) (h : RdP w v p) (more : Int) (hm1 : -9223372036854775808 ≤ more) (hm2 : more < 9223372036854775808) :
    Calls Tryd.prog 12 #[v, .int .i64 more] w fun e w' => ∃ u, e = .returned (.tuple #[u, .int .i64 (lvE p more)]) ∧ w'.ownsRow (w.heap.size + 1) 48 3 u (lvL p more).length (gcs (lvL p more)) ∧ Below w.heap.size w w' := by
  have hck := fun (W : World) (hW : Below w.heap.size w W) => check_any v p W (h.below hW)
  have hrd := h
  obtain ⟨v0, v1, vl, rfl, h0, h1, hl⟩ := h
  obtain ⟨al, cl, rfl, _, hm, _⟩ := id hl
  have hst := pb_start w p.nm v0 v1 (.slice al p.ln.length cl)
  obtain ⟨q, hq⟩ : ∃ q, w.heap.size = q := ⟨_, rfl⟩
  obtain ⟨n, hn⟩ : ∃ n, p.ln.length = n := ⟨_, rfl⟩
  obtain ⟨nm, hnm⟩ : ∃ nm, p.nm = nm := ⟨_, rfl⟩
  simp only [hn, hq, hnm] at hst hck hrd ⊢
  obtain ⟨W, hW⟩ : ∃ W, w.alloc (.cells #[.string nm, v0, v1, .slice al n cl] 26) = W := ⟨_, rfl⟩
  rw [hW] at hst
  have HP : Hid (PB q w nm v0 v1 (.slice al n cl) W) := hst
  have CK0 := hck W hst.old
  have HN : Hid (p.ln.length = n) := hn
  have c0 := hst.c0
  have c1 := hst.c1
  have c2 := hst.c2
  have c3 := hst.c3
  by_cases hz : chk p = 0
  · rw [hz] at CK0
    obtain ⟨hv, h24⟩ := chk_valid hz
    rw [hn] at h24
    by_cases hmo : more < 0 ∨ 64 < more
    · have HE : Hid (lvE p more = 1) := by show lvE p more = 1; simp [lvE, hz, hmo]
      have HL : Hid (lvL p more = []) := by show lvL p more = []; simp [lvL, HE.out]
      clear hst hck hrd h0 h1 hl
      by_cases hlt : more < 0
      · go_enter Tryd.func12, Tryd.ntmps12
        go_wp2_with (go_at_call 28; refine Calls.mono CK0 ?_; rintro e w1 ⟨rfl, hw⟩; have HW1 : Hid (PB q w nm v0 v1 (.slice al n cl) w1) := HP.out.below hw; clear hw)
        go_ret2
        rw [HE.out, HL.out]
        exact ⟨_, rfl, own_nil _ _, HW1.out.old⟩
      · have hgt : 64 < more := by omega
        go_enter Tryd.func12, Tryd.ntmps12
        go_wp2_with (go_at_call 28; refine Calls.mono CK0 ?_; rintro e w1 ⟨rfl, hw⟩; have HW1 : Hid (PB q w nm v0 v1 (.slice al n cl) w1) := HP.out.below hw; clear hw)
        go_ret2
        rw [HE.out, HL.out]
        exact ⟨_, rfl, own_nil _ _, HW1.out.old⟩
    · obtain ⟨mo, rfl⟩ : ∃ mo : Nat, more = (mo : Int) := ⟨more.toNat, by omega⟩
      have hmo64 : mo ≤ 64 := by omega
      have HE : Hid (lvE p (mo : Int) = 0) := by show lvE p (mo : Int) = 0; simp [lvE, hz]; omega
      have HL : Hid (lvL p (mo : Int) = (List.range (n + mo)).map (gd p)) := by show lvL p (mo : Int) = _; simp [lvL, HE.out, hn]
      have HSE : Hid (∀ i, i ≤ 1000 → ∀ W, Below q w W → Calls Tryd.prog 29 #[.agg #[.string nm, v0, v1, .slice al n cl], .int .i64 ((i : Nat) : Int)] W fun e w' => e = .returned (.int .i64 (sender p i)) ∧ Below W.heap.size W w') := fun i hi W hW => sender_any _ p W (hrd.below (by rw [hq]; exact hW)) hv i hi
      have HSO : Hid (∀ i, i ≤ 1000 → ∀ W, Below q w W → Calls Tryd.prog 30 #[.agg #[.string nm, v0, v1, .slice al n cl], .int .i64 ((i : Nat) : Int)] W fun e w' => e = .returned (.int .i64 (src p i)) ∧ Below W.heap.size W w') := fun i hi W hW => source_any _ p W (hrd.below (by rw [hq]; exact hW)) hv i hi
      have HDE : Hid (∀ i, i ≤ 1000 → ∀ W, Below q w W → Calls Tryd.prog 31 #[.agg #[.string nm, v0, v1, .slice al n cl], .int .i64 ((i : Nat) : Int)] W fun e w' => e = .returned (.int .i64 (dst p i)) ∧ Below W.heap.size W w') := fun i hi W hW => dest_any _ p W (hrd.below (by rw [hq]; exact hW)) hv i hi
      have b0 : ¬ (mo : Int) < 0 := by omega
      have b64 : ¬ (64 : Int) < (mo : Int) := by omega
      have hws : wrap64 ((n : Int) + (mo : Int)) = ((n + mo : Nat) : Int) := by rw [IntWalk.wrap64_in _ ⟨by omega, by omega⟩]; omega
      have HB : Hid (n + mo ≤ 88) := by show n + mo ≤ 88; omega
      clear hst hck hrd h0 h1 hl hm1 hm2 hmo hm
      go_enter Tryd.func12, Tryd.ntmps12
      go_wp2_with (go_at_call 28; refine Calls.mono CK0 ?_; rintro e w1 ⟨rfl, hw⟩; have HW1 : Hid (PB q w nm v0 v1 (.slice al n cl) w1) := HP.out.below hw; clear hw)
      go_loopw [7, 8] (fun v7 v8 wr => ∃ i : Nat, i ≤ n + mo ∧ v8 = .int .i64 i ∧ LV q w nm v0 v1 (.slice al n cl) ((List.range i).map (gd p)) v7 wr) (fun _ v _ => (n + mo) - (intOf v).toNat)
      case atStart => exact ⟨0, Nat.zero_le _, rfl, HW1.out, own_nil _ _⟩
      case round =>
        obtain ⟨i, hi, rfl, hlv⟩ := hrel
        have d3 := hlv.pb.c3
        by_cases hlt : i < n + mo
        · have b1 : (i : Int) < ((n + mo : Nat) : Int) := by omega
          have HLV : Hid (LV q w nm v0 v1 (.slice al n cl) ((List.range i).map (gd p)) u7 wr) := hlv
          have HI : Hid (i < n + mo ∧ i ≤ 1000) := ⟨hlt, by have := HB.out; omega⟩
          clear hlv hi
          go_upto_region 10 with fail
          refine wp_as (c' := rgLe10) (by kernel_rfl) ?_
          refine Le10 (k := i) HLV.out (by have := HI.out; simp; have := HB.out; omega) (HSE.out i HI.out.2) (HSO.out i HI.out.2) (HDE.out i HI.out.2) rfl rfl rfl rfl (fun _ _ d _ _ h => by cases d <;> exact h) ?_
          intro u v' Y hY
          have HY : Hid (LV q w nm v0 v1 (.slice al n cl) ((List.range (i + 1)).map (gd p)) v' Y) := by
            show LV q w nm v0 v1 (.slice al n cl) ((List.range (i + 1)).map (gd p)) v' Y
            rw [List.range_succ, List.map_append]
            exact hY
          clear hY
          go_wp2
          exact ⟨⟨i + 1, HI.out.1, congrArg (Value.int .i64) (Int.natCast_succ i).symm, HY.out⟩, measP HI.out.1⟩
        · have b1 : ¬ (i : Int) < ((n + mo : Nat) : Int) := by omega
          have hin : i = n + mo := by omega
          subst hin
          have HLV : Hid _ := hlv
          clear hlv
          go_wp2
          go_ret2
          rw [HE.out, HL.out]
          exact ⟨_, rfl, HLV.out.own, HLV.out.pb.old⟩
  · have HE : Hid (lvE p more = chk p) := by show lvE p more = chk p; simp [lvE, hz]
    have HL : Hid (lvL p more = []) := by show lvL p more = []; simp [lvL, HE.out, hz]
    generalize hc : chk p = c at *
    have hcb : (c == 0) = false := by simpa using hz
    clear hst hck hrd h0 h1 hl
    go_enter Tryd.func12, Tryd.ntmps12
    go_wp2_with (go_at_call 28; refine Calls.mono CK0 ?_; rintro e w1 ⟨rfl, hw⟩; have HW1 : Hid (PB q w nm v0 v1 (.slice al n cl) w1) := HP.out.below hw; clear hw)
    go_ret2
    rw [HE.out, HL.out]
    exact ⟨_, rfl, own_nil _ _, HW1.out.old⟩
end Go.Proofs.YtjhleocpipmklaaDoor
namespace Go.Proofs.YtjhleocpipmklaaDoor
set_option linter.unusedSimpArgs false
set_option linter.unusedVariables false
open Go.ChangeShapes Go.WideShapes Go.ChangeAt Go.RowKit Go.Pin Go.Pat Go.Deep
set_option maxRecDepth 100000 in
set_option maxHeartbeats 4000000 in
theorem code_any {ea : Int → Addr} {W : World} (h : Errs ea W) (c : Int) (hc : c = 0 ∨ c = 1 ∨ c = 9 ∨ c = 10 ∨ c = 11 ∨ c = 12) :
    Calls Tryd.prog 13 #[EV ea c] W fun e w' => e = .returned (.int .i64 c) ∧ w' = W := by
  have q := fun (c d : Int) (hc : c ∈ ecs) (hd : d ∈ ecs) => eq_err h hc hd
  have k1 := (h.1 1 (by decide)).1
  have k9 := (h.1 9 (by decide)).1
  have k10 := (h.1 10 (by decide)).1
  have k11 := (h.1 11 (by decide)).1
  have k12 := (h.1 12 (by decide)).1
  simp only [eblk] at k1 k9 k10 k11 k12
  rcases hc with rfl | rfl | rfl | rfl | rfl | rfl
  · simp only [EV, if_true]
    clear q
    go_enter Tryd.func13, Tryd.ntmps13
    go_wp2
    go_ret
    exact ⟨rfl, rfl⟩
  · simp only [EV, show ¬ ((1 : Int) = 0) by decide, if_false]
    have q1 := q 1 1 (by decide) (by decide)
    clear q
    go_enter Tryd.func13, Tryd.ntmps13
    go_wp2
    go_ret
    exact ⟨rfl, rfl⟩
  · simp only [EV, show ¬ ((9 : Int) = 0) by decide, if_false]
    have q1 := q 9 1 (by decide) (by decide)
    have q9 := q 9 9 (by decide) (by decide)
    clear q
    go_enter Tryd.func13, Tryd.ntmps13
    go_wp2
    go_ret
    exact ⟨rfl, rfl⟩
  · simp only [EV, show ¬ ((10 : Int) = 0) by decide, if_false]
    have q1 := q 10 1 (by decide) (by decide)
    have q9 := q 10 9 (by decide) (by decide)
    have q10 := q 10 10 (by decide) (by decide)
    clear q
    go_enter Tryd.func13, Tryd.ntmps13
    go_wp2
    go_ret
    exact ⟨rfl, rfl⟩
  · simp only [EV, show ¬ ((11 : Int) = 0) by decide, if_false]
    have q1 := q 11 1 (by decide) (by decide)
    have q9 := q 11 9 (by decide) (by decide)
    have q10 := q 11 10 (by decide) (by decide)
    have q11 := q 11 11 (by decide) (by decide)
    clear q
    go_enter Tryd.func13, Tryd.ntmps13
    go_wp2
    go_ret
    exact ⟨rfl, rfl⟩
  · simp only [EV, show ¬ ((12 : Int) = 0) by decide, if_false]
    have q1 := q 12 1 (by decide) (by decide)
    have q9 := q 12 9 (by decide) (by decide)
    have q10 := q 12 10 (by decide) (by decide)
    have q11 := q 12 11 (by decide) (by decide)
    have q12 := q 12 12 (by decide) (by decide)
    clear q
    go_enter Tryd.func13, Tryd.ntmps13
    go_wp2
    go_ret
    exact ⟨rfl, rfl⟩
def is3 (a b c t : Int) : Bool := t == a || t == b || t == c
def h3 (p : Pt) (k : Nat) (a b c : Int) : Bool := (p.ln.take (k + 1)).any fun l => l.2.any (is3 a b c)
theorem any_takeF (C : List Int) (f : Int → Bool) (i : Nat) (h : i < C.length) : (C.take (i + 1)).any f = ((C.take i).any f || f (C.getD i 0)) := by
  rw [List.take_add_one, List.any_append, List.getElem?_eq_getElem h]
  simp [List.getD, h]
theorem h3_one (p : Pt) (k : Nat) (a : Int) : h3 p k a a a = dn p k a := by
  unfold h3 dn
  congr 1
  funext l
  congr 1
  funext t
  simp [is3]
theorem any_or {α : Type} (L : List α) (f g : α → Bool) : (L.any fun x => f x || g x) = (L.any f || L.any g) := by
  induction L with
  | nil => rfl
  | cons x r ih => simp only [List.any_cons, ih]; cases f x <;> cases g x <;> simp
theorem h3_two (p : Pt) (k : Nat) (a b : Int) : h3 p k a b a = (dn p k a || dn p k b) := by
  unfold h3 dn
  rw [← any_or]
  congr 1
  funext l
  rw [← any_or]
  congr 1
  funext t
  simp only [is3]
  cases (t == a) <;> cases (t == b) <;> rfl
set_option maxRecDepth 100000 in
set_option maxHeartbeats 4000000 in
theorem has_any3 (v : Value) (p : Pt) (w : World) (h : RdP w v p) (k : Nat) (hk : k ≤ 1000) (ta tb tc : Int) :
    Calls Tryd.prog 19 #[v, .int .i64 (k : Int), .int .i64 ta, .int .i64 tb, .int .i64 tc] w fun e w' => e = .returned (.bool (h3 p k ta tb tc)) ∧ Below w.heap.size w w' := by
  obtain ⟨v0, v1, vl, rfl, h0, h1, hl⟩ := h
  obtain ⟨al, cl, rfl, _, hm, _⟩ := id hl
  have hst := pb_start w p.nm v0 v1 (.slice al p.ln.length cl)
  have hat := fun j (hj : j < p.ln.length) => hl.at hj
  obtain ⟨q, hq⟩ : ∃ q, w.heap.size = q := ⟨_, rfl⟩
  obtain ⟨n, hn⟩ : ∃ n, p.ln.length = n := ⟨_, rfl⟩
  obtain ⟨nm, hnm⟩ : ∃ nm, p.nm = nm := ⟨_, rfl⟩
  simp only [hn, hq, hnm] at hst hat hm ⊢
  obtain ⟨W, hW⟩ : ∃ W, w.alloc (.cells #[.string nm, v0, v1, .slice al n cl] 26) = W := ⟨_, rfl⟩
  rw [hW] at hst
  have HP : Hid (PB q w nm v0 v1 (.slice al n cl) W) := hst
  have c3 := hst.c3
  have HAT : Hid (∀ j, j < n → _) := hat
  have HN : Hid (p.ln.length = n) := hn
  have HM : Hid (n ≤ 140737488355328) := hm
  have HK : Hid (k ≤ 1000) := hk
  clear hst hat hm h0 h1 hl
  go_enter Tryd.func19, Tryd.ntmps19
  go_wp2
  go_loopw [11] (fun v7 wr => ∃ i : Nat, i ≤ n ∧ i ≤ k + 1 ∧ v7 = .int .i64 i ∧ (p.ln.take i).any (fun l => l.2.any (is3 ta tb tc)) = false ∧ wr = W) (fun v _ => n - (intOf v).toNat)
  case atStart => exact ⟨0, Nat.zero_le _, Nat.zero_le _, rfl, by simp, rfl⟩
  case round =>
    obtain ⟨i, hi, hik, rfl, hno, rfl⟩ := hrel
    by_cases hin : i ≤ k ∧ i < n
    · have b1 : (i : Int) ≤ (k : Int) := by omega
      have b2 : (i : Int) < (n : Int) := by omega
      obtain ⟨b, o, a2, n2, c2, rfl, hc, hrn, hn2⟩ := HAT.out i hin.2
      have x1 := (hc _ HP.out.old).2
      have hta := hrn.at
      rw [hq] at hta
      obtain ⟨ts, hts⟩ : ∃ ts, (p.ln.getD i (0, [])).2 = ts := ⟨_, rfl⟩
      rw [hts] at hta hn2
      have hnx := any_take p.ln (fun l => l.2.any (is3 ta tb tc)) i (by rw [HN.out]; exact hin.2)
      simp only [hno, hts, Bool.false_or] at hnx
      have HNX : Hid ((p.ln.take (i + 1)).any (fun l => l.2.any (is3 ta tb tc)) = ts.any (is3 ta tb tc)) := hnx
      have HTA : Hid _ := hta
      have HI : Hid (i ≤ k ∧ i < n) := hin
      clear hc hrn hta hnx hts hno hi hik hin
      go_wp2
      go_loopw [12] (fun v8 wy => ∃ j : Nat, j ≤ n2 ∧ v8 = .int .i64 j ∧ (ts.take j).any (is3 ta tb tc) = false ∧ wy = wr) (fun v _ => n2 - (intOf v).toNat)
      case atStart => exact ⟨0, Nat.zero_le _, rfl, by simp, rfl⟩
      case round =>
        obtain ⟨j, hj, rfl, hno, rfl⟩ := hrel
        by_cases hjl : j < n2
        · have b4 : (j : Int) < (n2 : Int) := by omega
          obtain ⟨b', o', rfl, hcj⟩ := HTA.out.2.2 j hjl
          have cj := hcj _ HP.out.old
          have hjs : j < ts.length := by have := HTA.out.1; omega
          have hnx := any_takeF ts (is3 ta tb tc) j hjs
          rw [hno, Bool.false_or] at hnx
          obtain ⟨u, hu⟩ : ∃ u, ts.getD j 0 = u := ⟨_, rfl⟩
          rw [hu] at cj hnx
          have HN2 : Hid ((ts.take (j + 1)).any (is3 ta tb tc) = is3 ta tb tc u) := hnx
          have HJ : Hid (j < n2 ∧ n2 ≤ 140737488355328) := ⟨hjl, HTA.out.2.1⟩
          clear hcj hnx hno hj
          rcases hut : is3 ta tb tc u with _ | _
          · have HUB : Hid (is3 ta tb tc u = false) := hut
            simp only [is3, Bool.or_eq_false_iff] at hut
            have n1 := hut.1.1
            have n2' := hut.1.2
            have n3 := hut.2
            clear hut
            go_wp2
            first
              | exact ⟨⟨j + 1, HJ.out.1, congrArg (Value.int .i64) (wrapS HJ.out.1 HJ.out.2), by rw [HN2.out, HUB.out], trivial⟩, measS HJ.out.1 HJ.out.2⟩
              | exact ⟨⟨_, ⟨j + 1, HJ.out.1, congrArg (Value.int .i64) (wrapS HJ.out.1 HJ.out.2), by rw [HN2.out, HUB.out], trivial⟩, rfl⟩, measS HJ.out.1 HJ.out.2⟩
          · have HR : Hid (h3 p k ta tb tc = true) := by
              show h3 p k ta tb tc = true
              have h1 : ts.any (is3 ta tb tc) = true := any_true (i := j + 1) (by rw [HN2.out, hut])
              have h2 := HNX.out
              rw [h1] at h2
              unfold h3
              have e : p.ln.take (i + 1) = (p.ln.take (k + 1)).take (i + 1) := by rw [List.take_take]; congr 1; have := HI.out.1; omega
              rw [e] at h2
              exact any_true h2
            by_cases ua : u = ta
            · subst ua
              clear hut
              go_wp2
              go_ret
              exact ⟨by rw [HR.out]; rfl, HP.out.old⟩
            · have ua' : (u == ta) = false := by simpa using ua
              by_cases ub : u = tb
              · subst ub
                clear hut
                go_wp2
                go_ret
                exact ⟨by rw [HR.out]; rfl, HP.out.old⟩
              · have ub' : (u == tb) = false := by simpa using ub
                have uc : u = tc := by simpa [is3, ua, ub] using hut
                subst uc
                clear hut
                go_wp2
                go_ret
                exact ⟨by rw [HR.out]; rfl, HP.out.old⟩
        · have b4 : ¬ (j : Int) < (n2 : Int) := by omega
          have HNN : Hid ((p.ln.take (i + 1)).any (fun l => l.2.any (is3 ta tb tc)) = false) := by
            show (p.ln.take (i + 1)).any (fun l => l.2.any (is3 ta tb tc)) = false
            rw [HNX.out, ← hno, List.take_of_length_le (by have := HTA.out.1; omega)]
          clear hno
          go_wp2
          exact ⟨⟨i + 1, HI.out.2, Nat.succ_le_succ HI.out.1, congrArg (Value.int .i64) (Int.natCast_succ i).symm, HNN.out, trivial⟩, measP HI.out.2⟩
    · have HR : Hid (h3 p k ta tb tc = false) := by
        show h3 p k ta tb tc = false
        unfold h3
        rw [← hno]
        by_cases h : i ≤ k
        · have : n ≤ i := by omega
          rw [List.take_of_length_le (by rw [HN.out]; omega), List.take_of_length_le (by rw [HN.out]; omega)]
        · rw [show i = k + 1 by omega]
      by_cases hle : i ≤ k
      · have b1 : (i : Int) ≤ (k : Int) := by omega
        have b2 : ¬ (i : Int) < (n : Int) := by omega
        clear hno hin
        go_wp2
        go_ret
        exact ⟨by rw [HR.out]; rfl, HP.out.old⟩
      · have b1 : ¬ (i : Int) ≤ (k : Int) := by omega
        have b1' : decide ((i : Int) ≤ (k : Int)) = false := decide_eq_false b1
        clear hno hin
        go_wp2
        go_ret
        exact ⟨by rw [HR.out]; rfl, HP.out.old⟩
/-- more than a statement plays -/
def lng (p : Pt) : Bool := decide (200 < p.b0.length) || decide (200 < p.b1.length) || decide (200 < p.ln.length) || p.ln.any fun l => decide (200 < l.2.length)
end Go.Proofs.YtjhleocpipmklaaDoor
