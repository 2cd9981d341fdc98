import Derived.Deep.Slices
import Derived.Deep.Strs
import Derived.SizedLaws
import Derived.Test.YtjhleocpipmklaaDoorMiag
import Derived.Test.YtjhleocpipmklaaDoorMiaf
namespace Go.Proofs.YtjhleocpipmklaaDoor
set_option linter.unusedSimpArgs false
set_option linter.unusedVariables false
open Go.ChangeShapes Go.WideShapes Go.ChangeAt Go.RowKit Go.Pin Go.Pat
abbrev Gd := Int × Int × Int
def gcs (l : List Gd) : List Value := l.flatMap fun g => [.int .i64 g.1, .int .i64 g.2.1, .int .i64 g.2.2]
theorem gcs_length (l : List Gd) : (gcs l).length = l.length * 3 := by
  induction l with
  | nil => rfl
  | cons g r ih => simp [gcs] at ih ⊢; omega
theorem gcs_snoc (l : List Gd) (g : Gd) : gcs (l ++ [g]) = gcs l ++ [.int .i64 g.1, .int .i64 g.2.1, .int .i64 g.2.2] := by simp [gcs]
theorem parts_g : (Tryd.prog.info? 48).map (fun i => (i.zero, i.size, i.bytes)) = some (some (.agg #[.int .i64 0, .int .i64 0, .int .i64 0]), 3, 24) := by kernel_rfl
/-- Levels' boxes: the pattern's, a list of grades that grows -/
structure LV (q : Nat) (w : World) (nm : ByteArray) (v0 v1 vl : Value) (gs : List Gd) (v : Value) (wr : World) : Prop where
  pb : PB q w nm v0 v1 vl wr
  own : wr.ownsRow (q + 1) 48 3 v gs.length (gcs gs)
section
variable {q : Nat} {w wr w' : World} {nm : ByteArray} {v0 v1 vl v : Value} {gs : List Gd}
theorem LV.below (h : LV q w nm v0 v1 vl gs v wr) (hb : Below wr.heap.size wr w') : LV q w nm v0 v1 vl gs v w' := ⟨h.pb.below hb, owns_below hb h.own⟩
theorem LV.app (h : LV q w nm v0 v1 vl gs v wr) (hn : gs.length + 1 ≤ 1000) (a : Nat) (g : Gd) (hc : wr.heap[a]? = some (.cells #[.int .i64 g.1, .int .i64 g.2.1, .int .i64 g.2.2] 48)) :
    ∀ ty, ∃ v' w', (Builtin.append_ #[30, 30] ty #[v, .slice (some ⟨a, 0, none⟩) 1 1]).run Tryd.prog wr = .ok v' w' ∧ LV q w nm v0 v1 vl (gs ++ [g]) v' w' := fun ty => by
  obtain ⟨i, i1, hz⟩ := Option.map_eq_some_iff.1 parts_g
  simp only [Prod.mk.injEq] at hz
  obtain ⟨i2, i3, i4⟩ := hz
  obtain ⟨v', w', hr, h2, h3, _, _⟩ := run_append_own_at (P := Tryd.prog) wr (q + 1) 30 ty 48 i (.agg #[.int .i64 0, .int .i64 0, .int .i64 0]) 3 24 Tryd.underlying30 i1 i2 i3 i4 rfl (by decide) v gs.length (gcs gs) h.own ⟨a, 0, none⟩ 1 1 [.int .i64 g.1, .int .i64 g.2.1, .int .i64 g.2.2] rfl (fun j u hu => by
    rw [add_mid, Nat.zero_add, cell_of_row _ _ _ _ _ _ hc, ← hu]; simp) (fun u hu => by simp at hu; rcases hu with rfl | rfl | rfl <;> rfl) (by unfold maxLen; omega) (by omega) h.pb.lt
  refine ⟨v', w', hr, ⟨?_, Nat.lt_of_lt_of_le h.pb.lt h3.size, ?_⟩, ?_⟩
  · refine ⟨h3.os.trans h.pb.old.os, h3.tape.trans h.pb.old.tape, h3.output.trans h.pb.old.output, Nat.le_trans h.pb.old.size h3.size, fun k hk => ?_⟩
    rw [h3.block k (Nat.lt_trans hk h.pb.lt) (fun e => by have := (h.own.lt k e.symm).1; omega)]
    exact h.pb.old.block k hk
  · rw [h3.block q h.pb.lt (fun e => by have := (h.own.lt q e.symm).1; omega)]
    exact h.pb.row
  · rw [gcs_snoc, List.length_append]
    exact h2
end
section
variable {a : Act} {o : Oper} {x y z : Operand}
theorem run_mkG {s : Nat} {c0 c1 c2 : Value} (ho : o.op = .buildSlice 30 1 #[(0, .tmp s)]) (he : a.eval (.tmp s) = .agg #[c0, c1, c2]) (w : World) : (execOp a.eval o).run Tryd.prog w = .ok (.value (.slice (some ⟨w.heap.size, 0, none⟩) 1 1)) (w.alloc (.cells #[c0, c1, c2] 48)) := by
  unfold execOp
  have he' : a.tmps[s]?.getD undef = .agg #[c0, c1, c2] := by rw [← he]; simp [Act.eval]
  simp only [ho]
  go_simp
theorem run_bG {s t u : Nat} {x y z : Int} (ho : o.op = .build 48 #[(0, .tmp s), (1, .tmp t), (2, .tmp u)]) (h1 : a.eval (.tmp s) = .int .i64 x) (h2 : a.eval (.tmp t) = .int .i64 y) (h3 : a.eval (.tmp u) = .int .i64 z) (w : World) : (execOp a.eval o).run Tryd.prog w = .ok (.value (.agg #[.int .i64 x, .int .i64 y, .int .i64 z])) w := by
  unfold execOp
  have e1 : a.tmps[s]?.getD undef = .int .i64 x := by rw [← h1]; simp [Act.eval]
  have e2 : a.tmps[t]?.getD undef = .int .i64 y := by rw [← h2]; simp [Act.eval]
  have e3 : a.tmps[u]?.getD undef = .int .i64 z := by rw [← h3]; simp [Act.eval]
  simp only [ho]
  go_simp
end
noncomputable def rgLe10 : Code := ((Tryd.f12.body.bind (findReg 10)).getD .skip)
noncomputable def opLe10 : Array Oper := opsOf rgLe10
theorem rgLe10_is : rgLe10 = .region 10 opLe10 true := by kernel_rfl
theorem opLe10_ns : Region.noSelect opLe10 = true := by kernel_rfl
theorem opLe10_0 : opIs opLe10 0 (.move (.tmp 7)) (some 29) := by unfold opIs; kernel_rfl
theorem opLe10_1 : opIs opLe10 1 (.load 26 (.tmp 2)) (some 30) := by unfold opIs; kernel_rfl
theorem opLe10_2 : opIs opLe10 2 (.move (.tmp 8)) (some 31) := by unfold opIs; kernel_rfl
theorem opLe10_3 : opIs opLe10 3 (.call { callee := .value (.func 29), args := #[.tmp 30, .tmp 31], argTypes := #[26, 3] }) (some 32) := by unfold opIs; kernel_rfl
theorem opLe10_4 : opIs opLe10 4 (.load 26 (.tmp 2)) (some 33) := by unfold opIs; kernel_rfl
theorem opLe10_5 : opIs opLe10 5 (.move (.tmp 8)) (some 34) := by unfold opIs; kernel_rfl
theorem opLe10_6 : opIs opLe10 6 (.call { callee := .value (.func 30), args := #[.tmp 33, .tmp 34], argTypes := #[26, 3] }) (some 35) := by unfold opIs; kernel_rfl
theorem opLe10_7 : opIs opLe10 7 (.load 26 (.tmp 2)) (some 36) := by unfold opIs; kernel_rfl
theorem opLe10_8 : opIs opLe10 8 (.move (.tmp 8)) (some 37) := by unfold opIs; kernel_rfl
theorem opLe10_9 : opIs opLe10 9 (.call { callee := .value (.func 31), args := #[.tmp 36, .tmp 37], argTypes := #[26, 3] }) (some 38) := by unfold opIs; kernel_rfl
theorem opLe10_10 : opIs opLe10 10 (.build 48 #[(0, .tmp 32), (1, .tmp 35), (2, .tmp 38)]) (some 39) := by unfold opIs; kernel_rfl
theorem opLe10_11 : opIs opLe10 11 (.buildSlice 30 1 #[(0, .tmp 39)]) (some 40) := by unfold opIs; kernel_rfl
theorem opLe10_12 : opIs opLe10 12 (.call { callee := .builtin .append, args := #[.tmp 29, .tmp 40], argTypes := #[30, 30] }) (some 41) := by unfold opIs; kernel_rfl
theorem opLe10_13 : opIs opLe10 13 (.assign (.tmp 41)) (some 7) := by unfold opIs; kernel_rfl
set_option maxRecDepth 100000 in
set_option maxHeartbeats 4000000 in
theorem Le10 {Q : Exit → Act → World → Prop} {q : Nat} {w W0 : World} {nm : ByteArray} {v0 v1 vl v7 : Value} {k : Nat} {gs : List Gd} {sd sr ds : Int} {a0 : Act} (h0 : LV q w nm v0 v1 vl gs v7 W0) (hn : gs.length + 1 ≤ 1000)
    (HSE : ∀ W, Below q w W → Calls Tryd.prog 29 #[.agg #[.string nm, v0, v1, vl], .int .i64 (k : Int)] W fun e w' => e = .returned (.int .i64 sd) ∧ Below W.heap.size W w')
    (HSO : ∀ W, Below q w W → Calls Tryd.prog 30 #[.agg #[.string nm, v0, v1, vl], .int .i64 (k : Int)] W fun e w' => e = .returned (.int .i64 sr) ∧ Below W.heap.size W w')
    (HDE : ∀ W, Below q w W → Calls Tryd.prog 31 #[.agg #[.string nm, v0, v1, vl], .int .i64 (k : Int)] W fun e w' => e = .returned (.int .i64 ds) ∧ Below W.heap.size W w')
    (sz0 : a0.tmps.size = 43) (e0_2 : a0.eval (.tmp 2) = .pointer (some ⟨q, 0, none⟩)) (e0_7 : a0.eval (.tmp 7) = v7) (e0_8 : a0.eval (.tmp 8) = .int .i64 (k : Int))
    (HPN : ∀ c (a : Act) d v w, Q (.panic c) (a.put d v) w → Q (.panic c) a w)
    (H : ∀ u v' Y, LV q w nm v0 v1 vl (gs ++ [(sd, sr, ds)]) v' Y → Q .normal ((((((((((((((a0.put (some 29) v7).put (some 30) (.agg #[.string nm, v0, v1, vl])).put (some 31) (.int .i64 (k : Int))).put (some 33) (.agg #[.string nm, v0, v1, vl])).put (some 34) (.int .i64 (k : Int))).put (some 36) (.agg #[.string nm, v0, v1, vl])).put (some 37) (.int .i64 (k : Int))).put (some 32) (.int .i64 sd)).put (some 35) (.int .i64 sr)).put (some 38) (.int .i64 ds)).put (some 39) (.agg #[.int .i64 sd, .int .i64 sr, .int .i64 ds])).put (some 40) u).put (some 41) v').put (some 7) v') Y) : Code.wp Tryd.prog rgLe10 Q a0 W0 := by
  have st0 : LV q w nm v0 v1 vl gs v7 W0.drew := h0.below (drew_below (Below.refl _ _))
  rw [rgLe10_is]
  refine wp_region_held_drew (S := (fun Y : World => PB q w nm v0 v1 vl Y)) (by kernel_rfl) st0.pb (fun hH => ?_)
  refine wpAnyH_as (l' := #[false, false, false, false, false, false, false, false, false, false, false, false, false, false]) (by kernel_rfl) ?_
  refine takeH (v := v7) opLe10_0 opLe10_ns (by kernel_rfl) (by kernel_rfl) HPN (fun w hw o ho => run_move ho e0_7 w) st0.pb ?_
  refine wpAnyH_as (l' := #[true, false, false, false, false, false, false, false, false, false, false, false, false, false]) (by kernel_rfl) ?_
  obtain ⟨a1, ha1⟩ : ∃ a' : Act, a' = a0.put (some 29) v7 := ⟨_, rfl⟩
  rw [← ha1]
  have sz1 : a1.tmps.size = 43 := by rw [ha1, size_put]; exact sz0
  have e1_2 : a1.eval (.tmp 2) = .pointer (some ⟨q, 0, none⟩) := by rw [ha1, eval_put_ne _ _ _ _ (by decide)]; exact e0_2
  have e1_8 : a1.eval (.tmp 8) = .int .i64 (k : Int) := by rw [ha1, eval_put_ne _ _ _ _ (by decide)]; exact e0_8
  have e1_29 : a1.eval (.tmp 29) = v7 := by rw [ha1]; exact eval_put_eq _ _ _ (by rw [sz0]; decide)
  refine takeH (v := (.agg #[.string nm, v0, v1, vl])) opLe10_1 opLe10_ns (by kernel_rfl) (by kernel_rfl) HPN (fun w hw o ho => run_ldP ho e1_2 w hw.row) st0.pb ?_
  refine wpAnyH_as (l' := #[true, true, false, false, false, false, false, false, false, false, false, false, false, false]) (by kernel_rfl) ?_
  obtain ⟨a2, ha2⟩ : ∃ a' : Act, a' = a1.put (some 30) (.agg #[.string nm, v0, v1, vl]) := ⟨_, rfl⟩
  rw [← ha2]
  have sz2 : a2.tmps.size = 43 := by rw [ha2, size_put]; exact sz1
  have e2_2 : a2.eval (.tmp 2) = .pointer (some ⟨q, 0, none⟩) := by rw [ha2, eval_put_ne _ _ _ _ (by decide)]; exact e1_2
  have e2_8 : a2.eval (.tmp 8) = .int .i64 (k : Int) := by rw [ha2, eval_put_ne _ _ _ _ (by decide)]; exact e1_8
  have e2_29 : a2.eval (.tmp 29) = v7 := by rw [ha2, eval_put_ne _ _ _ _ (by decide)]; exact e1_29
  have e2_30 : a2.eval (.tmp 30) = (.agg #[.string nm, v0, v1, vl]) := by rw [ha2]; exact eval_put_eq _ _ _ (by rw [sz1]; decide)
  refine takeH (v := (.int .i64 (k : Int))) opLe10_2 opLe10_ns (by kernel_rfl) (by kernel_rfl) HPN (fun w hw o ho => run_move ho e2_8 w) st0.pb ?_
  refine wpAnyH_as (l' := #[true, true, true, false, false, false, false, false, false, false, false, false, false, false]) (by kernel_rfl) ?_
  obtain ⟨a3, ha3⟩ : ∃ a' : Act, a' = a2.put (some 31) (.int .i64 (k : Int)) := ⟨_, rfl⟩
  rw [← ha3]
  have sz3 : a3.tmps.size = 43 := by rw [ha3, size_put]; exact sz2
  have e3_2 : a3.eval (.tmp 2) = .pointer (some ⟨q, 0, none⟩) := by rw [ha3, eval_put_ne _ _ _ _ (by decide)]; exact e2_2
  have e3_8 : a3.eval (.tmp 8) = .int .i64 (k : Int) := by rw [ha3, eval_put_ne _ _ _ _ (by decide)]; exact e2_8
  have e3_29 : a3.eval (.tmp 29) = v7 := by rw [ha3, eval_put_ne _ _ _ _ (by decide)]; exact e2_29
  have e3_30 : a3.eval (.tmp 30) = (.agg #[.string nm, v0, v1, vl]) := by rw [ha3, eval_put_ne _ _ _ _ (by decide)]; exact e2_30
  have e3_31 : a3.eval (.tmp 31) = (.int .i64 (k : Int)) := by rw [ha3]; exact eval_put_eq _ _ _ (by rw [sz2]; decide)
  refine takeH (v := (.agg #[.string nm, v0, v1, vl])) opLe10_4 opLe10_ns (by kernel_rfl) (by kernel_rfl) HPN (fun w hw o ho => run_ldP ho e3_2 w hw.row) st0.pb ?_
  refine wpAnyH_as (l' := #[true, true, true, false, true, false, false, false, false, false, false, false, false, false]) (by kernel_rfl) ?_
  obtain ⟨a4, ha4⟩ : ∃ a' : Act, a' = a3.put (some 33) (.agg #[.string nm, v0, v1, vl]) := ⟨_, rfl⟩
  rw [← ha4]
  have sz4 : a4.tmps.size = 43 := by rw [ha4, size_put]; exact sz3
  have e4_2 : a4.eval (.tmp 2) = .pointer (some ⟨q, 0, none⟩) := by rw [ha4, eval_put_ne _ _ _ _ (by decide)]; exact e3_2
  have e4_8 : a4.eval (.tmp 8) = .int .i64 (k : Int) := by rw [ha4, eval_put_ne _ _ _ _ (by decide)]; exact e3_8
  have e4_29 : a4.eval (.tmp 29) = v7 := by rw [ha4, eval_put_ne _ _ _ _ (by decide)]; exact e3_29
  have e4_30 : a4.eval (.tmp 30) = (.agg #[.string nm, v0, v1, vl]) := by rw [ha4, eval_put_ne _ _ _ _ (by decide)]; exact e3_30
  have e4_31 : a4.eval (.tmp 31) = (.int .i64 (k : Int)) := by rw [ha4, eval_put_ne _ _ _ _ (by decide)]; exact e3_31
  have e4_33 : a4.eval (.tmp 33) = (.agg #[.string nm, v0, v1, vl]) := by rw [ha4]; exact eval_put_eq _ _ _ (by rw [sz3]; decide)
  refine takeH (v := (.int .i64 (k : Int))) opLe10_5 opLe10_ns (by kernel_rfl) (by kernel_rfl) HPN (fun w hw o ho => run_move ho e4_8 w) st0.pb ?_
  refine wpAnyH_as (l' := #[true, true, true, false, true, true, false, false, false, false, false, false, false, false]) (by kernel_rfl) ?_
  obtain ⟨a5, ha5⟩ : ∃ a' : Act, a' = a4.put (some 34) (.int .i64 (k : Int)) := ⟨_, rfl⟩
  rw [← ha5]
  have sz5 : a5.tmps.size = 43 := by rw [ha5, size_put]; exact sz4
  have e5_2 : a5.eval (.tmp 2) = .pointer (some ⟨q, 0, none⟩) := by rw [ha5, eval_put_ne _ _ _ _ (by decide)]; exact e4_2
  have e5_8 : a5.eval (.tmp 8) = .int .i64 (k : Int) := by rw [ha5, eval_put_ne _ _ _ _ (by decide)]; exact e4_8
  have e5_29 : a5.eval (.tmp 29) = v7 := by rw [ha5, eval_put_ne _ _ _ _ (by decide)]; exact e4_29
  have e5_30 : a5.eval (.tmp 30) = (.agg #[.string nm, v0, v1, vl]) := by rw [ha5, eval_put_ne _ _ _ _ (by decide)]; exact e4_30
  have e5_31 : a5.eval (.tmp 31) = (.int .i64 (k : Int)) := by rw [ha5, eval_put_ne _ _ _ _ (by decide)]; exact e4_31
  have e5_33 : a5.eval (.tmp 33) = (.agg #[.string nm, v0, v1, vl]) := by rw [ha5, eval_put_ne _ _ _ _ (by decide)]; exact e4_33
  have e5_34 : a5.eval (.tmp 34) = (.int .i64 (k : Int)) := by rw [ha5]; exact eval_put_eq _ _ _ (by rw [sz4]; decide)
  refine takeH (v := (.agg #[.string nm, v0, v1, vl])) opLe10_7 opLe10_ns (by kernel_rfl) (by kernel_rfl) HPN (fun w hw o ho => run_ldP ho e5_2 w hw.row) st0.pb ?_
  refine wpAnyH_as (l' := #[true, true, true, false, true, true, false, true, false, false, false, false, false, false]) (by kernel_rfl) ?_
  obtain ⟨a6, ha6⟩ : ∃ a' : Act, a' = a5.put (some 36) (.agg #[.string nm, v0, v1, vl]) := ⟨_, rfl⟩
  rw [← ha6]
  have sz6 : a6.tmps.size = 43 := by rw [ha6, size_put]; exact sz5
  have e6_8 : a6.eval (.tmp 8) = .int .i64 (k : Int) := by rw [ha6, eval_put_ne _ _ _ _ (by decide)]; exact e5_8
  have e6_29 : a6.eval (.tmp 29) = v7 := by rw [ha6, eval_put_ne _ _ _ _ (by decide)]; exact e5_29
  have e6_30 : a6.eval (.tmp 30) = (.agg #[.string nm, v0, v1, vl]) := by rw [ha6, eval_put_ne _ _ _ _ (by decide)]; exact e5_30
  have e6_31 : a6.eval (.tmp 31) = (.int .i64 (k : Int)) := by rw [ha6, eval_put_ne _ _ _ _ (by decide)]; exact e5_31
  have e6_33 : a6.eval (.tmp 33) = (.agg #[.string nm, v0, v1, vl]) := by rw [ha6, eval_put_ne _ _ _ _ (by decide)]; exact e5_33
  have e6_34 : a6.eval (.tmp 34) = (.int .i64 (k : Int)) := by rw [ha6, eval_put_ne _ _ _ _ (by decide)]; exact e5_34
  have e6_36 : a6.eval (.tmp 36) = (.agg #[.string nm, v0, v1, vl]) := by rw [ha6]; exact eval_put_eq _ _ _ (by rw [sz5]; decide)
  refine takeH (v := (.int .i64 (k : Int))) opLe10_8 opLe10_ns (by kernel_rfl) (by kernel_rfl) HPN (fun w hw o ho => run_move ho e6_8 w) st0.pb ?_
  refine wpAnyH_as (l' := #[true, true, true, false, true, true, false, true, true, false, false, false, false, false]) (by kernel_rfl) ?_
  obtain ⟨a7, ha7⟩ : ∃ a' : Act, a' = a6.put (some 37) (.int .i64 (k : Int)) := ⟨_, rfl⟩
  rw [← ha7]
  have sz7 : a7.tmps.size = 43 := by rw [ha7, size_put]; exact sz6
  have e7_29 : a7.eval (.tmp 29) = v7 := by rw [ha7, eval_put_ne _ _ _ _ (by decide)]; exact e6_29
  have e7_30 : a7.eval (.tmp 30) = (.agg #[.string nm, v0, v1, vl]) := by rw [ha7, eval_put_ne _ _ _ _ (by decide)]; exact e6_30
  have e7_31 : a7.eval (.tmp 31) = (.int .i64 (k : Int)) := by rw [ha7, eval_put_ne _ _ _ _ (by decide)]; exact e6_31
  have e7_33 : a7.eval (.tmp 33) = (.agg #[.string nm, v0, v1, vl]) := by rw [ha7, eval_put_ne _ _ _ _ (by decide)]; exact e6_33
  have e7_34 : a7.eval (.tmp 34) = (.int .i64 (k : Int)) := by rw [ha7, eval_put_ne _ _ _ _ (by decide)]; exact e6_34
  have e7_36 : a7.eval (.tmp 36) = (.agg #[.string nm, v0, v1, vl]) := by rw [ha7, eval_put_ne _ _ _ _ (by decide)]; exact e6_36
  have e7_37 : a7.eval (.tmp 37) = (.int .i64 (k : Int)) := by rw [ha7]; exact eval_put_eq _ _ _ (by rw [sz6]; decide)
  refine readyH opLe10_3 (by kernel_rfl) (fun o ho hd => wpCall (v := (.int .i64 sd)) ho hd (args := #[.agg #[.string nm, v0, v1, vl], .int .i64 (k : Int)]) (by simp only [List.map_toArray, List.map_cons, List.map_nil, e7_30, e7_31]) (fun _ => rfl) (HSE _ st0.pb.old) (fun w7 hw7 => ⟨(st0.below hw7).pb, ?_⟩))
  have st8 := st0.below hw7
  refine wpAnyH_as (l' := #[true, true, true, true, true, true, false, true, true, false, false, false, false, false]) (by kernel_rfl) ?_
  obtain ⟨a8, ha8⟩ : ∃ a' : Act, a' = a7.put (some 32) (.int .i64 sd) := ⟨_, rfl⟩
  rw [← ha8]
  have sz8 : a8.tmps.size = 43 := by rw [ha8, size_put]; exact sz7
  have e8_29 : a8.eval (.tmp 29) = v7 := by rw [ha8, eval_put_ne _ _ _ _ (by decide)]; exact e7_29
  have e8_33 : a8.eval (.tmp 33) = (.agg #[.string nm, v0, v1, vl]) := by rw [ha8, eval_put_ne _ _ _ _ (by decide)]; exact e7_33
  have e8_34 : a8.eval (.tmp 34) = (.int .i64 (k : Int)) := by rw [ha8, eval_put_ne _ _ _ _ (by decide)]; exact e7_34
  have e8_36 : a8.eval (.tmp 36) = (.agg #[.string nm, v0, v1, vl]) := by rw [ha8, eval_put_ne _ _ _ _ (by decide)]; exact e7_36
  have e8_37 : a8.eval (.tmp 37) = (.int .i64 (k : Int)) := by rw [ha8, eval_put_ne _ _ _ _ (by decide)]; exact e7_37
  have e8_32 : a8.eval (.tmp 32) = (.int .i64 sd) := by rw [ha8]; exact eval_put_eq _ _ _ (by rw [sz7]; decide)
  refine readyH opLe10_6 (by kernel_rfl) (fun o ho hd => wpCall (v := (.int .i64 sr)) ho hd (args := #[.agg #[.string nm, v0, v1, vl], .int .i64 (k : Int)]) (by simp only [List.map_toArray, List.map_cons, List.map_nil, e8_33, e8_34]) (fun _ => rfl) (HSO _ st8.pb.old) (fun w8 hw8 => ⟨(st8.below hw8).pb, ?_⟩))
  have st9 := st8.below hw8
  refine wpAnyH_as (l' := #[true, true, true, true, true, true, true, true, true, false, false, false, false, false]) (by kernel_rfl) ?_
  obtain ⟨a9, ha9⟩ : ∃ a' : Act, a' = a8.put (some 35) (.int .i64 sr) := ⟨_, rfl⟩
  rw [← ha9]
  have sz9 : a9.tmps.size = 43 := by rw [ha9, size_put]; exact sz8
  have e9_29 : a9.eval (.tmp 29) = v7 := by rw [ha9, eval_put_ne _ _ _ _ (by decide)]; exact e8_29
  have e9_36 : a9.eval (.tmp 36) = (.agg #[.string nm, v0, v1, vl]) := by rw [ha9, eval_put_ne _ _ _ _ (by decide)]; exact e8_36
  have e9_37 : a9.eval (.tmp 37) = (.int .i64 (k : Int)) := by rw [ha9, eval_put_ne _ _ _ _ (by decide)]; exact e8_37
  have e9_32 : a9.eval (.tmp 32) = (.int .i64 sd) := by rw [ha9, eval_put_ne _ _ _ _ (by decide)]; exact e8_32
  have e9_35 : a9.eval (.tmp 35) = (.int .i64 sr) := by rw [ha9]; exact eval_put_eq _ _ _ (by rw [sz8]; decide)
  refine readyH opLe10_9 (by kernel_rfl) (fun o ho hd => wpCall (v := (.int .i64 ds)) ho hd (args := #[.agg #[.string nm, v0, v1, vl], .int .i64 (k : Int)]) (by simp only [List.map_toArray, List.map_cons, List.map_nil, e9_36, e9_37]) (fun _ => rfl) (HDE _ st9.pb.old) (fun w9 hw9 => ⟨(st9.below hw9).pb, ?_⟩))
  have st10 := st9.below hw9
  refine wpAnyH_as (l' := #[true, true, true, true, true, true, true, true, true, true, false, false, false, false]) (by kernel_rfl) ?_
  obtain ⟨a10, ha10⟩ : ∃ a' : Act, a' = a9.put (some 38) (.int .i64 ds) := ⟨_, rfl⟩
  rw [← ha10]
  have sz10 : a10.tmps.size = 43 := by rw [ha10, size_put]; exact sz9
  have e10_29 : a10.eval (.tmp 29) = v7 := by rw [ha10, eval_put_ne _ _ _ _ (by decide)]; exact e9_29
  have e10_32 : a10.eval (.tmp 32) = (.int .i64 sd) := by rw [ha10, eval_put_ne _ _ _ _ (by decide)]; exact e9_32
  have e10_35 : a10.eval (.tmp 35) = (.int .i64 sr) := by rw [ha10, eval_put_ne _ _ _ _ (by decide)]; exact e9_35
  have e10_38 : a10.eval (.tmp 38) = (.int .i64 ds) := by rw [ha10]; exact eval_put_eq _ _ _ (by rw [sz9]; decide)
  refine takeH (v := (.agg #[.int .i64 sd, .int .i64 sr, .int .i64 ds])) opLe10_10 opLe10_ns (by kernel_rfl) (by kernel_rfl) HPN (fun w hw o ho => run_bG ho e10_32 e10_35 e10_38 w) st10.pb ?_
  refine wpAnyH_as (l' := #[true, true, true, true, true, true, true, true, true, true, true, false, false, false]) (by kernel_rfl) ?_
  obtain ⟨a11, ha11⟩ : ∃ a' : Act, a' = a10.put (some 39) (.agg #[.int .i64 sd, .int .i64 sr, .int .i64 ds]) := ⟨_, rfl⟩
  rw [← ha11]
  have sz11 : a11.tmps.size = 43 := by rw [ha11, size_put]; exact sz10
  have e11_29 : a11.eval (.tmp 29) = v7 := by rw [ha11, eval_put_ne _ _ _ _ (by decide)]; exact e10_29
  have e11_39 : a11.eval (.tmp 39) = (.agg #[.int .i64 sd, .int .i64 sr, .int .i64 ds]) := by rw [ha11]; exact eval_put_eq _ _ _ (by rw [sz10]; decide)
  obtain ⟨V, hV⟩ : ∃ V, V = w9 := ⟨_, rfl⟩
  have stA := st10.below ((Below.refl w9.heap.size w9).alloc (Nat.le_refl _) (.cells #[.int .i64 sd, .int .i64 sr, .int .i64 ds] 48))
  have hrow : (w9.alloc (.cells #[.int .i64 sd, .int .i64 sr, .int .i64 ds] 48)).heap[w9.heap.size]? = some (.cells #[.int .i64 sd, .int .i64 sr, .int .i64 ds] 48) := heap_alloc_new _ _
  refine readyH opLe10_11 (by kernel_rfl) (fun o ho hd => wpRun (v := .slice (some ⟨w9.heap.size, 0, none⟩) 1 1) (w' := w9.alloc (.cells #[.int .i64 sd, .int .i64 sr, .int .i64 ds] 48)) hd (run_mkG ho e11_39 w9) ⟨stA.pb, ?_⟩)
  refine wpAnyH_as (l' := #[true, true, true, true, true, true, true, true, true, true, true, true, false, false]) (by kernel_rfl) ?_
  have q29 : (a11.put (some 40) (.slice (some ⟨w9.heap.size, 0, none⟩) 1 1)).eval (.tmp 29) = v7 := by rw [eval_put_ne _ _ _ _ (by decide)]; exact e11_29
  have q40 : (a11.put (some 40) (.slice (some ⟨w9.heap.size, 0, none⟩) 1 1)).eval (.tmp 40) = .slice (some ⟨w9.heap.size, 0, none⟩) 1 1 := eval_put_eq _ _ _ (by rw [sz11]; decide)
  refine readyH opLe10_12 (by kernel_rfl) (fun o ho hd => wpApp ho hd q29 q40 (stA.app hn w9.heap.size (sd, sr, ds) hrow) (fun v' w' hr => ⟨hr.pb, ?_⟩))
  refine wpAnyH_as (l' := #[true, true, true, true, true, true, true, true, true, true, true, true, true, false]) (by kernel_rfl) ?_
  have q41 : ((a11.put (some 40) (.slice (some ⟨w9.heap.size, 0, none⟩) 1 1)).put (some 41) v').eval (.tmp 41) = v' := eval_put_eq _ _ _ (by rw [size_put, sz11]; decide)
  refine readyH opLe10_13 (by kernel_rfl) (fun o ho hd => wpRun (v := v') (w' := _) hd (run_assign ho q41 _) ⟨hr.pb, ?_⟩)
  refine wpAnyH_as (l' := #[true, true, true, true, true, true, true, true, true, true, true, true, true, true]) (by kernel_rfl) ?_
  refine wpAnyH_done (by kernel_rfl) ?_ _
  rw [ha11, ha10, ha9, ha8, ha7, ha6, ha5, ha4, ha3, ha2, ha1]
  exact H _ v' w' hr
end Go.Proofs.YtjhleocpipmklaaDoor
namespace Go.Proofs.YtjhleocpipmklaaDoor
set_option linter.unusedSimpArgs false
set_option linter.unusedVariables false
open Go.ChangeShapes Go.WideShapes Go.ChangeAt Go.RowKit Go.Pin Go.Pat
theorem shp_len : ∀ (L : List Ln) (o : Option Int) (m : Nat), shp o m L = true → L ≠ [] → m + L.length ≤ 24
  | [], _, _, _, h => absurd rfl h
  | (f, ts) :: r, o, m, h, _ => by
    rw [shp_split] at h
    simp only [Bool.and_eq_true, decide_eq_true_eq, Bool.not_eq_true', List.isEmpty_eq_false_iff] at h
    have h1 : 0 < ts.length := List.length_pos_iff.2 h.1.1.1.2
    have h2 := h.1.1.2
    by_cases hr : r = []
    · subst hr; simp; omega
    · have := shp_len r _ _ h.2 hr
      simp; omega
theorem chk_valid {p : Pt} (h : chk p = 0) : (∀ l ∈ p.ln, l.1 = 0 ∨ l.1 = 1) ∧ p.ln.length ≤ 24 := by
  have hs : shaped p = true := by
    rcases e : shaped p with _ | _
    · simp [chk, e] at h
    · rfl
  unfold shaped at hs
  simp only [Bool.and_eq_true, Bool.not_eq_true', List.isEmpty_eq_false_iff] at hs
  refine ⟨fun l hl => (shp_lines _ _ _ hs.2 l hl).1, ?_⟩
  have := shp_len _ _ _ hs.2 hs.1.2
  omega
def gd (p : Pt) (k : Nat) : Gd := (sender p k, src p k, dst p k)
def lvE (p : Pt) (more : Int) : Int := if chk p ≠ 0 then chk p else if more < 0 ∨ 64 < more then 1 else 0
def lvL (p : Pt) (more : Int) : List Gd := if lvE p more = 0 then (List.range (p.ln.length + more.toNat)).map (gd p) else []
theorem own_nil (w : World) (b : Nat) : w.ownsRow b 48 3 (.slice none 0 0) 0 (gcs []) := ⟨rfl, .inl ⟨rfl, rfl⟩⟩
set_option maxRecDepth 100000 in
set_option maxHeartbeats 4000000 in
theorem levels_any (v : Value) (p : Pt) (w : World) (h : RdP w v p) (more : Int) (hm1 : -9223372036854775808 ≤ more) (hm2 : more < 9223372036854775808) :
    Calls Tryd.prog 12 #[v, .int .i64 more] w fun e w' => ∃ u, e = .returned (.tuple #[u, .int .i64 (lvE p more)]) ∧ w'.ownsRow (w.heap.size + 1) 48 3 u (lvL p more).length (gcs (lvL p more)) ∧ Below w.heap.size w w' := by
  have hck := fun (W : World) (hW : Below w.heap.size w W) => check_any v p W (h.below hW)
  have hrd := h
  obtain ⟨v0, v1, vl, rfl, h0, h1, hl⟩ := h
  obtain ⟨al, cl, rfl, _, hm, _⟩ := id hl
  have hst := pb_start w p.nm v0 v1 (.slice al p.ln.length cl)
  obtain ⟨q, hq⟩ : ∃ q, w.heap.size = q := ⟨_, rfl⟩
  obtain ⟨n, hn⟩ : ∃ n, p.ln.length = n := ⟨_, rfl⟩
  obtain ⟨nm, hnm⟩ : ∃ nm, p.nm = nm := ⟨_, rfl⟩
  simp only [hn, hq, hnm] at hst hck hrd ⊢
  obtain ⟨W, hW⟩ : ∃ W, w.alloc (.cells #[.string nm, v0, v1, .slice al n cl] 26) = W := ⟨_, rfl⟩
  rw [hW] at hst
  have HP : Hid (PB q w nm v0 v1 (.slice al n cl) W) := hst
  have CK0 := hck W hst.old
  have HN : Hid (p.ln.length = n) := hn
  have c0 := hst.c0
  have c1 := hst.c1
  have c2 := hst.c2
  have c3 := hst.c3
  by_cases hz : chk p = 0
  · rw [hz] at CK0
    obtain ⟨hv, h24⟩ := chk_valid hz
    rw [hn] at h24
    by_cases hmo : more < 0 ∨ 64 < more
    · have HE : Hid (lvE p more = 1) := by show lvE p more = 1; simp [lvE, hz, hmo]
      have HL : Hid (lvL p more = []) := by show lvL p more = []; simp [lvL, HE.out]
      clear hst hck hrd h0 h1 hl
      by_cases hlt : more < 0
      · go_enter Tryd.func12, Tryd.ntmps12
        go_wp2_with (go_at_call 28; refine Calls.mono CK0 ?_; rintro e w1 ⟨rfl, hw⟩; have HW1 : Hid (PB q w nm v0 v1 (.slice al n cl) w1) := HP.out.below hw; clear hw)
        go_ret2
        rw [HE.out, HL.out]
        exact ⟨_, rfl, own_nil _ _, HW1.out.old⟩
      · have hgt : 64 < more := by omega
        go_enter Tryd.func12, Tryd.ntmps12
        go_wp2_with (go_at_call 28; refine Calls.mono CK0 ?_; rintro e w1 ⟨rfl, hw⟩; have HW1 : Hid (PB q w nm v0 v1 (.slice al n cl) w1) := HP.out.below hw; clear hw)
        go_ret2
        rw [HE.out, HL.out]
        exact ⟨_, rfl, own_nil _ _, HW1.out.old⟩
    · obtain ⟨mo, rfl⟩ : ∃ mo : Nat, more = (mo : Int) := ⟨more.toNat, by omega⟩
      have hmo64 : mo ≤ 64 := by omega
      have HE : Hid (lvE p (mo : Int) = 0) := by show lvE p (mo : Int) = 0; simp [lvE, hz]; omega
      have HL : Hid (lvL p (mo : Int) = (List.range (n + mo)).map (gd p)) := by show lvL p (mo : Int) = _; simp [lvL, HE.out, hn]
      have HSE : Hid (∀ i, i ≤ 1000 → ∀ W, Below q w W → Calls Tryd.prog 29 #[.agg #[.string nm, v0, v1, .slice al n cl], .int .i64 ((i : Nat) : Int)] W fun e w' => e = .returned (.int .i64 (sender p i)) ∧ Below W.heap.size W w') := fun i hi W hW => sender_any _ p W (hrd.below (by rw [hq]; exact hW)) hv i hi
      have HSO : Hid (∀ i, i ≤ 1000 → ∀ W, Below q w W → Calls Tryd.prog 30 #[.agg #[.string nm, v0, v1, .slice al n cl], .int .i64 ((i : Nat) : Int)] W fun e w' => e = .returned (.int .i64 (src p i)) ∧ Below W.heap.size W w') := fun i hi W hW => source_any _ p W (hrd.below (by rw [hq]; exact hW)) hv i hi
      have HDE : Hid (∀ i, i ≤ 1000 → ∀ W, Below q w W → Calls Tryd.prog 31 #[.agg #[.string nm, v0, v1, .slice al n cl], .int .i64 ((i : Nat) : Int)] W fun e w' => e = .returned (.int .i64 (dst p i)) ∧ Below W.heap.size W w') := fun i hi W hW => dest_any _ p W (hrd.below (by rw [hq]; exact hW)) hv i hi
      have b0 : ¬ (mo : Int) < 0 := by omega
      have b64 : ¬ (64 : Int) < (mo : Int) := by omega
      have hws : wrap64 ((n : Int) + (mo : Int)) = ((n + mo : Nat) : Int) := by rw [IntWalk.wrap64_in _ ⟨by omega, by omega⟩]; omega
      have HB : Hid (n + mo ≤ 88) := by show n + mo ≤ 88; omega
      clear hst hck hrd h0 h1 hl hm1 hm2 hmo hm
      go_enter Tryd.func12, Tryd.ntmps12
      go_wp2_with (go_at_call 28; refine Calls.mono CK0 ?_; rintro e w1 ⟨rfl, hw⟩; have HW1 : Hid (PB q w nm v0 v1 (.slice al n cl) w1) := HP.out.below hw; clear hw)
      go_loopw [7, 8] (fun v7 v8 wr => ∃ i : Nat, i ≤ n + mo ∧ v8 = .int .i64 i ∧ LV q w nm v0 v1 (.slice al n cl) ((List.range i).map (gd p)) v7 wr) (fun _ v _ => (n + mo) - (intOf v).toNat)
      case atStart => exact ⟨0, Nat.zero_le _, rfl, HW1.out, own_nil _ _⟩
      case round =>
        obtain ⟨i, hi, rfl, hlv⟩ := hrel
        have d3 := hlv.pb.c3
        by_cases hlt : i < n + mo
        · have b1 : (i : Int) < ((n + mo : Nat) : Int) := by omega
          have HLV : Hid (LV q w nm v0 v1 (.slice al n cl) ((List.range i).map (gd p)) u7 wr) := hlv
          have HI : Hid (i < n + mo ∧ i ≤ 1000) := ⟨hlt, by have := HB.out; omega⟩
          clear hlv hi
          go_upto_region 10 with fail
          refine wp_as (c' := rgLe10) (by kernel_rfl) ?_
          refine Le10 (k := i) HLV.out (by have := HI.out; simp; have := HB.out; omega) (HSE.out i HI.out.2) (HSO.out i HI.out.2) (HDE.out i HI.out.2) rfl rfl rfl rfl (fun _ _ d _ _ h => by cases d <;> exact h) ?_
          intro u v' Y hY
          have HY : Hid (LV q w nm v0 v1 (.slice al n cl) ((List.range (i + 1)).map (gd p)) v' Y) := by
            show LV q w nm v0 v1 (.slice al n cl) ((List.range (i + 1)).map (gd p)) v' Y
            rw [List.range_succ, List.map_append]
            exact hY
          clear hY
          go_wp2
          exact ⟨⟨i + 1, HI.out.1, congrArg (Value.int .i64) (Int.natCast_succ i).symm, HY.out⟩, measP HI.out.1⟩
        · have b1 : ¬ (i : Int) < ((n + mo : Nat) : Int) := by omega
          have hin : i = n + mo := by omega
          subst hin
          have HLV : Hid _ := hlv
          clear hlv
          go_wp2
          go_ret2
          rw [HE.out, HL.out]
          exact ⟨_, rfl, HLV.out.own, HLV.out.pb.old⟩
  · have HE : Hid (lvE p more = chk p) := by show lvE p more = chk p; simp [lvE, hz]
    have HL : Hid (lvL p more = []) := by show lvL p more = []; simp [lvL, HE.out, hz]
    generalize hc : chk p = c at *
    have hcb : (c == 0) = false := by simpa using hz
    clear hst hck hrd h0 h1 hl
    go_enter Tryd.func12, Tryd.ntmps12
    go_wp2_with (go_at_call 28; refine Calls.mono CK0 ?_; rintro e w1 ⟨rfl, hw⟩; have HW1 : Hid (PB q w nm v0 v1 (.slice al n cl) w1) := HP.out.below hw; clear hw)
    go_ret2
    rw [HE.out, HL.out]
    exact ⟨_, rfl, own_nil _ _, HW1.out.old⟩
end Go.Proofs.YtjhleocpipmklaaDoor
namespace Go.Proofs.YtjhleocpipmklaaDoor
set_option linter.unusedSimpArgs false
set_option linter.unusedVariables false
open Go.ChangeShapes Go.WideShapes Go.ChangeAt Go.RowKit Go.Pin Go.Pat Go.Deep
theorem add_spot {x : Addr} {w : World} {v : Value} (h : w.cell? (x.add 0) = some v) : ∃ b o, x = ⟨b, o, none⟩ := by
  obtain ⟨b, o, s⟩ := x
  cases s with
  | none => exact ⟨b, o, rfl⟩
  | some s =>
    exfalso
    simp only [World.cell?, Addr.add, if_true] at h
    split at h <;> simp_all
theorem weightsAll_mem {H : Type} {P : Program} {e : TypeId} : ∀ {ds : List (DataW H)} {d : DataW H} {k : Nat}, d ∈ ds → k ∈ d.weights P e → k ∈ DataW.weightsAll P e ds
  | [], _, _, h, _ => nomatch h
  | d' :: r, d, k, h, hk => by
    rw [DataW.weightsAll]
    rcases List.mem_cons.1 h with rfl | h
    · exact List.mem_append_left _ hk
    · exact List.mem_append_right _ (weightsAll_mem h hk)
theorem bytes_int : Tryd.prog.bytesOf 3 = 8 := by kernel_rfl
theorem bytes_line : Tryd.prog.bytesOf 43 = 32 := by kernel_rfl
/-- numbers that came in -/
theorem open_nums {H : Type} {enc : TypeId × Value → H} {W : World} {fuel : Nat} {cs : List Value} {x : DataW H × List MemPlace}
    (hf : DataW.trod enc Tryd.prog W 0 (fun _ => true) true fuel 22 cs = some x) (hs : ∀ k ∈ x.1.weights Tryd.prog 22, k ≤ reachBytes) : ∃ (v : Value) (C : List Int), cs = [v] ∧ RdN W v C := by
  rcases open_ints Tryd.underlying22 Tryd.underlying3 (by kernel_rfl) hf with ⟨hcs, _⟩ | ⟨y, l, c, zs, hcs, _, hl, hm, hz, hx, hcell, hwz⟩
  · exact ⟨_, [], hcs, none, 0, rfl, ⟨Nat.le_refl _, fun _ => rfl⟩, by simp, .inl rfl⟩
  · have hz' : zs.length = c := by simpa using hz
    have hl2 : (zs.take l).length = l := by rw [List.length_take]; omega
    have hb : l ≤ 140737488355328 := by
      have := hs ((l + (c - l)) * 8) (by
        rw [hx]
        simp only [DataW.weights, Tryd.underlying22]
        refine List.mem_cons.2 (.inl ?_)
        rw [bytes_int]
        simp [lits, hz', hl])
      unfold reachBytes at this
      omega
    refine ⟨_, zs.take l, hcs, some y, c, by rw [hl2], ⟨by rw [hl2]; exact hl, fun h => nomatch h⟩, by rw [hl2]; exact hb, ?_⟩
    by_cases e : l = 0
    · left; subst e; simp
    · right
      obtain ⟨b, o, rfl⟩ := add_spot (hcell 0 (by omega))
      refine ⟨b, o, rfl, fun j v hv => ?_⟩
      have hj : j < l := by have := (List.getElem?_eq_some_iff.1 hv).1; rw [List.length_map, hl2] at this; exact this
      have := hcell j (by omega)
      rw [add_mid] at this
      rw [this, ← hv]
      simp [List.getElem?_take_of_lt hj, show j < zs.length by omega]
theorem open_lines {H : Type} {enc : TypeId × Value → H} {W : World} {fuel : Nat} {cs : List Value} {x : DataW H × List MemPlace}
    (hf : DataW.trod enc Tryd.prog W 0 (fun _ => true) true fuel 24 cs = some x) (hs : ∀ k ∈ x.1.weights Tryd.prog 24, k ≤ reachBytes) : ∃ (v : Value) (L : List Ln), cs = [v] ∧ RdL W v L := by
  rcases open_slice Tryd.underlying24 hf with ⟨hcs, _⟩ | ⟨y, len, cap, m, n, D, Pl, hcs, _, hl, hm, hmm, hxe, hx⟩
  · exact ⟨_, [], hcs, none, 0, rfl, Nat.le_refl _, by simp, fun j hj => nomatch hj⟩
  · have hlm : len ≤ m := by rw [hmm]; split <;> omega
    have ce : Tryd.prog.cellsOf 43 = 2 := by kernel_rfl
    have ci : Tryd.prog.cellsOf 3 = 1 := by kernel_rfl
    have cn : Tryd.prog.cellsOf 22 = 1 := by kernel_rfl
    have he : Tryd.prog.underlying 43 = _ := Tryd.underlying43
    have hb : len ≤ 140737488355328 := by
      have := hs ((len + (m - len)) * 32) (by
        rw [hxe]
        simp only [DataW.weights, Tryd.underlying24]
        refine List.mem_cons.2 (.inl ?_)
        rw [bytes_line]
        simp)
      unfold reachBytes at this
      omega
    have each : ∀ i, i < len → ∃ q : Value × Ln, W.cell? (y.add (i * 2)) = some (.int .i64 q.2.1) ∧ W.cell? (y.add (i * 2 + 1)) = some q.1 ∧ RdN W q.1 q.2.2 := by
      intro i hi
      obtain ⟨cs', h1, h2⟩ := hx i (by omega)
      rw [ce] at h1
      obtain ⟨_, hlen, hcell⟩ := World.cells?_some h1
      obtain ⟨xs, k, hk, hxy, _, hxl, hf⟩ := DataW.trod_struct he h2
      match xs, hxl with
      | [y0, y1], _ =>
        have g0 := hf 0 _ rfl
        have g1 := hf 1 _ rfl
        simp only [List.getElem_toArray, List.getElem_cons_zero, List.getElem_cons_succ, ci, cn, List.getElem?_cons_zero, List.getElem?_cons_succ] at g0 g1
        obtain ⟨z0, hz0, _, _⟩ := DataW.trod_int Tryd.underlying3 g0
        have hw1 : ∀ k ∈ y1.1.weights Tryd.prog 22, k ≤ reachBytes := fun k hk => by
          refine hs k ?_
          rw [hxe]
          simp only [DataW.weights, Tryd.underlying24]
          refine List.mem_cons_of_mem _ (List.mem_append_left _ (weightsAll_mem (List.mem_map.2 ⟨i, List.mem_range.2 hi, rfl⟩) ?_))
          have hD : D i = .agg [y0.1, y1.1] := congrArg Prod.fst hxy
          rw [hD]
          simp only [DataW.weights, Tryd.underlying43]
          simp only [DataW.weightsEach, List.map_cons, List.map_nil]
          exact List.mem_append_right _ (List.mem_append_left _ hk)
        obtain ⟨v, C, hc, hr⟩ := open_nums g1 hw1
        have e0 : cs'[0]? = some (.int .i64 z0) := by
          have := congrArg (fun z => z[0]?) hz0
          simpa using this
        have e1 : cs'[1]? = some v := by
          have := congrArg (fun z => z[0]?) hc
          simpa using this
        refine ⟨(v, z0, C), ?_, ?_, hr⟩
        · have e := hcell 0 (by omega)
          rw [add_add, e0] at e
          exact e
        · have e := hcell 1 (by omega)
          rw [add_add, e1] at e
          exact e
    obtain ⟨q, hq⟩ := choose_lt each
    have hat : ∀ j, j < len → ((List.range len).map (fun i => (q i).2)).getD j (0, []) = (q j).2 := fun j hj => by simp [List.getD, hj]
    refine ⟨_, (List.range len).map (fun i => (q i).2), hcs, some y, cap, by simp, by simpa using hl, by simpa using hb, fun j hj => ?_⟩
    have hj' : j < len := by simpa using hj
    have h0 := (hq 0 (by omega)).1
    rw [Nat.zero_mul] at h0
    obtain ⟨b, o, rfl⟩ := add_spot h0
    have h1 := (hq j hj').1
    have h2 := (hq j hj').2.1
    rw [add_mid] at h1 h2
    refine ⟨b, o, (q j).1, rfl, ?_, by rw [Nat.add_assoc]; exact h2, ?_⟩
    · rw [hat j hj']; exact h1
    · rw [hat j hj']; exact (hq j hj').2.2
set_option maxRecDepth 100000 in
/-- a pattern that came in -/
theorem open_patternN {H : Type} {enc : TypeId × Value → H} {W : World} {v : Value} {d : DataW H} {ps : List MemPlace}
    (h : DataW.Trod enc Tryd.prog W 0 (fun _ => true) true 26 v d ps) (hs : ∀ k ∈ d.weights Tryd.prog 26, k ≤ reachBytes) : ∃ p : Pt, RdP W v p ∧ p.nm.size ≤ 140737488355328 := by
  obtain ⟨fuel, hf⟩ := h
  have c4 : Tryd.prog.cellsOf 26 = 4 := by kernel_rfl
  have cs1 : Tryd.prog.cellsOf 9 = 1 := by kernel_rfl
  have ca : Tryd.prog.cellsOf 23 = 2 := by kernel_rfl
  have cn : Tryd.prog.cellsOf 22 = 1 := by kernel_rfl
  have cl : Tryd.prog.cellsOf 24 = 1 := by kernel_rfl
  have he : Tryd.prog.underlying 26 = _ := Tryd.underlying26
  obtain ⟨y0, y1, y2, n, hx, hlen, g0, g1, g2⟩ := trod_struct3 he hf
  rw [c4] at hlen
  obtain ⟨e0, e1, e2, e3, rfl⟩ : ∃ e0 e1 e2 e3, v = .agg #[e0, e1, e2, e3] := by
    cases v with
    | agg cs =>
      obtain ⟨l⟩ := cs
      match l, hlen with
      | [e0, e1, e2, e3], _ => exact ⟨e0, e1, e2, e3, rfl⟩
    | _ => simp [Value.cells] at hlen
  simp only [cs1, ca, cl, Value.cells, List.drop_zero, List.take_succ_cons, List.take_zero, List.drop_succ_cons] at g0 g1 g2
  obtain ⟨nm, h0, hnx, _⟩ := DataW.trod_string Tryd.underlying9 g0
  obtain ⟨xs, m, _, hxa, _, hxl, hel⟩ := DataW.trod_array Tryd.underlying23 g1
  have hd : d = .agg [y0.1, y1.1, y2.1] := congrArg Prod.fst hx
  match xs, hxl with
  | [z0, z1], _ =>
    have k0 := hel 0 (by decide)
    have k1 := hel 1 (by decide)
    simp only [cn, Nat.zero_mul, Nat.one_mul, List.drop_zero, List.take_succ_cons, List.take_zero, List.drop_succ_cons, List.getElem?_cons_zero, List.getElem?_cons_succ] at k0 k1
    have hy1 : y1.1 = .agg [z0.1, z1.1] := congrArg Prod.fst hxa
    have hW : ∀ k, k ∈ y1.1.weights Tryd.prog 23 ∨ k ∈ y2.1.weights Tryd.prog 24 → k ≤ reachBytes := fun k hk => by
      refine hs k ?_
      rw [hd]
      simp only [DataW.weights, Tryd.underlying26, List.map_cons, List.map_nil, DataW.weightsEach]
      rcases hk with hk | hk
      · exact List.mem_append_right _ (List.mem_append_left _ hk)
      · exact List.mem_append_right _ (List.mem_append_right _ (List.mem_append_left _ hk))
    have hW0 : ∀ k ∈ z0.1.weights Tryd.prog 22, k ≤ reachBytes := fun k hk => hW k (.inl (by
      rw [hy1]; simp only [DataW.weights, Tryd.underlying23, DataW.weightsAll]
      exact List.mem_append_left _ hk))
    have hW1 : ∀ k ∈ z1.1.weights Tryd.prog 22, k ≤ reachBytes := fun k hk => hW k (.inl (by
      rw [hy1]; simp only [DataW.weights, Tryd.underlying23, DataW.weightsAll]
      exact List.mem_append_right _ (List.mem_append_left _ hk)))
    obtain ⟨w0, C0, q0, r0⟩ := open_nums k0 hW0
    obtain ⟨w1, C1, q1, r1⟩ := open_nums k1 hW1
    obtain ⟨w2, L, q2, r2⟩ := open_lines g2 (fun k hk => hW k (.inr hk))
    injection h0 with h0 _
    injection q0 with q0 _
    injection q1 with q1 _
    injection q2 with q2 _
    subst h0 q0 q1 q2
    refine ⟨⟨nm, C0, C1, L⟩, ⟨e1, e2, e3, rfl, r0, r1, r2⟩, ?_⟩
    have hy0 := congrArg Prod.fst hnx
    have := hs nm.data.toList.length (by
      rw [hd]
      simp only [DataW.weights, Tryd.underlying26, List.map_cons, List.map_nil, DataW.weightsEach]
      refine List.mem_append_left _ ?_
      rw [hy0]; simp [DataW.weights])
    unfold reachBytes at this
    have e : nm.data.toList.length = nm.size := by simp
    show nm.size ≤ _
    omega
theorem open_pattern {H : Type} {enc : TypeId × Value → H} {W : World} {v : Value} {d : DataW H} {ps : List MemPlace}
    (h : DataW.Trod enc Tryd.prog W 0 (fun _ => true) true 26 v d ps) (hs : ∀ k ∈ d.weights Tryd.prog 26, k ≤ reachBytes) : ∃ p : Pt, RdP W v p := by
  obtain ⟨p, h1, _⟩ := open_patternN h hs
  exact ⟨p, h1⟩
end Go.Proofs.YtjhleocpipmklaaDoor
