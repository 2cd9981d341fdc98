import Derived.Test.YtfkbgodfcnmepabDoorDigD
import Derived.Test.YtfkbgodfcnmepabDoorEng
import Derived.Laws.Tables
namespace Go.Proofs.YtfkbgodfcnmepabDoor
set_option linter.unusedSimpArgs false
set_option linter.unusedVariables false
open Go.ChangeShapes Go.WideShapes Go.ChangeAt Go.RowKit Go.Pin Go.Str Go.Dig
theorem wpCall {P : Program} {o : Oper} {a : Act} {w : World} {K : Act → World → Prop} {Q : Exit → Act → World → Prop} {f : Nat} {xs : Array Operand} {ts : Array TypeId} {args : Array Value} {v : Value} {R : World → Prop} {d : Option Nat}
    (ho : o.op = .call { callee := .value (.func f), args := xs, argTypes := ts }) (hd : o.dst = d) (ha : xs.map a.eval = args) (hen : ∀ w, (callFunc f args).run P w = .ok (.enter f args) w) (hc : Calls P f args w fun e w' => e = .returned v ∧ R w') (h : ∀ w', R w' → K (a.put d v) w') : Oper.wp P o a w K Q := by
  subst hd
  unfold Oper.wp execOp
  simp only [ho]
  go_simp
  refine hc.mono ?_
  rintro e w' ⟨rfl, hr⟩
  exact h w' hr
section
variable {a : Act} {o : Oper} {x y : Operand} {g : Nat}
theorem run_ixS {n : Nat} (hn : n < 16) (ho : o.op = .indexAddr 73 x y) (he : a.eval x = .pointer (some ⟨g, 0, none⟩)) (hy : a.eval y = .int .i64 (n : Int)) (w : World) : (execOp a.eval o).run Tryd.prog w = .ok (.value (.pointer (some ⟨g, n, none⟩))) w := by
  unfold execOp
  simp only [ho, he, hy]
  have b1 : (n : Int) < 16 := by omega
  have b2 : ¬ (n : Int) < 0 := by omega
  go_simp
theorem run_ldU {f : Nat} {v : Value} (ho : o.op = .load 46 x) (he : a.eval x = .pointer (some ⟨g, f, none⟩)) (w : World) (hg : w.cell? ⟨g, f, none⟩ = some v) : (execOp a.eval o).run Tryd.prog w = .ok (.value v) w := by
  unfold execOp
  simp only [ho, he]
  go_simp
end
/-- two words of m are read, a mixing is called -/
def rO (s f i j : Nat) (p : String) : Array Oper := #[{ dst := some s, op := .move (.tmp 0), type := 78, pos := p, after := #[], guard := none }, { dst := some (s + 1), op := .move (.tmp 1), type := 78, pos := p, after := #[], guard := none }, { dst := some (s + 2), op := .nilCheck (.tmp (s + 1)), type := 0, pos := p, after := #[{ on := 1, ground := Ground.data }], guard := none }, { dst := some (s + 3), op := .indexAddr 73 (.tmp (s + 2)) (.const (.int .i64 (i : Int))), type := 0, pos := p, after := #[{ on := 2, ground := Ground.data }], guard := none }, { dst := some (s + 4), op := .load 46 (.tmp (s + 3)), type := 46, pos := p, after := #[{ on := 3, ground := Ground.data }], guard := none }, { dst := some (s + 5), op := .move (.tmp 1), type := 78, pos := p, after := #[], guard := none }, { dst := some (s + 6), op := .nilCheck (.tmp (s + 5)), type := 0, pos := p, after := #[{ on := 5, ground := Ground.data }], guard := none }, { dst := some (s + 7), op := .indexAddr 73 (.tmp (s + 6)) (.const (.int .i64 (j : Int))), type := 0, pos := p, after := #[{ on := 6, ground := Ground.data }], guard := none }, { dst := some (s + 8), op := .load 46 (.tmp (s + 7)), type := 46, pos := p, after := #[{ on := 7, ground := Ground.data }], guard := none }, { dst := some (s + 9), op := .call { callee := .value (.func f), args := #[.tmp s, .tmp (s + 4), .tmp (s + 8)], argTypes := #[78, 46, 46] }, type := 0, pos := p, after := #[{ on := 0, ground := Ground.data }, { on := 4, ground := Ground.data }, { on := 8, ground := Ground.data }], guard := none }]
def rF (ops : Array Oper) : Bool := Region.free .any ops #[false, false, false, false, false, false, false, false, false, false] 0 && Region.free .any ops #[true, false, false, false, false, false, false, false, false, false] 1 && Region.free .any ops #[true, true, false, false, false, false, false, false, false, false] 2 && Region.free .any ops #[true, true, true, false, false, false, false, false, false, false] 3 && Region.free .any ops #[true, true, true, true, false, false, false, false, false, false] 4 && Region.free .any ops #[true, true, true, true, true, false, false, false, false, false] 5 && Region.free .any ops #[true, true, true, true, true, true, false, false, false, false] 6 && Region.free .any ops #[true, true, true, true, true, true, true, false, false, false] 7 && Region.free .any ops #[true, true, true, true, true, true, true, true, false, false] 8
set_option maxRecDepth 100000 in
set_option maxHeartbeats 4000000 in
theorem rG {Q : Exit → Act → World → Prop} {k s f i j : Nat} {p : String} {a0 : Act} {g gm x y : Nat} {w : World} {R : World → Prop} (hF : rF (rO s f i j p) = true) (hs : 2 ≤ s) (hz : s + 10 ≤ a0.tmps.size) (hi : i < 16) (hj : j < 16) (e0 : a0.eval (.tmp 0) = (.pointer (some ⟨g, 0, none⟩))) (e1 : a0.eval (.tmp 1) = (.pointer (some ⟨gm, 0, none⟩)))
    (hS0 : (fun Y : World => Y.cell? ⟨gm, i, none⟩ = some (.int .u32 (x : Int)) ∧ Y.cell? ⟨gm, j, none⟩ = some (.int .u32 (y : Int))) w) (hen : ∀ w args, (callFunc f args).run Tryd.prog w = .ok (.enter f args) w) (HC : Calls Tryd.prog f #[(.pointer (some ⟨g, 0, none⟩)), .int .u32 (x : Int), .int .u32 (y : Int)] w.drew fun e w' => e = .returned (.tuple #[]) ∧ R w') (hR : ∀ w', R w' → (fun Y : World => Y.cell? ⟨gm, i, none⟩ = some (.int .u32 (x : Int)) ∧ Y.cell? ⟨gm, j, none⟩ = some (.int .u32 (y : Int))) w')
    (HPN : ∀ c (a : Act) d v w, Q (.panic c) (a.put d v) w → Q (.panic c) a w)
    (H : ∀ a w', a.tmps.size = a0.tmps.size → a.eval (.tmp 0) = (.pointer (some ⟨g, 0, none⟩)) → a.eval (.tmp 1) = (.pointer (some ⟨gm, 0, none⟩)) → a.defers = a0.defers → R w' → Q .normal a w') : Code.wp Tryd.prog (.region k (rO s f i j p) true) Q a0 w := by
  have o0 : opIs (rO s f i j p) 0 (.move (.tmp 0)) (some s) := by unfold opIs; kernel_rfl
  have o1 : opIs (rO s f i j p) 1 (.move (.tmp 1)) (some (s + 1)) := by unfold opIs; kernel_rfl
  have o2 : opIs (rO s f i j p) 2 (.nilCheck (.tmp (s + 1))) (some (s + 2)) := by unfold opIs; kernel_rfl
  have o3 : opIs (rO s f i j p) 3 (.indexAddr 73 (.tmp (s + 2)) (.const (.int .i64 (i : Int)))) (some (s + 3)) := by unfold opIs; kernel_rfl
  have o4 : opIs (rO s f i j p) 4 (.load 46 (.tmp (s + 3))) (some (s + 4)) := by unfold opIs; kernel_rfl
  have o5 : opIs (rO s f i j p) 5 (.move (.tmp 1)) (some (s + 5)) := by unfold opIs; kernel_rfl
  have o6 : opIs (rO s f i j p) 6 (.nilCheck (.tmp (s + 5))) (some (s + 6)) := by unfold opIs; kernel_rfl
  have o7 : opIs (rO s f i j p) 7 (.indexAddr 73 (.tmp (s + 6)) (.const (.int .i64 (j : Int)))) (some (s + 7)) := by unfold opIs; kernel_rfl
  have o8 : opIs (rO s f i j p) 8 (.load 46 (.tmp (s + 7))) (some (s + 8)) := by unfold opIs; kernel_rfl
  have o9 : opIs (rO s f i j p) 9 (.call { callee := .value (.func f), args := #[.tmp s, .tmp (s + 4), .tmp (s + 8)], argTypes := #[78, 46, 46] }) (some (s + 9)) := by unfold opIs; kernel_rfl
  unfold rF at hF
  simp only [Bool.and_eq_true, and_assoc] at hF
  obtain ⟨f0, f1, f2, f3, f4, f5, f6, f7, f8⟩ := hF
  have ns : Region.noSelect (rO s f i j p) = true := by kernel_rfl
  have hS : (fun Y : World => Y.cell? ⟨gm, i, none⟩ = some (.int .u32 (x : Int)) ∧ Y.cell? ⟨gm, j, none⟩ = some (.int .u32 (y : Int))) w.drew := hS0
  refine wp_region_held_drew (S := (fun Y : World => Y.cell? ⟨gm, i, none⟩ = some (.int .u32 (x : Int)) ∧ Y.cell? ⟨gm, j, none⟩ = some (.int .u32 (y : Int)))) (by kernel_rfl) hS (fun hH => ?_)
  refine wpAnyH_as (l' := #[false, false, false, false, false, false, false, false, false, false]) (by kernel_rfl) ?_
  have sz0 : s + 10 ≤ a0.tmps.size := hz
  refine takeH (v := (.pointer (some ⟨g, 0, none⟩))) o0 ns f0 (by kernel_rfl) HPN (fun w hw o ho => run_move ho e0 w) hH ?_
  refine wpAnyH_as (l' := #[true, false, false, false, false, false, false, false, false, false]) (by kernel_rfl) ?_
  obtain ⟨a1, h1⟩ : ∃ a' : Act, a' = a0.put (some s) (.pointer (some ⟨g, 0, none⟩)) := ⟨_, rfl⟩
  rw [← h1]
  have sz1 : s + 10 ≤ a1.tmps.size := by rw [h1, size_put]; exact sz0
  have e1_z0 : a1.eval (.tmp 0) = (.pointer (some ⟨g, 0, none⟩)) := by rw [h1, eval_put_ne _ _ _ _ (by omega)]; exact e0
  have e1_z1 : a1.eval (.tmp 1) = (.pointer (some ⟨gm, 0, none⟩)) := by rw [h1, eval_put_ne _ _ _ _ (by omega)]; exact e1
  have e1_0 : a1.eval (.tmp s) = (.pointer (some ⟨g, 0, none⟩)) := by rw [h1]; exact eval_put_eq _ _ _ (by omega)
  have zs1 : a1.tmps.size = a0.tmps.size := by rw [h1, size_put]
  have zd1 : a1.defers = a0.defers := by rw [h1]; rfl
  clear e0 e1 sz0 h1
  refine takeH (v := (.pointer (some ⟨gm, 0, none⟩))) o1 ns f1 (by kernel_rfl) HPN (fun w hw o ho => run_move ho e1_z1 w) hH ?_
  refine wpAnyH_as (l' := #[true, true, false, false, false, false, false, false, false, false]) (by kernel_rfl) ?_
  obtain ⟨a2, h2⟩ : ∃ a' : Act, a' = a1.put (some (s + 1)) (.pointer (some ⟨gm, 0, none⟩)) := ⟨_, rfl⟩
  rw [← h2]
  have sz2 : s + 10 ≤ a2.tmps.size := by rw [h2, size_put]; exact sz1
  have e2_z0 : a2.eval (.tmp 0) = (.pointer (some ⟨g, 0, none⟩)) := by rw [h2, eval_put_ne _ _ _ _ (by omega)]; exact e1_z0
  have e2_z1 : a2.eval (.tmp 1) = (.pointer (some ⟨gm, 0, none⟩)) := by rw [h2, eval_put_ne _ _ _ _ (by omega)]; exact e1_z1
  have e2_0 : a2.eval (.tmp s) = (.pointer (some ⟨g, 0, none⟩)) := by rw [h2, eval_put_ne _ _ _ _ (by omega)]; exact e1_0
  have e2_1 : a2.eval (.tmp (s + 1)) = (.pointer (some ⟨gm, 0, none⟩)) := by rw [h2]; exact eval_put_eq _ _ _ (by omega)
  have zs2 : a2.tmps.size = a0.tmps.size := by rw [h2, size_put]; exact zs1
  have zd2 : a2.defers = a0.defers := by rw [h2]; exact zd1
  clear e1_z0 e1_z1 e1_0 sz1 h2 zs1 zd1
  refine takeH (v := (.pointer (some ⟨gm, 0, none⟩))) o2 ns f2 (by kernel_rfl) HPN (fun w hw o ho => run_nilCheck ho e2_1 w) hH ?_
  refine wpAnyH_as (l' := #[true, true, true, false, false, false, false, false, false, false]) (by kernel_rfl) ?_
  obtain ⟨a3, h3⟩ : ∃ a' : Act, a' = a2.put (some (s + 2)) (.pointer (some ⟨gm, 0, none⟩)) := ⟨_, rfl⟩
  rw [← h3]
  have sz3 : s + 10 ≤ a3.tmps.size := by rw [h3, size_put]; exact sz2
  have e3_z0 : a3.eval (.tmp 0) = (.pointer (some ⟨g, 0, none⟩)) := by rw [h3, eval_put_ne _ _ _ _ (by omega)]; exact e2_z0
  have e3_z1 : a3.eval (.tmp 1) = (.pointer (some ⟨gm, 0, none⟩)) := by rw [h3, eval_put_ne _ _ _ _ (by omega)]; exact e2_z1
  have e3_0 : a3.eval (.tmp s) = (.pointer (some ⟨g, 0, none⟩)) := by rw [h3, eval_put_ne _ _ _ _ (by omega)]; exact e2_0
  have e3_2 : a3.eval (.tmp (s + 2)) = (.pointer (some ⟨gm, 0, none⟩)) := by rw [h3]; exact eval_put_eq _ _ _ (by omega)
  have zs3 : a3.tmps.size = a0.tmps.size := by rw [h3, size_put]; exact zs2
  have zd3 : a3.defers = a0.defers := by rw [h3]; exact zd2
  clear e2_z0 e2_z1 e2_0 e2_1 sz2 h3 zs2 zd2
  refine takeH (v := (.pointer (some ⟨gm, i, none⟩))) o3 ns f3 (by kernel_rfl) HPN (fun w hw o ho => run_ixS hi ho e3_2 rfl w) hH ?_
  refine wpAnyH_as (l' := #[true, true, true, true, false, false, false, false, false, false]) (by kernel_rfl) ?_
  obtain ⟨a4, h4⟩ : ∃ a' : Act, a' = a3.put (some (s + 3)) (.pointer (some ⟨gm, i, none⟩)) := ⟨_, rfl⟩
  rw [← h4]
  have sz4 : s + 10 ≤ a4.tmps.size := by rw [h4, size_put]; exact sz3
  have e4_z0 : a4.eval (.tmp 0) = (.pointer (some ⟨g, 0, none⟩)) := by rw [h4, eval_put_ne _ _ _ _ (by omega)]; exact e3_z0
  have e4_z1 : a4.eval (.tmp 1) = (.pointer (some ⟨gm, 0, none⟩)) := by rw [h4, eval_put_ne _ _ _ _ (by omega)]; exact e3_z1
  have e4_0 : a4.eval (.tmp s) = (.pointer (some ⟨g, 0, none⟩)) := by rw [h4, eval_put_ne _ _ _ _ (by omega)]; exact e3_0
  have e4_3 : a4.eval (.tmp (s + 3)) = (.pointer (some ⟨gm, i, none⟩)) := by rw [h4]; exact eval_put_eq _ _ _ (by omega)
  have zs4 : a4.tmps.size = a0.tmps.size := by rw [h4, size_put]; exact zs3
  have zd4 : a4.defers = a0.defers := by rw [h4]; exact zd3
  clear e3_z0 e3_z1 e3_0 e3_2 sz3 h4 zs3 zd3
  refine takeH (v := (.int .u32 (x : Int))) o4 ns f4 (by kernel_rfl) HPN (fun w hw o ho => run_ldU ho e4_3 w hw.1) hH ?_
  refine wpAnyH_as (l' := #[true, true, true, true, true, false, false, false, false, false]) (by kernel_rfl) ?_
  obtain ⟨a5, h5⟩ : ∃ a' : Act, a' = a4.put (some (s + 4)) (.int .u32 (x : Int)) := ⟨_, rfl⟩
  rw [← h5]
  have sz5 : s + 10 ≤ a5.tmps.size := by rw [h5, size_put]; exact sz4
  have e5_z0 : a5.eval (.tmp 0) = (.pointer (some ⟨g, 0, none⟩)) := by rw [h5, eval_put_ne _ _ _ _ (by omega)]; exact e4_z0
  have e5_z1 : a5.eval (.tmp 1) = (.pointer (some ⟨gm, 0, none⟩)) := by rw [h5, eval_put_ne _ _ _ _ (by omega)]; exact e4_z1
  have e5_0 : a5.eval (.tmp s) = (.pointer (some ⟨g, 0, none⟩)) := by rw [h5, eval_put_ne _ _ _ _ (by omega)]; exact e4_0
  have e5_4 : a5.eval (.tmp (s + 4)) = (.int .u32 (x : Int)) := by rw [h5]; exact eval_put_eq _ _ _ (by omega)
  have zs5 : a5.tmps.size = a0.tmps.size := by rw [h5, size_put]; exact zs4
  have zd5 : a5.defers = a0.defers := by rw [h5]; exact zd4
  clear e4_z0 e4_z1 e4_0 e4_3 sz4 h5 zs4 zd4
  refine takeH (v := (.pointer (some ⟨gm, 0, none⟩))) o5 ns f5 (by kernel_rfl) HPN (fun w hw o ho => run_move ho e5_z1 w) hH ?_
  refine wpAnyH_as (l' := #[true, true, true, true, true, true, false, false, false, false]) (by kernel_rfl) ?_
  obtain ⟨a6, h6⟩ : ∃ a' : Act, a' = a5.put (some (s + 5)) (.pointer (some ⟨gm, 0, none⟩)) := ⟨_, rfl⟩
  rw [← h6]
  have sz6 : s + 10 ≤ a6.tmps.size := by rw [h6, size_put]; exact sz5
  have e6_z0 : a6.eval (.tmp 0) = (.pointer (some ⟨g, 0, none⟩)) := by rw [h6, eval_put_ne _ _ _ _ (by omega)]; exact e5_z0
  have e6_z1 : a6.eval (.tmp 1) = (.pointer (some ⟨gm, 0, none⟩)) := by rw [h6, eval_put_ne _ _ _ _ (by omega)]; exact e5_z1
  have e6_0 : a6.eval (.tmp s) = (.pointer (some ⟨g, 0, none⟩)) := by rw [h6, eval_put_ne _ _ _ _ (by omega)]; exact e5_0
  have e6_4 : a6.eval (.tmp (s + 4)) = (.int .u32 (x : Int)) := by rw [h6, eval_put_ne _ _ _ _ (by omega)]; exact e5_4
  have e6_5 : a6.eval (.tmp (s + 5)) = (.pointer (some ⟨gm, 0, none⟩)) := by rw [h6]; exact eval_put_eq _ _ _ (by omega)
  have zs6 : a6.tmps.size = a0.tmps.size := by rw [h6, size_put]; exact zs5
  have zd6 : a6.defers = a0.defers := by rw [h6]; exact zd5
  clear e5_z0 e5_z1 e5_0 e5_4 sz5 h6 zs5 zd5
  refine takeH (v := (.pointer (some ⟨gm, 0, none⟩))) o6 ns f6 (by kernel_rfl) HPN (fun w hw o ho => run_nilCheck ho e6_5 w) hH ?_
  refine wpAnyH_as (l' := #[true, true, true, true, true, true, true, false, false, false]) (by kernel_rfl) ?_
  obtain ⟨a7, h7⟩ : ∃ a' : Act, a' = a6.put (some (s + 6)) (.pointer (some ⟨gm, 0, none⟩)) := ⟨_, rfl⟩
  rw [← h7]
  have sz7 : s + 10 ≤ a7.tmps.size := by rw [h7, size_put]; exact sz6
  have e7_z0 : a7.eval (.tmp 0) = (.pointer (some ⟨g, 0, none⟩)) := by rw [h7, eval_put_ne _ _ _ _ (by omega)]; exact e6_z0
  have e7_z1 : a7.eval (.tmp 1) = (.pointer (some ⟨gm, 0, none⟩)) := by rw [h7, eval_put_ne _ _ _ _ (by omega)]; exact e6_z1
  have e7_0 : a7.eval (.tmp s) = (.pointer (some ⟨g, 0, none⟩)) := by rw [h7, eval_put_ne _ _ _ _ (by omega)]; exact e6_0
  have e7_4 : a7.eval (.tmp (s + 4)) = (.int .u32 (x : Int)) := by rw [h7, eval_put_ne _ _ _ _ (by omega)]; exact e6_4
  have e7_6 : a7.eval (.tmp (s + 6)) = (.pointer (some ⟨gm, 0, none⟩)) := by rw [h7]; exact eval_put_eq _ _ _ (by omega)
  have zs7 : a7.tmps.size = a0.tmps.size := by rw [h7, size_put]; exact zs6
  have zd7 : a7.defers = a0.defers := by rw [h7]; exact zd6
  clear e6_z0 e6_z1 e6_0 e6_4 e6_5 sz6 h7 zs6 zd6
  refine takeH (v := (.pointer (some ⟨gm, j, none⟩))) o7 ns f7 (by kernel_rfl) HPN (fun w hw o ho => run_ixS hj ho e7_6 rfl w) hH ?_
  refine wpAnyH_as (l' := #[true, true, true, true, true, true, true, true, false, false]) (by kernel_rfl) ?_
  obtain ⟨a8, h8⟩ : ∃ a' : Act, a' = a7.put (some (s + 7)) (.pointer (some ⟨gm, j, none⟩)) := ⟨_, rfl⟩
  rw [← h8]
  have sz8 : s + 10 ≤ a8.tmps.size := by rw [h8, size_put]; exact sz7
  have e8_z0 : a8.eval (.tmp 0) = (.pointer (some ⟨g, 0, none⟩)) := by rw [h8, eval_put_ne _ _ _ _ (by omega)]; exact e7_z0
  have e8_z1 : a8.eval (.tmp 1) = (.pointer (some ⟨gm, 0, none⟩)) := by rw [h8, eval_put_ne _ _ _ _ (by omega)]; exact e7_z1
  have e8_0 : a8.eval (.tmp s) = (.pointer (some ⟨g, 0, none⟩)) := by rw [h8, eval_put_ne _ _ _ _ (by omega)]; exact e7_0
  have e8_4 : a8.eval (.tmp (s + 4)) = (.int .u32 (x : Int)) := by rw [h8, eval_put_ne _ _ _ _ (by omega)]; exact e7_4
  have e8_7 : a8.eval (.tmp (s + 7)) = (.pointer (some ⟨gm, j, none⟩)) := by rw [h8]; exact eval_put_eq _ _ _ (by omega)
  have zs8 : a8.tmps.size = a0.tmps.size := by rw [h8, size_put]; exact zs7
  have zd8 : a8.defers = a0.defers := by rw [h8]; exact zd7
  clear e7_z0 e7_z1 e7_0 e7_4 e7_6 sz7 h8 zs7 zd7
  refine takeH (v := (.int .u32 (y : Int))) o8 ns f8 (by kernel_rfl) HPN (fun w hw o ho => run_ldU ho e8_7 w hw.2) hH ?_
  refine wpAnyH_as (l' := #[true, true, true, true, true, true, true, true, true, false]) (by kernel_rfl) ?_
  obtain ⟨a9, h9⟩ : ∃ a' : Act, a' = a8.put (some (s + 8)) (.int .u32 (y : Int)) := ⟨_, rfl⟩
  rw [← h9]
  have sz9 : s + 10 ≤ a9.tmps.size := by rw [h9, size_put]; exact sz8
  have e9_z0 : a9.eval (.tmp 0) = (.pointer (some ⟨g, 0, none⟩)) := by rw [h9, eval_put_ne _ _ _ _ (by omega)]; exact e8_z0
  have e9_z1 : a9.eval (.tmp 1) = (.pointer (some ⟨gm, 0, none⟩)) := by rw [h9, eval_put_ne _ _ _ _ (by omega)]; exact e8_z1
  have e9_0 : a9.eval (.tmp s) = (.pointer (some ⟨g, 0, none⟩)) := by rw [h9, eval_put_ne _ _ _ _ (by omega)]; exact e8_0
  have e9_4 : a9.eval (.tmp (s + 4)) = (.int .u32 (x : Int)) := by rw [h9, eval_put_ne _ _ _ _ (by omega)]; exact e8_4
  have e9_8 : a9.eval (.tmp (s + 8)) = (.int .u32 (y : Int)) := by rw [h9]; exact eval_put_eq _ _ _ (by omega)
  have zs9 : a9.tmps.size = a0.tmps.size := by rw [h9, size_put]; exact zs8
  have zd9 : a9.defers = a0.defers := by rw [h9]; exact zd8
  clear e8_z0 e8_z1 e8_0 e8_4 e8_7 sz8 h9 zs8 zd8
  refine readyH o9 (by kernel_rfl) (fun o ho hd => wpCall (v := .tuple #[]) ho hd (args := #[(.pointer (some ⟨g, 0, none⟩)), .int .u32 (x : Int), .int .u32 (y : Int)]) (by simp only [List.map_toArray, List.map_cons, List.map_nil, e9_0, e9_4, e9_8]) (fun w => hen w _) HC (fun w' hw' => ⟨hR w' hw', ?_⟩))
  refine wpAnyH_as (l' := #[true, true, true, true, true, true, true, true, true, true]) (by kernel_rfl) ?_
  refine wpAnyH_done (by kernel_rfl) (H _ w' ?_ ?_ ?_ ?_ hw') _
  · rw [size_put]; exact zs9
  · rw [eval_put_ne _ _ _ _ (by omega)]; exact e9_z0
  · rw [eval_put_ne _ _ _ _ (by omega)]; exact e9_z1
  · exact zd9
theorem rN {Q : Exit → Act → World → Prop} {rest : Code} {k s f i j : Nat} {p : String} {a0 : Act} {g gm x y : Nat} {w : World} {R : World → Prop} (hF : rF (rO s f i j p) = true) (hs : 2 ≤ s) (hz : s + 10 ≤ a0.tmps.size) (hi : i < 16) (hj : j < 16) (e0 : a0.eval (.tmp 0) = (.pointer (some ⟨g, 0, none⟩))) (e1 : a0.eval (.tmp 1) = (.pointer (some ⟨gm, 0, none⟩)))
    (hS0 : (fun Y : World => Y.cell? ⟨gm, i, none⟩ = some (.int .u32 (x : Int)) ∧ Y.cell? ⟨gm, j, none⟩ = some (.int .u32 (y : Int))) w) (hen : ∀ w args, (callFunc f args).run Tryd.prog w = .ok (.enter f args) w) (HC : Calls Tryd.prog f #[(.pointer (some ⟨g, 0, none⟩)), .int .u32 (x : Int), .int .u32 (y : Int)] w.drew fun e w' => e = .returned (.tuple #[]) ∧ R w') (hR : ∀ w', R w' → (fun Y : World => Y.cell? ⟨gm, i, none⟩ = some (.int .u32 (x : Int)) ∧ Y.cell? ⟨gm, j, none⟩ = some (.int .u32 (y : Int))) w')
    (HPN : ∀ c (a : Act) d v w, Q (.panic c) (a.put d v) w → Q (.panic c) a w)
    (H : ∀ a w', a.tmps.size = a0.tmps.size → a.eval (.tmp 0) = (.pointer (some ⟨g, 0, none⟩)) → a.eval (.tmp 1) = (.pointer (some ⟨gm, 0, none⟩)) → a.defers = a0.defers → R w' → Code.wp Tryd.prog rest Q a w') : Code.wp Tryd.prog (.seq (.region k (rO s f i j p) true) rest) Q a0 w :=
  wp_seq (rG hF hs hz hi hj e0 e1 hS0 hen HC hR (fun c a d v w h => HPN c a d v w h) (fun a w' h1 h2 h3 h4 h5 => H a w' h1 h2 h3 h4 h5))
end Go.Proofs.YtfkbgodfcnmepabDoor
