import Derived.Test.YtjhleocpipmklaaDoorMjai
namespace Go.Proofs.YtjhleocpipmklaaDoor
set_option linter.unusedSimpArgs false
set_option linter.unusedVariables false
open Go.ChangeShapes Go.WideShapes Go.ChangeAt Go.RowKit Go.Pin Go.Pat Go.Deep
def opIsG (ops : Array Oper) (i : Nat) (gd : Nat × Bool) (op : Op) (d : Option Nat) : Prop := (ops[i]?).map (fun o => (o.guard, o.op, o.dst)) = some (some gd, op, d)
theorem opIsG.get {ops : Array Oper} {i : Nat} {gd : Nat × Bool} {op : Op} {d : Option Nat} (h : opIsG ops i gd op d) : ∃ o, ops[i]? = some o ∧ o.guard = some gd ∧ o.op = op ∧ o.dst = d := by
  obtain ⟨o, h1, h5⟩ := Option.map_eq_some_iff.1 h
  simp only [Prod.mk.injEq] at h5
  exact ⟨o, h1, h5.1, h5.2.1, h5.2.2⟩
/-- the operation on which another one hangs has said yes -/
theorem wanted_g {ops : Array Oper} {j d : Nat} {a : Act} (hd : (ops[j]?).bind (·.dst) = some d) (he : a.eval (.tmp d) = .bool true) (hs : d < a.tmps.size) : yielded ops a.tmps j = some true := by
  unfold yielded
  rw [hd]
  simp only [Act.eval, Array.getD_eq_getD_getElem?] at he
  simp only [Option.bind_some]
  rw [Array.getElem?_eq_getElem hs] at he ⊢
  simp only [Option.getD_some] at he
  rw [he]
section
variable {P : Program} {ops : Array Oper} {Q : Exit → Act → World → Prop} {S : World → Prop} {fuel : Nat} {listed : Array Bool} {a : Act} {w : World}
theorem takeHG {i j : Nat} {op : Op} {d : Nat} {v : Value} (hc : opIsG ops i (j, true) op (some d)) (hs : Region.noSelect ops = true) (hf : Region.free .any ops listed i = true) (hr : (Region.ready .any ops listed).contains i = true) (hy : yielded ops a.tmps j = some true)
    (hQ : ∀ c (a : Act) d v w, Q (.panic c) (a.put d v) w → Q (.panic c) a w) (hrun : ∀ w, S w → ∀ o : Oper, o.op = op → (execOp a.eval o).run P w = .ok (.value v) w) (hS : S w)
    (h : wpAnyH P .any ops Q S fuel (listed.setIfInBounds i true) (a.put (some d) v) w) : wpAnyH P .any ops Q S (fuel + 1) listed a w := by
  obtain ⟨o, h1, h2, h3, h4⟩ := hc.get
  exact wpAnyH_take h1 hs hf hr (fun _ _ _ h => hQ _ _ _ _ _ h) (.inl ⟨by simp [Region.wanted, h2, hy], fun w hw => hrun w hw o h3⟩) hS (by rw [h4]; exact h)
theorem readyHG {i j : Nat} {op : Op} {d : Option Nat} (hc : opIsG ops i (j, true) op d) (hr : Region.ready .any ops listed = [i]) (hy : yielded ops a.tmps j = some true)
    (h : ∀ o : Oper, o.op = op → o.dst = d → Oper.wp P o a w (fun a' w' => S w' ∧ wpAnyH P .any ops Q S fuel (listed.setIfInBounds i true) a' w') Q) : wpAnyH P .any ops Q S (fuel + 1) listed a w := by
  obtain ⟨o, h1, h2, h3, h4⟩ := hc.get
  refine wpAnyH_all hr (by simp) (fun j' hj => ?_)
  obtain rfl : j' = i := by simpa using hj
  unfold wpOp
  simp only [h1]
  rw [if_pos (by simp [Region.wanted, h2, hy])]
  exact .inl (h o h3 h4)
end
theorem wanted_gf {ops : Array Oper} {j d : Nat} {a : Act} (hd : (ops[j]?).bind (·.dst) = some d) (he : a.eval (.tmp d) = .bool false) (hs : d < a.tmps.size) : yielded ops a.tmps j = some false := by
  unfold yielded
  rw [hd]
  simp only [Act.eval, Array.getD_eq_getD_getElem?] at he
  simp only [Option.bind_some]
  rw [Array.getElem?_eq_getElem hs] at he ⊢
  simp only [Option.getD_some] at he
  rw [he]
section
variable {P : Program} {ops : Array Oper} {Q : Exit → Act → World → Prop} {S : World → Prop} {fuel : Nat} {listed : Array Bool} {a : Act} {w : World}
theorem takeHF {i j : Nat} {op : Op} {d : Nat} {v : Value} (hc : opIsG ops i (j, false) op (some d)) (hs : Region.noSelect ops = true) (hf : Region.free .any ops listed i = true) (hr : (Region.ready .any ops listed).contains i = true) (hy : yielded ops a.tmps j = some false)
    (hQ : ∀ c (a : Act) d v w, Q (.panic c) (a.put d v) w → Q (.panic c) a w) (hrun : ∀ w, S w → ∀ o : Oper, o.op = op → (execOp a.eval o).run P w = .ok (.value v) w) (hS : S w)
    (h : wpAnyH P .any ops Q S fuel (listed.setIfInBounds i true) (a.put (some d) v) w) : wpAnyH P .any ops Q S (fuel + 1) listed a w := by
  obtain ⟨o, h1, h2, h3, h4⟩ := hc.get
  exact wpAnyH_take h1 hs hf hr (fun _ _ _ h => hQ _ _ _ _ _ h) (.inl ⟨by simp [Region.wanted, h2, hy], fun w hw => hrun w hw o h3⟩) hS (by rw [h4]; exact h)
theorem readyHF {i j : Nat} {op : Op} {d : Option Nat} (hc : opIsG ops i (j, false) op d) (hr : Region.ready .any ops listed = [i]) (hy : yielded ops a.tmps j = some false)
    (h : ∀ o : Oper, o.op = op → o.dst = d → Oper.wp P o a w (fun a' w' => S w' ∧ wpAnyH P .any ops Q S fuel (listed.setIfInBounds i true) a' w') Q) : wpAnyH P .any ops Q S (fuel + 1) listed a w := by
  obtain ⟨o, h1, h2, h3, h4⟩ := hc.get
  refine wpAnyH_all hr (by simp) (fun j' hj => ?_)
  obtain rfl : j' = i := by simpa using hj
  unfold wpOp
  simp only [h1]
  rw [if_pos (by simp [Region.wanted, h2, hy])]
  exact .inl (h o h3 h4)
end
section
variable {a : Act} {o : Oper} {x y z : Operand}
theorem run_ixG {g i n cap : Nat} (hi : i < n) (ho : o.op = .indexAddr 30 x y) (he : a.eval x = .slice (some ⟨g, 0, none⟩) n cap) (hf : a.eval y = .int .i64 (i : Int)) (w : World) : (execOp a.eval o).run Tryd.prog w = .ok (.value (.pointer (some ⟨g, i * 3, none⟩))) w := by
  unfold execOp
  have b4 : (i : Int) < (n : Int) := by omega
  simp only [ho, he, hf]
  go_simp
theorem run_fG1 {g k : Nat} (ho : o.op = .fieldAddr 48 x 1) (he : a.eval x = .pointer (some ⟨g, k, none⟩)) (w : World) : (execOp a.eval o).run Tryd.prog w = .ok (.value (.pointer (some ⟨g, k + 1, none⟩))) w := by
  unfold execOp
  simp only [ho, he]
  go_simp
theorem run_gt0 {v : Int} (ho : o.op = .binOp .gtr 3 x (.const (.int .i64 0)) 3) (he : a.eval x = .int .i64 v) (w : World) : (execOp a.eval o).run Tryd.prog w = .ok (.value (.bool (decide (0 < v)))) w := by
  unfold execOp
  have hc : a.eval (.const (.int .i64 0)) = .int .i64 0 := rfl
  simp only [ho, he, hc]
  go_simp
theorem run_eq2 {v : Int} (ho : o.op = .binOp .eql 3 x (.const (.int .i64 2)) 3) (he : a.eval x = .int .i64 v) (w : World) : (execOp a.eval o).run Tryd.prog w = .ok (.value (.bool (v == 2))) w := by
  unfold execOp
  have hc : a.eval (.const (.int .i64 2)) = .int .i64 2 := rfl
  simp only [ho, he, hc]
  go_simp
theorem run_nbs {c : Bool} (ho : o.op = .binOp .neq 4 x y 4) (he : a.eval x = .bool c) (hf : a.eval y = .bool c) (w : World) : (execOp a.eval o).run Tryd.prog w = .ok (.value (.bool false)) w := by
  unfold execOp
  simp only [ho, he, hf]
  cases c <;> go_simp
theorem run_pickF {v : Value} (ho : o.op = .pick x y z) (hx : a.eval x = .bool false) (hz : a.eval z = v) (w : World) : (execOp a.eval o).run Tryd.prog w = .ok (.value v) w := by
  unfold execOp
  simp only [ho, hx, hz]
  go_simp
end
noncomputable def rgGn14 : Code := ((Tryd.f5.body.bind (findReg 14)).getD .skip)
noncomputable def opGn14 : Array Oper := opsOf rgGn14
theorem rgGn14_is : rgGn14 = .region 14 opGn14 true := by kernel_rfl
theorem opGn14_ns : Region.noSelect opGn14 = true := by kernel_rfl
theorem opGn14_0 : opIs opGn14 0 (.move (.tmp 5)) (some 38) := by unfold opIs; kernel_rfl
theorem opGn14_1 : opIs opGn14 1 (.move (.tmp 7)) (some 39) := by unfold opIs; kernel_rfl
theorem opGn14_2 : opIs opGn14 2 (.indexAddr 30 (.tmp 38) (.tmp 39)) (some 40) := by unfold opIs; kernel_rfl
theorem opGn14_3 : opIs opGn14 3 (.fieldAddr 48 (.tmp 40) 1) (some 41) := by unfold opIs; kernel_rfl
theorem opGn14_4 : opIs opGn14 4 (.load 3 (.tmp 41)) (some 42) := by unfold opIs; kernel_rfl
theorem opGn14_5 : opIs opGn14 5 (.binOp .gtr 3 (.tmp 42) (.const (.int .i64 0)) 3) (some 43) := by unfold opIs; kernel_rfl
theorem opGn14_6 : opIs opGn14 6 (.load 26 (.tmp 2)) (some 44) := by unfold opIs; kernel_rfl
theorem opGn14_7 : opIs opGn14 7 (.move (.tmp 7)) (some 45) := by unfold opIs; kernel_rfl
theorem opGn14_8 : opIs opGn14 8 (.move (.tmp 8)) (some 46) := by unfold opIs; kernel_rfl
theorem opGn14_9 : opIs opGn14 9 (.move (.tmp 8)) (some 47) := by unfold opIs; kernel_rfl
theorem opGn14_10 : opIs opGn14 10 (.call { callee := .value (.func 19), args := #[.tmp 44, .tmp 45, .tmp 46, .const (.int .i64 6), .tmp 47], argTypes := #[26, 3, 3, 3, 3] }) (some 48) := by unfold opIs; kernel_rfl
theorem opGn14_11 : opIs opGn14 11 (.binOp .neq 4 (.tmp 43) (.tmp 48) 4) (some 49) := by unfold opIs; kernel_rfl
theorem opGn14_12 : opIs opGn14 12 (.move (.tmp 49)) (some 50) := by unfold opIs; kernel_rfl
theorem opGn14_13 : opIsG opGn14 13 (12, false) (.move (.tmp 5)) (some 51) := by unfold opIsG; kernel_rfl
theorem opGn14_14 : opIsG opGn14 14 (12, false) (.move (.tmp 7)) (some 52) := by unfold opIsG; kernel_rfl
theorem opGn14_15 : opIsG opGn14 15 (12, false) (.indexAddr 30 (.tmp 51) (.tmp 52)) (some 53) := by unfold opIsG; kernel_rfl
theorem opGn14_16 : opIsG opGn14 16 (12, false) (.fieldAddr 48 (.tmp 53) 1) (some 54) := by unfold opIsG; kernel_rfl
theorem opGn14_17 : opIsG opGn14 17 (12, false) (.load 3 (.tmp 54)) (some 55) := by unfold opIsG; kernel_rfl
theorem opGn14_18 : opIsG opGn14 18 (12, false) (.binOp .eql 3 (.tmp 55) (.const (.int .i64 2)) 3) (some 56) := by unfold opIsG; kernel_rfl
theorem opGn14_19 : opIsG opGn14 19 (12, false) (.load 26 (.tmp 2)) (some 57) := by unfold opIsG; kernel_rfl
theorem opGn14_20 : opIsG opGn14 20 (12, false) (.move (.tmp 7)) (some 58) := by unfold opIsG; kernel_rfl
theorem opGn14_21 : opIsG opGn14 21 (12, false) (.move (.tmp 8)) (some 59) := by unfold opIsG; kernel_rfl
theorem opGn14_22 : opIsG opGn14 22 (12, false) (.move (.tmp 8)) (some 60) := by unfold opIsG; kernel_rfl
theorem opGn14_23 : opIsG opGn14 23 (12, false) (.move (.tmp 8)) (some 61) := by unfold opIsG; kernel_rfl
theorem opGn14_24 : opIsG opGn14 24 (12, false) (.call { callee := .value (.func 19), args := #[.tmp 57, .tmp 58, .tmp 59, .tmp 60, .tmp 61], argTypes := #[26, 3, 3, 3, 3] }) (some 62) := by unfold opIsG; kernel_rfl
theorem opGn14_25 : opIsG opGn14 25 (12, false) (.binOp .neq 4 (.tmp 56) (.tmp 62) 4) (some 63) := by unfold opIsG; kernel_rfl
theorem opGn14_26 : opIs opGn14 26 (.pick (.tmp 50) (.const (.bool true)) (.tmp 63)) (some 64) := by unfold opIs; kernel_rfl
set_option maxRecDepth 100000 in
set_option maxHeartbeats 4000000 in
theorem Gn14 {Q : Exit → Act → World → Prop} {W0 : World} {R0 : World → Prop} {R1 : World → Prop} {R2 : World → Prop} {q g i n cap : Nat} {w : World} {nm : ByteArray} {v0 v1 vl : Value} {sr mn : Int} {a0 : Act} (hi : i < n)
    (sz0 : a0.tmps.size = 110) (e2 : a0.eval (.tmp 2) = .pointer (some ⟨q, 0, none⟩)) (e5 : a0.eval (.tmp 5) = .slice (some ⟨g, 0, none⟩) n cap) (e7 : a0.eval (.tmp 7) = .int .i64 (i : Int)) (e8 : a0.eval (.tmp 8) = .int .i64 mn)
    (h0 : R0 W0.drew)
    (HS0 : ∀ Y, R0 Y → (fun Y : World => PB q w nm v0 v1 vl Y ∧ Y.cell? ⟨g, i * 3 + 1, none⟩ = some (.int .i64 sr)) Y)
    (HS1 : ∀ Y, R1 Y → (fun Y : World => PB q w nm v0 v1 vl Y ∧ Y.cell? ⟨g, i * 3 + 1, none⟩ = some (.int .i64 sr)) Y)
    (HS2 : ∀ Y, R2 Y → (fun Y : World => PB q w nm v0 v1 vl Y ∧ Y.cell? ⟨g, i * 3 + 1, none⟩ = some (.int .i64 sr)) Y)
    (HK0 : Hid (∀ Y, R0 Y → Calls Tryd.prog 19 #[.agg #[.string nm, v0, v1, vl], .int .i64 (i : Int), .int .i64 mn, .int .i64 6, .int .i64 mn] Y fun e w' => e = .returned (.bool (decide (0 < sr))) ∧ R1 w'))
    (HK1 : Hid (∀ Y, R1 Y → Calls Tryd.prog 19 #[.agg #[.string nm, v0, v1, vl], .int .i64 (i : Int), .int .i64 mn, .int .i64 mn, .int .i64 mn] Y fun e w' => e = .returned (.bool (sr == 2)) ∧ R2 w'))
    (HPN : ∀ c (a : Act) d v w, Q (.panic c) (a.put d v) w → Q (.panic c) a w)
    (H : ∀ Y, R2 Y → Q .normal (((((((((((((((((((((((((((a0.put (some 38) (.slice (some ⟨g, 0, none⟩) n cap)).put (some 39) (.int .i64 (i : Int))).put (some 40) (.pointer (some ⟨g, i * 3, none⟩))).put (some 41) (.pointer (some ⟨g, i * 3 + 1, none⟩))).put (some 42) (.int .i64 sr)).put (some 43) (.bool (decide (0 < sr)))).put (some 44) (.agg #[.string nm, v0, v1, vl])).put (some 45) (.int .i64 (i : Int))).put (some 46) (.int .i64 mn)).put (some 47) (.int .i64 mn)).put (some 48) (.bool (decide (0 < sr)))).put (some 49) (.bool false)).put (some 50) (.bool false)).put (some 51) (.slice (some ⟨g, 0, none⟩) n cap)).put (some 52) (.int .i64 (i : Int))).put (some 53) (.pointer (some ⟨g, i * 3, none⟩))).put (some 54) (.pointer (some ⟨g, i * 3 + 1, none⟩))).put (some 55) (.int .i64 sr)).put (some 56) (.bool (sr == 2))).put (some 57) (.agg #[.string nm, v0, v1, vl])).put (some 58) (.int .i64 (i : Int))).put (some 59) (.int .i64 mn)).put (some 60) (.int .i64 mn)).put (some 61) (.int .i64 mn)).put (some 62) (.bool (sr == 2))).put (some 63) (.bool false)).put (some 64) (.bool false)) Y) : Code.wp Tryd.prog rgGn14 Q a0 W0 := by
  rw [rgGn14_is]
  refine wp_region_held_drew (S := (fun Y : World => PB q w nm v0 v1 vl Y ∧ Y.cell? ⟨g, i * 3 + 1, none⟩ = some (.int .i64 sr))) (by kernel_rfl) (HS0 _ h0) (fun hH => ?_)
  refine wpAnyH_as (l' := #[false, false, false, false, false, false, false, false, false, false, false, false, false, false, false, false, false, false, false, false, false, false, false, false, false, false, false]) (by kernel_rfl) ?_
  have st0 := h0
  refine takeH (v := .slice (some ⟨g, 0, none⟩) n cap) opGn14_0 opGn14_ns (by kernel_rfl) (by kernel_rfl) HPN (fun w hw o ho => run_move ho e5 w) (HS0 _ h0) ?_
  refine wpAnyH_as (l' := #[true, false, false, false, false, false, false, false, false, false, false, false, false, false, false, false, false, false, false, false, false, false, false, false, false, false, false]) (by kernel_rfl) ?_
  obtain ⟨a1, ha1⟩ : ∃ a' : Act, a' = a0.put (some 38) (.slice (some ⟨g, 0, none⟩) n cap) := ⟨_, rfl⟩
  rw [← ha1]
  have sz1 : a1.tmps.size = 110 := by rw [ha1, size_put]; exact sz0
  have e1_2 : a1.eval (.tmp 2) = .pointer (some ⟨q, 0, none⟩) := by rw [ha1, eval_put_ne _ _ _ _ (by decide)]; exact e2
  have e1_5 : a1.eval (.tmp 5) = .slice (some ⟨g, 0, none⟩) n cap := by rw [ha1, eval_put_ne _ _ _ _ (by decide)]; exact e5
  have e1_7 : a1.eval (.tmp 7) = .int .i64 (i : Int) := by rw [ha1, eval_put_ne _ _ _ _ (by decide)]; exact e7
  have e1_8 : a1.eval (.tmp 8) = .int .i64 mn := by rw [ha1, eval_put_ne _ _ _ _ (by decide)]; exact e8
  have e1_38 : a1.eval (.tmp 38) = .slice (some ⟨g, 0, none⟩) n cap := by rw [ha1]; exact eval_put_eq _ _ _ (by rw [sz0]; decide)
  refine takeH (v := .int .i64 (i : Int)) opGn14_1 opGn14_ns (by kernel_rfl) (by kernel_rfl) HPN (fun w hw o ho => run_move ho e1_7 w) (HS0 _ h0) ?_
  refine wpAnyH_as (l' := #[true, true, false, false, false, false, false, false, false, false, false, false, false, false, false, false, false, false, false, false, false, false, false, false, false, false, false]) (by kernel_rfl) ?_
  obtain ⟨a2, ha2⟩ : ∃ a' : Act, a' = a1.put (some 39) (.int .i64 (i : Int)) := ⟨_, rfl⟩
  rw [← ha2]
  have sz2 : a2.tmps.size = 110 := by rw [ha2, size_put]; exact sz1
  have e2_2 : a2.eval (.tmp 2) = .pointer (some ⟨q, 0, none⟩) := by rw [ha2, eval_put_ne _ _ _ _ (by decide)]; exact e1_2
  have e2_5 : a2.eval (.tmp 5) = .slice (some ⟨g, 0, none⟩) n cap := by rw [ha2, eval_put_ne _ _ _ _ (by decide)]; exact e1_5
  have e2_7 : a2.eval (.tmp 7) = .int .i64 (i : Int) := by rw [ha2, eval_put_ne _ _ _ _ (by decide)]; exact e1_7
  have e2_8 : a2.eval (.tmp 8) = .int .i64 mn := by rw [ha2, eval_put_ne _ _ _ _ (by decide)]; exact e1_8
  have e2_38 : a2.eval (.tmp 38) = .slice (some ⟨g, 0, none⟩) n cap := by rw [ha2, eval_put_ne _ _ _ _ (by decide)]; exact e1_38
  have e2_39 : a2.eval (.tmp 39) = .int .i64 (i : Int) := by rw [ha2]; exact eval_put_eq _ _ _ (by rw [sz1]; decide)
  refine takeH (v := .pointer (some ⟨g, i * 3, none⟩)) opGn14_2 opGn14_ns (by kernel_rfl) (by kernel_rfl) HPN (fun w hw o ho => run_ixG hi ho e2_38 e2_39 w) (HS0 _ h0) ?_
  refine wpAnyH_as (l' := #[true, true, true, false, false, false, false, false, false, false, false, false, false, false, false, false, false, false, false, false, false, false, false, false, false, false, false]) (by kernel_rfl) ?_
  obtain ⟨a3, ha3⟩ : ∃ a' : Act, a' = a2.put (some 40) (.pointer (some ⟨g, i * 3, none⟩)) := ⟨_, rfl⟩
  rw [← ha3]
  have sz3 : a3.tmps.size = 110 := by rw [ha3, size_put]; exact sz2
  have e3_2 : a3.eval (.tmp 2) = .pointer (some ⟨q, 0, none⟩) := by rw [ha3, eval_put_ne _ _ _ _ (by decide)]; exact e2_2
  have e3_5 : a3.eval (.tmp 5) = .slice (some ⟨g, 0, none⟩) n cap := by rw [ha3, eval_put_ne _ _ _ _ (by decide)]; exact e2_5
  have e3_7 : a3.eval (.tmp 7) = .int .i64 (i : Int) := by rw [ha3, eval_put_ne _ _ _ _ (by decide)]; exact e2_7
  have e3_8 : a3.eval (.tmp 8) = .int .i64 mn := by rw [ha3, eval_put_ne _ _ _ _ (by decide)]; exact e2_8
  have e3_40 : a3.eval (.tmp 40) = .pointer (some ⟨g, i * 3, none⟩) := by rw [ha3]; exact eval_put_eq _ _ _ (by rw [sz2]; decide)
  refine takeH (v := .pointer (some ⟨g, i * 3 + 1, none⟩)) opGn14_3 opGn14_ns (by kernel_rfl) (by kernel_rfl) HPN (fun w hw o ho => run_fG1 ho e3_40 w) (HS0 _ h0) ?_
  refine wpAnyH_as (l' := #[true, true, true, true, false, false, false, false, false, false, false, false, false, false, false, false, false, false, false, false, false, false, false, false, false, false, false]) (by kernel_rfl) ?_
  obtain ⟨a4, ha4⟩ : ∃ a' : Act, a' = a3.put (some 41) (.pointer (some ⟨g, i * 3 + 1, none⟩)) := ⟨_, rfl⟩
  rw [← ha4]
  have sz4 : a4.tmps.size = 110 := by rw [ha4, size_put]; exact sz3
  have e4_2 : a4.eval (.tmp 2) = .pointer (some ⟨q, 0, none⟩) := by rw [ha4, eval_put_ne _ _ _ _ (by decide)]; exact e3_2
  have e4_5 : a4.eval (.tmp 5) = .slice (some ⟨g, 0, none⟩) n cap := by rw [ha4, eval_put_ne _ _ _ _ (by decide)]; exact e3_5
  have e4_7 : a4.eval (.tmp 7) = .int .i64 (i : Int) := by rw [ha4, eval_put_ne _ _ _ _ (by decide)]; exact e3_7
  have e4_8 : a4.eval (.tmp 8) = .int .i64 mn := by rw [ha4, eval_put_ne _ _ _ _ (by decide)]; exact e3_8
  have e4_41 : a4.eval (.tmp 41) = .pointer (some ⟨g, i * 3 + 1, none⟩) := by rw [ha4]; exact eval_put_eq _ _ _ (by rw [sz3]; decide)
  refine takeH (v := .int .i64 sr) opGn14_4 opGn14_ns (by kernel_rfl) (by kernel_rfl) HPN (fun w hw o ho => run_ldI ho e4_41 w hw.2) (HS0 _ h0) ?_
  refine wpAnyH_as (l' := #[true, true, true, true, true, false, false, false, false, false, false, false, false, false, false, false, false, false, false, false, false, false, false, false, false, false, false]) (by kernel_rfl) ?_
  obtain ⟨a5, ha5⟩ : ∃ a' : Act, a' = a4.put (some 42) (.int .i64 sr) := ⟨_, rfl⟩
  rw [← ha5]
  have sz5 : a5.tmps.size = 110 := by rw [ha5, size_put]; exact sz4
  have e5_2 : a5.eval (.tmp 2) = .pointer (some ⟨q, 0, none⟩) := by rw [ha5, eval_put_ne _ _ _ _ (by decide)]; exact e4_2
  have e5_5 : a5.eval (.tmp 5) = .slice (some ⟨g, 0, none⟩) n cap := by rw [ha5, eval_put_ne _ _ _ _ (by decide)]; exact e4_5
  have e5_7 : a5.eval (.tmp 7) = .int .i64 (i : Int) := by rw [ha5, eval_put_ne _ _ _ _ (by decide)]; exact e4_7
  have e5_8 : a5.eval (.tmp 8) = .int .i64 mn := by rw [ha5, eval_put_ne _ _ _ _ (by decide)]; exact e4_8
  have e5_42 : a5.eval (.tmp 42) = .int .i64 sr := by rw [ha5]; exact eval_put_eq _ _ _ (by rw [sz4]; decide)
  refine takeH (v := .bool (decide (0 < sr))) opGn14_5 opGn14_ns (by kernel_rfl) (by kernel_rfl) HPN (fun w hw o ho => run_gt0 ho e5_42 w) (HS0 _ h0) ?_
  refine wpAnyH_as (l' := #[true, true, true, true, true, true, false, false, false, false, false, false, false, false, false, false, false, false, false, false, false, false, false, false, false, false, false]) (by kernel_rfl) ?_
  obtain ⟨a6, ha6⟩ : ∃ a' : Act, a' = a5.put (some 43) (.bool (decide (0 < sr))) := ⟨_, rfl⟩
  rw [← ha6]
  have sz6 : a6.tmps.size = 110 := by rw [ha6, size_put]; exact sz5
  have e6_2 : a6.eval (.tmp 2) = .pointer (some ⟨q, 0, none⟩) := by rw [ha6, eval_put_ne _ _ _ _ (by decide)]; exact e5_2
  have e6_5 : a6.eval (.tmp 5) = .slice (some ⟨g, 0, none⟩) n cap := by rw [ha6, eval_put_ne _ _ _ _ (by decide)]; exact e5_5
  have e6_7 : a6.eval (.tmp 7) = .int .i64 (i : Int) := by rw [ha6, eval_put_ne _ _ _ _ (by decide)]; exact e5_7
  have e6_8 : a6.eval (.tmp 8) = .int .i64 mn := by rw [ha6, eval_put_ne _ _ _ _ (by decide)]; exact e5_8
  have e6_43 : a6.eval (.tmp 43) = .bool (decide (0 < sr)) := by rw [ha6]; exact eval_put_eq _ _ _ (by rw [sz5]; decide)
  refine takeH (v := .agg #[.string nm, v0, v1, vl]) opGn14_6 opGn14_ns (by kernel_rfl) (by kernel_rfl) HPN (fun w hw o ho => run_ldP ho e6_2 w hw.1.row) (HS0 _ h0) ?_
  refine wpAnyH_as (l' := #[true, true, true, true, true, true, true, false, false, false, false, false, false, false, false, false, false, false, false, false, false, false, false, false, false, false, false]) (by kernel_rfl) ?_
  obtain ⟨a7, ha7⟩ : ∃ a' : Act, a' = a6.put (some 44) (.agg #[.string nm, v0, v1, vl]) := ⟨_, rfl⟩
  rw [← ha7]
  have sz7 : a7.tmps.size = 110 := by rw [ha7, size_put]; exact sz6
  have e7_2 : a7.eval (.tmp 2) = .pointer (some ⟨q, 0, none⟩) := by rw [ha7, eval_put_ne _ _ _ _ (by decide)]; exact e6_2
  have e7_5 : a7.eval (.tmp 5) = .slice (some ⟨g, 0, none⟩) n cap := by rw [ha7, eval_put_ne _ _ _ _ (by decide)]; exact e6_5
  have e7_7 : a7.eval (.tmp 7) = .int .i64 (i : Int) := by rw [ha7, eval_put_ne _ _ _ _ (by decide)]; exact e6_7
  have e7_8 : a7.eval (.tmp 8) = .int .i64 mn := by rw [ha7, eval_put_ne _ _ _ _ (by decide)]; exact e6_8
  have e7_43 : a7.eval (.tmp 43) = .bool (decide (0 < sr)) := by rw [ha7, eval_put_ne _ _ _ _ (by decide)]; exact e6_43
  have e7_44 : a7.eval (.tmp 44) = .agg #[.string nm, v0, v1, vl] := by rw [ha7]; exact eval_put_eq _ _ _ (by rw [sz6]; decide)
  refine takeH (v := .int .i64 (i : Int)) opGn14_7 opGn14_ns (by kernel_rfl) (by kernel_rfl) HPN (fun w hw o ho => run_move ho e7_7 w) (HS0 _ h0) ?_
  refine wpAnyH_as (l' := #[true, true, true, true, true, true, true, true, false, false, false, false, false, false, false, false, false, false, false, false, false, false, false, false, false, false, false]) (by kernel_rfl) ?_
  obtain ⟨a8, ha8⟩ : ∃ a' : Act, a' = a7.put (some 45) (.int .i64 (i : Int)) := ⟨_, rfl⟩
  rw [← ha8]
  have sz8 : a8.tmps.size = 110 := by rw [ha8, size_put]; exact sz7
  have e8_2 : a8.eval (.tmp 2) = .pointer (some ⟨q, 0, none⟩) := by rw [ha8, eval_put_ne _ _ _ _ (by decide)]; exact e7_2
  have e8_5 : a8.eval (.tmp 5) = .slice (some ⟨g, 0, none⟩) n cap := by rw [ha8, eval_put_ne _ _ _ _ (by decide)]; exact e7_5
  have e8_7 : a8.eval (.tmp 7) = .int .i64 (i : Int) := by rw [ha8, eval_put_ne _ _ _ _ (by decide)]; exact e7_7
  have e8_8 : a8.eval (.tmp 8) = .int .i64 mn := by rw [ha8, eval_put_ne _ _ _ _ (by decide)]; exact e7_8
  have e8_43 : a8.eval (.tmp 43) = .bool (decide (0 < sr)) := by rw [ha8, eval_put_ne _ _ _ _ (by decide)]; exact e7_43
  have e8_44 : a8.eval (.tmp 44) = .agg #[.string nm, v0, v1, vl] := by rw [ha8, eval_put_ne _ _ _ _ (by decide)]; exact e7_44
  have e8_45 : a8.eval (.tmp 45) = .int .i64 (i : Int) := by rw [ha8]; exact eval_put_eq _ _ _ (by rw [sz7]; decide)
  refine takeH (v := .int .i64 mn) opGn14_8 opGn14_ns (by kernel_rfl) (by kernel_rfl) HPN (fun w hw o ho => run_move ho e8_8 w) (HS0 _ h0) ?_
  refine wpAnyH_as (l' := #[true, true, true, true, true, true, true, true, true, false, false, false, false, false, false, false, false, false, false, false, false, false, false, false, false, false, false]) (by kernel_rfl) ?_
  obtain ⟨a9, ha9⟩ : ∃ a' : Act, a' = a8.put (some 46) (.int .i64 mn) := ⟨_, rfl⟩
  rw [← ha9]
  have sz9 : a9.tmps.size = 110 := by rw [ha9, size_put]; exact sz8
  have e9_2 : a9.eval (.tmp 2) = .pointer (some ⟨q, 0, none⟩) := by rw [ha9, eval_put_ne _ _ _ _ (by decide)]; exact e8_2
  have e9_5 : a9.eval (.tmp 5) = .slice (some ⟨g, 0, none⟩) n cap := by rw [ha9, eval_put_ne _ _ _ _ (by decide)]; exact e8_5
  have e9_7 : a9.eval (.tmp 7) = .int .i64 (i : Int) := by rw [ha9, eval_put_ne _ _ _ _ (by decide)]; exact e8_7
  have e9_8 : a9.eval (.tmp 8) = .int .i64 mn := by rw [ha9, eval_put_ne _ _ _ _ (by decide)]; exact e8_8
  have e9_43 : a9.eval (.tmp 43) = .bool (decide (0 < sr)) := by rw [ha9, eval_put_ne _ _ _ _ (by decide)]; exact e8_43
  have e9_44 : a9.eval (.tmp 44) = .agg #[.string nm, v0, v1, vl] := by rw [ha9, eval_put_ne _ _ _ _ (by decide)]; exact e8_44
  have e9_45 : a9.eval (.tmp 45) = .int .i64 (i : Int) := by rw [ha9, eval_put_ne _ _ _ _ (by decide)]; exact e8_45
  have e9_46 : a9.eval (.tmp 46) = .int .i64 mn := by rw [ha9]; exact eval_put_eq _ _ _ (by rw [sz8]; decide)
  refine takeH (v := .int .i64 mn) opGn14_9 opGn14_ns (by kernel_rfl) (by kernel_rfl) HPN (fun w hw o ho => run_move ho e9_8 w) (HS0 _ h0) ?_
  refine wpAnyH_as (l' := #[true, true, true, true, true, true, true, true, true, true, false, false, false, false, false, false, false, false, false, false, false, false, false, false, false, false, false]) (by kernel_rfl) ?_
  obtain ⟨a10, ha10⟩ : ∃ a' : Act, a' = a9.put (some 47) (.int .i64 mn) := ⟨_, rfl⟩
  rw [← ha10]
  have sz10 : a10.tmps.size = 110 := by rw [ha10, size_put]; exact sz9
  have e10_2 : a10.eval (.tmp 2) = .pointer (some ⟨q, 0, none⟩) := by rw [ha10, eval_put_ne _ _ _ _ (by decide)]; exact e9_2
  have e10_5 : a10.eval (.tmp 5) = .slice (some ⟨g, 0, none⟩) n cap := by rw [ha10, eval_put_ne _ _ _ _ (by decide)]; exact e9_5
  have e10_7 : a10.eval (.tmp 7) = .int .i64 (i : Int) := by rw [ha10, eval_put_ne _ _ _ _ (by decide)]; exact e9_7
  have e10_8 : a10.eval (.tmp 8) = .int .i64 mn := by rw [ha10, eval_put_ne _ _ _ _ (by decide)]; exact e9_8
  have e10_43 : a10.eval (.tmp 43) = .bool (decide (0 < sr)) := by rw [ha10, eval_put_ne _ _ _ _ (by decide)]; exact e9_43
  have e10_44 : a10.eval (.tmp 44) = .agg #[.string nm, v0, v1, vl] := by rw [ha10, eval_put_ne _ _ _ _ (by decide)]; exact e9_44
  have e10_45 : a10.eval (.tmp 45) = .int .i64 (i : Int) := by rw [ha10, eval_put_ne _ _ _ _ (by decide)]; exact e9_45
  have e10_46 : a10.eval (.tmp 46) = .int .i64 mn := by rw [ha10, eval_put_ne _ _ _ _ (by decide)]; exact e9_46
  have e10_47 : a10.eval (.tmp 47) = .int .i64 mn := by rw [ha10]; exact eval_put_eq _ _ _ (by rw [sz9]; decide)
  refine readyH opGn14_10 (by kernel_rfl) (fun o ho hd => wpCall (v := .bool (decide (0 < sr))) ho hd (args := #[.agg #[.string nm, v0, v1, vl], .int .i64 (i : Int), .int .i64 mn, .int .i64 6, .int .i64 mn]) (by simp only [List.map_toArray, List.map_cons, List.map_nil, e10_44, e10_45, e10_46, e10_47] <;> rfl) (fun _ => rfl) (HK0.out  _ st0) (fun w11 st11 => ⟨(HS1  _ st11), ?_⟩))
  refine wpAnyH_as (l' := #[true, true, true, true, true, true, true, true, true, true, true, false, false, false, false, false, false, false, false, false, false, false, false, false, false, false, false]) (by kernel_rfl) ?_
  obtain ⟨a11, ha11⟩ : ∃ a' : Act, a' = a10.put (some 48) (.bool (decide (0 < sr))) := ⟨_, rfl⟩
  rw [← ha11]
  have sz11 : a11.tmps.size = 110 := by rw [ha11, size_put]; exact sz10
  have e11_2 : a11.eval (.tmp 2) = .pointer (some ⟨q, 0, none⟩) := by rw [ha11, eval_put_ne _ _ _ _ (by decide)]; exact e10_2
  have e11_5 : a11.eval (.tmp 5) = .slice (some ⟨g, 0, none⟩) n cap := by rw [ha11, eval_put_ne _ _ _ _ (by decide)]; exact e10_5
  have e11_7 : a11.eval (.tmp 7) = .int .i64 (i : Int) := by rw [ha11, eval_put_ne _ _ _ _ (by decide)]; exact e10_7
  have e11_8 : a11.eval (.tmp 8) = .int .i64 mn := by rw [ha11, eval_put_ne _ _ _ _ (by decide)]; exact e10_8
  have e11_43 : a11.eval (.tmp 43) = .bool (decide (0 < sr)) := by rw [ha11, eval_put_ne _ _ _ _ (by decide)]; exact e10_43
  have e11_48 : a11.eval (.tmp 48) = .bool (decide (0 < sr)) := by rw [ha11]; exact eval_put_eq _ _ _ (by rw [sz10]; decide)
  refine takeH (v := .bool false) opGn14_11 opGn14_ns (by kernel_rfl) (by kernel_rfl) HPN (fun w hw o ho => run_nbs ho e11_43 e11_48 w) (HS1  _ st11) ?_
  refine wpAnyH_as (l' := #[true, true, true, true, true, true, true, true, true, true, true, true, false, false, false, false, false, false, false, false, false, false, false, false, false, false, false]) (by kernel_rfl) ?_
  obtain ⟨a12, ha12⟩ : ∃ a' : Act, a' = a11.put (some 49) (.bool false) := ⟨_, rfl⟩
  rw [← ha12]
  have sz12 : a12.tmps.size = 110 := by rw [ha12, size_put]; exact sz11
  have e12_2 : a12.eval (.tmp 2) = .pointer (some ⟨q, 0, none⟩) := by rw [ha12, eval_put_ne _ _ _ _ (by decide)]; exact e11_2
  have e12_5 : a12.eval (.tmp 5) = .slice (some ⟨g, 0, none⟩) n cap := by rw [ha12, eval_put_ne _ _ _ _ (by decide)]; exact e11_5
  have e12_7 : a12.eval (.tmp 7) = .int .i64 (i : Int) := by rw [ha12, eval_put_ne _ _ _ _ (by decide)]; exact e11_7
  have e12_8 : a12.eval (.tmp 8) = .int .i64 mn := by rw [ha12, eval_put_ne _ _ _ _ (by decide)]; exact e11_8
  have e12_49 : a12.eval (.tmp 49) = .bool false := by rw [ha12]; exact eval_put_eq _ _ _ (by rw [sz11]; decide)
  refine takeH (v := .bool false) opGn14_12 opGn14_ns (by kernel_rfl) (by kernel_rfl) HPN (fun w hw o ho => run_move ho e12_49 w) (HS1  _ st11) ?_
  refine wpAnyH_as (l' := #[true, true, true, true, true, true, true, true, true, true, true, true, true, false, false, false, false, false, false, false, false, false, false, false, false, false, false]) (by kernel_rfl) ?_
  obtain ⟨a13, ha13⟩ : ∃ a' : Act, a' = a12.put (some 50) (.bool false) := ⟨_, rfl⟩
  rw [← ha13]
  have sz13 : a13.tmps.size = 110 := by rw [ha13, size_put]; exact sz12
  have e13_2 : a13.eval (.tmp 2) = .pointer (some ⟨q, 0, none⟩) := by rw [ha13, eval_put_ne _ _ _ _ (by decide)]; exact e12_2
  have e13_5 : a13.eval (.tmp 5) = .slice (some ⟨g, 0, none⟩) n cap := by rw [ha13, eval_put_ne _ _ _ _ (by decide)]; exact e12_5
  have e13_7 : a13.eval (.tmp 7) = .int .i64 (i : Int) := by rw [ha13, eval_put_ne _ _ _ _ (by decide)]; exact e12_7
  have e13_8 : a13.eval (.tmp 8) = .int .i64 mn := by rw [ha13, eval_put_ne _ _ _ _ (by decide)]; exact e12_8
  have e13_50 : a13.eval (.tmp 50) = .bool false := by rw [ha13]; exact eval_put_eq _ _ _ (by rw [sz12]; decide)
  refine takeHF (v := .slice (some ⟨g, 0, none⟩) n cap) opGn14_13 opGn14_ns (by kernel_rfl) (by kernel_rfl) (wanted_gf (ops := opGn14) (j := 12) (d := 50) (by kernel_rfl) e13_50 (by rw [sz13]; decide)) HPN (fun w hw o ho => run_move ho e13_5 w) (HS1  _ st11) ?_
  refine wpAnyH_as (l' := #[true, true, true, true, true, true, true, true, true, true, true, true, true, true, false, false, false, false, false, false, false, false, false, false, false, false, false]) (by kernel_rfl) ?_
  obtain ⟨a14, ha14⟩ : ∃ a' : Act, a' = a13.put (some 51) (.slice (some ⟨g, 0, none⟩) n cap) := ⟨_, rfl⟩
  rw [← ha14]
  have sz14 : a14.tmps.size = 110 := by rw [ha14, size_put]; exact sz13
  have e14_2 : a14.eval (.tmp 2) = .pointer (some ⟨q, 0, none⟩) := by rw [ha14, eval_put_ne _ _ _ _ (by decide)]; exact e13_2
  have e14_7 : a14.eval (.tmp 7) = .int .i64 (i : Int) := by rw [ha14, eval_put_ne _ _ _ _ (by decide)]; exact e13_7
  have e14_8 : a14.eval (.tmp 8) = .int .i64 mn := by rw [ha14, eval_put_ne _ _ _ _ (by decide)]; exact e13_8
  have e14_50 : a14.eval (.tmp 50) = .bool false := by rw [ha14, eval_put_ne _ _ _ _ (by decide)]; exact e13_50
  have e14_51 : a14.eval (.tmp 51) = .slice (some ⟨g, 0, none⟩) n cap := by rw [ha14]; exact eval_put_eq _ _ _ (by rw [sz13]; decide)
  refine takeHF (v := .int .i64 (i : Int)) opGn14_14 opGn14_ns (by kernel_rfl) (by kernel_rfl) (wanted_gf (ops := opGn14) (j := 12) (d := 50) (by kernel_rfl) e14_50 (by rw [sz14]; decide)) HPN (fun w hw o ho => run_move ho e14_7 w) (HS1  _ st11) ?_
  refine wpAnyH_as (l' := #[true, true, true, true, true, true, true, true, true, true, true, true, true, true, true, false, false, false, false, false, false, false, false, false, false, false, false]) (by kernel_rfl) ?_
  obtain ⟨a15, ha15⟩ : ∃ a' : Act, a' = a14.put (some 52) (.int .i64 (i : Int)) := ⟨_, rfl⟩
  rw [← ha15]
  have sz15 : a15.tmps.size = 110 := by rw [ha15, size_put]; exact sz14
  have e15_2 : a15.eval (.tmp 2) = .pointer (some ⟨q, 0, none⟩) := by rw [ha15, eval_put_ne _ _ _ _ (by decide)]; exact e14_2
  have e15_7 : a15.eval (.tmp 7) = .int .i64 (i : Int) := by rw [ha15, eval_put_ne _ _ _ _ (by decide)]; exact e14_7
  have e15_8 : a15.eval (.tmp 8) = .int .i64 mn := by rw [ha15, eval_put_ne _ _ _ _ (by decide)]; exact e14_8
  have e15_50 : a15.eval (.tmp 50) = .bool false := by rw [ha15, eval_put_ne _ _ _ _ (by decide)]; exact e14_50
  have e15_51 : a15.eval (.tmp 51) = .slice (some ⟨g, 0, none⟩) n cap := by rw [ha15, eval_put_ne _ _ _ _ (by decide)]; exact e14_51
  have e15_52 : a15.eval (.tmp 52) = .int .i64 (i : Int) := by rw [ha15]; exact eval_put_eq _ _ _ (by rw [sz14]; decide)
  refine takeHF (v := .pointer (some ⟨g, i * 3, none⟩)) opGn14_15 opGn14_ns (by kernel_rfl) (by kernel_rfl) (wanted_gf (ops := opGn14) (j := 12) (d := 50) (by kernel_rfl) e15_50 (by rw [sz15]; decide)) HPN (fun w hw o ho => run_ixG hi ho e15_51 e15_52 w) (HS1  _ st11) ?_
  refine wpAnyH_as (l' := #[true, true, true, true, true, true, true, true, true, true, true, true, true, true, true, true, false, false, false, false, false, false, false, false, false, false, false]) (by kernel_rfl) ?_
  obtain ⟨a16, ha16⟩ : ∃ a' : Act, a' = a15.put (some 53) (.pointer (some ⟨g, i * 3, none⟩)) := ⟨_, rfl⟩
  rw [← ha16]
  have sz16 : a16.tmps.size = 110 := by rw [ha16, size_put]; exact sz15
  have e16_2 : a16.eval (.tmp 2) = .pointer (some ⟨q, 0, none⟩) := by rw [ha16, eval_put_ne _ _ _ _ (by decide)]; exact e15_2
  have e16_7 : a16.eval (.tmp 7) = .int .i64 (i : Int) := by rw [ha16, eval_put_ne _ _ _ _ (by decide)]; exact e15_7
  have e16_8 : a16.eval (.tmp 8) = .int .i64 mn := by rw [ha16, eval_put_ne _ _ _ _ (by decide)]; exact e15_8
  have e16_50 : a16.eval (.tmp 50) = .bool false := by rw [ha16, eval_put_ne _ _ _ _ (by decide)]; exact e15_50
  have e16_53 : a16.eval (.tmp 53) = .pointer (some ⟨g, i * 3, none⟩) := by rw [ha16]; exact eval_put_eq _ _ _ (by rw [sz15]; decide)
  refine takeHF (v := .pointer (some ⟨g, i * 3 + 1, none⟩)) opGn14_16 opGn14_ns (by kernel_rfl) (by kernel_rfl) (wanted_gf (ops := opGn14) (j := 12) (d := 50) (by kernel_rfl) e16_50 (by rw [sz16]; decide)) HPN (fun w hw o ho => run_fG1 ho e16_53 w) (HS1  _ st11) ?_
  refine wpAnyH_as (l' := #[true, true, true, true, true, true, true, true, true, true, true, true, true, true, true, true, true, false, false, false, false, false, false, false, false, false, false]) (by kernel_rfl) ?_
  obtain ⟨a17, ha17⟩ : ∃ a' : Act, a' = a16.put (some 54) (.pointer (some ⟨g, i * 3 + 1, none⟩)) := ⟨_, rfl⟩
  rw [← ha17]
  have sz17 : a17.tmps.size = 110 := by rw [ha17, size_put]; exact sz16
  have e17_2 : a17.eval (.tmp 2) = .pointer (some ⟨q, 0, none⟩) := by rw [ha17, eval_put_ne _ _ _ _ (by decide)]; exact e16_2
  have e17_7 : a17.eval (.tmp 7) = .int .i64 (i : Int) := by rw [ha17, eval_put_ne _ _ _ _ (by decide)]; exact e16_7
  have e17_8 : a17.eval (.tmp 8) = .int .i64 mn := by rw [ha17, eval_put_ne _ _ _ _ (by decide)]; exact e16_8
  have e17_50 : a17.eval (.tmp 50) = .bool false := by rw [ha17, eval_put_ne _ _ _ _ (by decide)]; exact e16_50
  have e17_54 : a17.eval (.tmp 54) = .pointer (some ⟨g, i * 3 + 1, none⟩) := by rw [ha17]; exact eval_put_eq _ _ _ (by rw [sz16]; decide)
  refine takeHF (v := .int .i64 sr) opGn14_17 opGn14_ns (by kernel_rfl) (by kernel_rfl) (wanted_gf (ops := opGn14) (j := 12) (d := 50) (by kernel_rfl) e17_50 (by rw [sz17]; decide)) HPN (fun w hw o ho => run_ldI ho e17_54 w hw.2) (HS1  _ st11) ?_
  refine wpAnyH_as (l' := #[true, true, true, true, true, true, true, true, true, true, true, true, true, true, true, true, true, true, false, false, false, false, false, false, false, false, false]) (by kernel_rfl) ?_
  obtain ⟨a18, ha18⟩ : ∃ a' : Act, a' = a17.put (some 55) (.int .i64 sr) := ⟨_, rfl⟩
  rw [← ha18]
  have sz18 : a18.tmps.size = 110 := by rw [ha18, size_put]; exact sz17
  have e18_2 : a18.eval (.tmp 2) = .pointer (some ⟨q, 0, none⟩) := by rw [ha18, eval_put_ne _ _ _ _ (by decide)]; exact e17_2
  have e18_7 : a18.eval (.tmp 7) = .int .i64 (i : Int) := by rw [ha18, eval_put_ne _ _ _ _ (by decide)]; exact e17_7
  have e18_8 : a18.eval (.tmp 8) = .int .i64 mn := by rw [ha18, eval_put_ne _ _ _ _ (by decide)]; exact e17_8
  have e18_50 : a18.eval (.tmp 50) = .bool false := by rw [ha18, eval_put_ne _ _ _ _ (by decide)]; exact e17_50
  have e18_55 : a18.eval (.tmp 55) = .int .i64 sr := by rw [ha18]; exact eval_put_eq _ _ _ (by rw [sz17]; decide)
  refine takeHF (v := .bool (sr == 2)) opGn14_18 opGn14_ns (by kernel_rfl) (by kernel_rfl) (wanted_gf (ops := opGn14) (j := 12) (d := 50) (by kernel_rfl) e18_50 (by rw [sz18]; decide)) HPN (fun w hw o ho => run_eq2 ho e18_55 w) (HS1  _ st11) ?_
  refine wpAnyH_as (l' := #[true, true, true, true, true, true, true, true, true, true, true, true, true, true, true, true, true, true, true, false, false, false, false, false, false, false, false]) (by kernel_rfl) ?_
  obtain ⟨a19, ha19⟩ : ∃ a' : Act, a' = a18.put (some 56) (.bool (sr == 2)) := ⟨_, rfl⟩
  rw [← ha19]
  have sz19 : a19.tmps.size = 110 := by rw [ha19, size_put]; exact sz18
  have e19_2 : a19.eval (.tmp 2) = .pointer (some ⟨q, 0, none⟩) := by rw [ha19, eval_put_ne _ _ _ _ (by decide)]; exact e18_2
  have e19_7 : a19.eval (.tmp 7) = .int .i64 (i : Int) := by rw [ha19, eval_put_ne _ _ _ _ (by decide)]; exact e18_7
  have e19_8 : a19.eval (.tmp 8) = .int .i64 mn := by rw [ha19, eval_put_ne _ _ _ _ (by decide)]; exact e18_8
  have e19_50 : a19.eval (.tmp 50) = .bool false := by rw [ha19, eval_put_ne _ _ _ _ (by decide)]; exact e18_50
  have e19_56 : a19.eval (.tmp 56) = .bool (sr == 2) := by rw [ha19]; exact eval_put_eq _ _ _ (by rw [sz18]; decide)
  refine takeHF (v := .agg #[.string nm, v0, v1, vl]) opGn14_19 opGn14_ns (by kernel_rfl) (by kernel_rfl) (wanted_gf (ops := opGn14) (j := 12) (d := 50) (by kernel_rfl) e19_50 (by rw [sz19]; decide)) HPN (fun w hw o ho => run_ldP ho e19_2 w hw.1.row) (HS1  _ st11) ?_
  refine wpAnyH_as (l' := #[true, true, true, true, true, true, true, true, true, true, true, true, true, true, true, true, true, true, true, true, false, false, false, false, false, false, false]) (by kernel_rfl) ?_
  obtain ⟨a20, ha20⟩ : ∃ a' : Act, a' = a19.put (some 57) (.agg #[.string nm, v0, v1, vl]) := ⟨_, rfl⟩
  rw [← ha20]
  have sz20 : a20.tmps.size = 110 := by rw [ha20, size_put]; exact sz19
  have e20_7 : a20.eval (.tmp 7) = .int .i64 (i : Int) := by rw [ha20, eval_put_ne _ _ _ _ (by decide)]; exact e19_7
  have e20_8 : a20.eval (.tmp 8) = .int .i64 mn := by rw [ha20, eval_put_ne _ _ _ _ (by decide)]; exact e19_8
  have e20_50 : a20.eval (.tmp 50) = .bool false := by rw [ha20, eval_put_ne _ _ _ _ (by decide)]; exact e19_50
  have e20_56 : a20.eval (.tmp 56) = .bool (sr == 2) := by rw [ha20, eval_put_ne _ _ _ _ (by decide)]; exact e19_56
  have e20_57 : a20.eval (.tmp 57) = .agg #[.string nm, v0, v1, vl] := by rw [ha20]; exact eval_put_eq _ _ _ (by rw [sz19]; decide)
  refine takeHF (v := .int .i64 (i : Int)) opGn14_20 opGn14_ns (by kernel_rfl) (by kernel_rfl) (wanted_gf (ops := opGn14) (j := 12) (d := 50) (by kernel_rfl) e20_50 (by rw [sz20]; decide)) HPN (fun w hw o ho => run_move ho e20_7 w) (HS1  _ st11) ?_
  refine wpAnyH_as (l' := #[true, true, true, true, true, true, true, true, true, true, true, true, true, true, true, true, true, true, true, true, true, false, false, false, false, false, false]) (by kernel_rfl) ?_
  obtain ⟨a21, ha21⟩ : ∃ a' : Act, a' = a20.put (some 58) (.int .i64 (i : Int)) := ⟨_, rfl⟩
  rw [← ha21]
  have sz21 : a21.tmps.size = 110 := by rw [ha21, size_put]; exact sz20
  have e21_8 : a21.eval (.tmp 8) = .int .i64 mn := by rw [ha21, eval_put_ne _ _ _ _ (by decide)]; exact e20_8
  have e21_50 : a21.eval (.tmp 50) = .bool false := by rw [ha21, eval_put_ne _ _ _ _ (by decide)]; exact e20_50
  have e21_56 : a21.eval (.tmp 56) = .bool (sr == 2) := by rw [ha21, eval_put_ne _ _ _ _ (by decide)]; exact e20_56
  have e21_57 : a21.eval (.tmp 57) = .agg #[.string nm, v0, v1, vl] := by rw [ha21, eval_put_ne _ _ _ _ (by decide)]; exact e20_57
  have e21_58 : a21.eval (.tmp 58) = .int .i64 (i : Int) := by rw [ha21]; exact eval_put_eq _ _ _ (by rw [sz20]; decide)
  refine takeHF (v := .int .i64 mn) opGn14_21 opGn14_ns (by kernel_rfl) (by kernel_rfl) (wanted_gf (ops := opGn14) (j := 12) (d := 50) (by kernel_rfl) e21_50 (by rw [sz21]; decide)) HPN (fun w hw o ho => run_move ho e21_8 w) (HS1  _ st11) ?_
  refine wpAnyH_as (l' := #[true, true, true, true, true, true, true, true, true, true, true, true, true, true, true, true, true, true, true, true, true, true, false, false, false, false, false]) (by kernel_rfl) ?_
  obtain ⟨a22, ha22⟩ : ∃ a' : Act, a' = a21.put (some 59) (.int .i64 mn) := ⟨_, rfl⟩
  rw [← ha22]
  have sz22 : a22.tmps.size = 110 := by rw [ha22, size_put]; exact sz21
  have e22_8 : a22.eval (.tmp 8) = .int .i64 mn := by rw [ha22, eval_put_ne _ _ _ _ (by decide)]; exact e21_8
  have e22_50 : a22.eval (.tmp 50) = .bool false := by rw [ha22, eval_put_ne _ _ _ _ (by decide)]; exact e21_50
  have e22_56 : a22.eval (.tmp 56) = .bool (sr == 2) := by rw [ha22, eval_put_ne _ _ _ _ (by decide)]; exact e21_56
  have e22_57 : a22.eval (.tmp 57) = .agg #[.string nm, v0, v1, vl] := by rw [ha22, eval_put_ne _ _ _ _ (by decide)]; exact e21_57
  have e22_58 : a22.eval (.tmp 58) = .int .i64 (i : Int) := by rw [ha22, eval_put_ne _ _ _ _ (by decide)]; exact e21_58
  have e22_59 : a22.eval (.tmp 59) = .int .i64 mn := by rw [ha22]; exact eval_put_eq _ _ _ (by rw [sz21]; decide)
  refine takeHF (v := .int .i64 mn) opGn14_22 opGn14_ns (by kernel_rfl) (by kernel_rfl) (wanted_gf (ops := opGn14) (j := 12) (d := 50) (by kernel_rfl) e22_50 (by rw [sz22]; decide)) HPN (fun w hw o ho => run_move ho e22_8 w) (HS1  _ st11) ?_
  refine wpAnyH_as (l' := #[true, true, true, true, true, true, true, true, true, true, true, true, true, true, true, true, true, true, true, true, true, true, true, false, false, false, false]) (by kernel_rfl) ?_
  obtain ⟨a23, ha23⟩ : ∃ a' : Act, a' = a22.put (some 60) (.int .i64 mn) := ⟨_, rfl⟩
  rw [← ha23]
  have sz23 : a23.tmps.size = 110 := by rw [ha23, size_put]; exact sz22
  have e23_8 : a23.eval (.tmp 8) = .int .i64 mn := by rw [ha23, eval_put_ne _ _ _ _ (by decide)]; exact e22_8
  have e23_50 : a23.eval (.tmp 50) = .bool false := by rw [ha23, eval_put_ne _ _ _ _ (by decide)]; exact e22_50
  have e23_56 : a23.eval (.tmp 56) = .bool (sr == 2) := by rw [ha23, eval_put_ne _ _ _ _ (by decide)]; exact e22_56
  have e23_57 : a23.eval (.tmp 57) = .agg #[.string nm, v0, v1, vl] := by rw [ha23, eval_put_ne _ _ _ _ (by decide)]; exact e22_57
  have e23_58 : a23.eval (.tmp 58) = .int .i64 (i : Int) := by rw [ha23, eval_put_ne _ _ _ _ (by decide)]; exact e22_58
  have e23_59 : a23.eval (.tmp 59) = .int .i64 mn := by rw [ha23, eval_put_ne _ _ _ _ (by decide)]; exact e22_59
  have e23_60 : a23.eval (.tmp 60) = .int .i64 mn := by rw [ha23]; exact eval_put_eq _ _ _ (by rw [sz22]; decide)
  refine takeHF (v := .int .i64 mn) opGn14_23 opGn14_ns (by kernel_rfl) (by kernel_rfl) (wanted_gf (ops := opGn14) (j := 12) (d := 50) (by kernel_rfl) e23_50 (by rw [sz23]; decide)) HPN (fun w hw o ho => run_move ho e23_8 w) (HS1  _ st11) ?_
  refine wpAnyH_as (l' := #[true, true, true, true, true, true, true, true, true, true, true, true, true, true, true, true, true, true, true, true, true, true, true, true, false, false, false]) (by kernel_rfl) ?_
  obtain ⟨a24, ha24⟩ : ∃ a' : Act, a' = a23.put (some 61) (.int .i64 mn) := ⟨_, rfl⟩
  rw [← ha24]
  have sz24 : a24.tmps.size = 110 := by rw [ha24, size_put]; exact sz23
  have e24_50 : a24.eval (.tmp 50) = .bool false := by rw [ha24, eval_put_ne _ _ _ _ (by decide)]; exact e23_50
  have e24_56 : a24.eval (.tmp 56) = .bool (sr == 2) := by rw [ha24, eval_put_ne _ _ _ _ (by decide)]; exact e23_56
  have e24_57 : a24.eval (.tmp 57) = .agg #[.string nm, v0, v1, vl] := by rw [ha24, eval_put_ne _ _ _ _ (by decide)]; exact e23_57
  have e24_58 : a24.eval (.tmp 58) = .int .i64 (i : Int) := by rw [ha24, eval_put_ne _ _ _ _ (by decide)]; exact e23_58
  have e24_59 : a24.eval (.tmp 59) = .int .i64 mn := by rw [ha24, eval_put_ne _ _ _ _ (by decide)]; exact e23_59
  have e24_60 : a24.eval (.tmp 60) = .int .i64 mn := by rw [ha24, eval_put_ne _ _ _ _ (by decide)]; exact e23_60
  have e24_61 : a24.eval (.tmp 61) = .int .i64 mn := by rw [ha24]; exact eval_put_eq _ _ _ (by rw [sz23]; decide)
  refine readyHF opGn14_24 (by kernel_rfl) (wanted_gf (ops := opGn14) (j := 12) (d := 50) (by kernel_rfl) e24_50 (by rw [sz24]; decide)) (fun o ho hd => wpCall (v := .bool (sr == 2)) ho hd (args := #[.agg #[.string nm, v0, v1, vl], .int .i64 (i : Int), .int .i64 mn, .int .i64 mn, .int .i64 mn]) (by simp only [List.map_toArray, List.map_cons, List.map_nil, e24_57, e24_58, e24_59, e24_60, e24_61] <;> rfl) (fun _ => rfl) (HK1.out  _ st11) (fun w25 st25 => ⟨(HS2  _ st25), ?_⟩))
  refine wpAnyH_as (l' := #[true, true, true, true, true, true, true, true, true, true, true, true, true, true, true, true, true, true, true, true, true, true, true, true, true, false, false]) (by kernel_rfl) ?_
  obtain ⟨a25, ha25⟩ : ∃ a' : Act, a' = a24.put (some 62) (.bool (sr == 2)) := ⟨_, rfl⟩
  rw [← ha25]
  have sz25 : a25.tmps.size = 110 := by rw [ha25, size_put]; exact sz24
  have e25_50 : a25.eval (.tmp 50) = .bool false := by rw [ha25, eval_put_ne _ _ _ _ (by decide)]; exact e24_50
  have e25_56 : a25.eval (.tmp 56) = .bool (sr == 2) := by rw [ha25, eval_put_ne _ _ _ _ (by decide)]; exact e24_56
  have e25_62 : a25.eval (.tmp 62) = .bool (sr == 2) := by rw [ha25]; exact eval_put_eq _ _ _ (by rw [sz24]; decide)
  refine takeHF (v := .bool false) opGn14_25 opGn14_ns (by kernel_rfl) (by kernel_rfl) (wanted_gf (ops := opGn14) (j := 12) (d := 50) (by kernel_rfl) e25_50 (by rw [sz25]; decide)) HPN (fun w hw o ho => run_nbs ho e25_56 e25_62 w) (HS2  _ st25) ?_
  refine wpAnyH_as (l' := #[true, true, true, true, true, true, true, true, true, true, true, true, true, true, true, true, true, true, true, true, true, true, true, true, true, true, false]) (by kernel_rfl) ?_
  obtain ⟨a26, ha26⟩ : ∃ a' : Act, a' = a25.put (some 63) (.bool false) := ⟨_, rfl⟩
  rw [← ha26]
  have sz26 : a26.tmps.size = 110 := by rw [ha26, size_put]; exact sz25
  have e26_50 : a26.eval (.tmp 50) = .bool false := by rw [ha26, eval_put_ne _ _ _ _ (by decide)]; exact e25_50
  have e26_63 : a26.eval (.tmp 63) = .bool false := by rw [ha26]; exact eval_put_eq _ _ _ (by rw [sz25]; decide)
  refine takeH (v := .bool false) opGn14_26 opGn14_ns (by kernel_rfl) (by kernel_rfl) HPN (fun w hw o ho => run_pickF ho e26_50 e26_63 w) (HS2  _ st25) ?_
  refine wpAnyH_as (l' := #[true, true, true, true, true, true, true, true, true, true, true, true, true, true, true, true, true, true, true, true, true, true, true, true, true, true, true]) (by kernel_rfl) ?_
  refine wpAnyH_done (by kernel_rfl) ?_ _
  obtain ⟨a27, ha27⟩ : ∃ a' : Act, a' = a26.put (some 64) (.bool false) := ⟨_, rfl⟩
  rw [← ha27]
  have sz27 : a27.tmps.size = 110 := by rw [ha27, size_put]; exact sz26
  rw [ha27, ha26, ha25, ha24, ha23, ha22, ha21, ha20, ha19, ha18, ha17, ha16, ha15, ha14, ha13, ha12, ha11, ha10, ha9, ha8, ha7, ha6, ha5, ha4, ha3, ha2, ha1]
  exact H  _ st25
set_option maxRecDepth 100000 in
set_option maxHeartbeats 4000000 in
theorem Gn14F {Q : Exit → Act → World → Prop} {W0 : World} {R : World → Prop} {q g i n cap : Nat} {w : World} {nm : ByteArray} {v0 v1 vl : Value} {sr mn : Int} {c0 c1 c3 c4 c6 c9 c10 c11 c12 c13 c14 c15 c16 c17 c18 c19 c20 c21 c22 c23 c24 c25 c26 c27 c28 c29 c30 c31 c32 c33 c34 c35 c36 c37 c38 c39 c40 c41 c42 c43 c44 c45 c46 c47 c48 c49 c50 c51 c52 c53 c54 c55 c56 c57 c58 c59 c60 c61 c62 c63 c64 c65 c66 c67 c68 c69 c70 c71 c72 c73 c74 c75 c76 c77 c78 c79 c80 c81 c82 c83 c84 c85 c86 c87 c88 c89 c90 c91 c92 c93 c94 c95 c96 c97 c98 c99 c100 c101 c102 c103 c104 c105 c106 c107 c108 c109 : Value} (hi : i < n) (h0 : R W0.drew) (HS : ∀ Y, R Y → (fun Y : World => PB q w nm v0 v1 vl Y ∧ Y.cell? ⟨g, i * 3 + 1, none⟩ = some (.int .i64 sr)) Y)
    (HK0 : ∀ Y, R Y → Calls Tryd.prog 19 #[.agg #[.string nm, v0, v1, vl], .int .i64 (i : Int), .int .i64 mn, .int .i64 6, .int .i64 mn] Y fun e w' => e = .returned (.bool (decide (0 < sr))) ∧ R w')
    (HK1 : ∀ Y, R Y → Calls Tryd.prog 19 #[.agg #[.string nm, v0, v1, vl], .int .i64 (i : Int), .int .i64 mn, .int .i64 mn, .int .i64 mn] Y fun e w' => e = .returned (.bool (sr == 2)) ∧ R w')
    (HPN : ∀ c (a : Act) d v w, Q (.panic c) (a.put d v) w → Q (.panic c) a w)
    (H : ∀ Y, R Y → Q .normal ⟨#[c0, c1, .pointer (some ⟨q, 0, none⟩), c3, c4, .slice (some ⟨g, 0, none⟩) n cap, c6, .int .i64 (i : Int), .int .i64 mn, c9, c10, c11, c12, c13, c14, c15, c16, c17, c18, c19, c20, c21, c22, c23, c24, c25, c26, c27, c28, c29, c30, c31, c32, c33, c34, c35, c36, c37, .slice (some ⟨g, 0, none⟩) n cap, .int .i64 (i : Int), .pointer (some ⟨g, i * 3, none⟩), .pointer (some ⟨g, i * 3 + 1, none⟩), .int .i64 sr, .bool (decide (0 < sr)), .agg #[.string nm, v0, v1, vl], .int .i64 (i : Int), .int .i64 mn, .int .i64 mn, .bool (decide (0 < sr)), .bool false, .bool false, .slice (some ⟨g, 0, none⟩) n cap, .int .i64 (i : Int), .pointer (some ⟨g, i * 3, none⟩), .pointer (some ⟨g, i * 3 + 1, none⟩), .int .i64 sr, .bool (sr == 2), .agg #[.string nm, v0, v1, vl], .int .i64 (i : Int), .int .i64 mn, .int .i64 mn, .int .i64 mn, .bool (sr == 2), .bool false, .bool false, c65, c66, c67, c68, c69, c70, c71, c72, c73, c74, c75, c76, c77, c78, c79, c80, c81, c82, c83, c84, c85, c86, c87, c88, c89, c90, c91, c92, c93, c94, c95, c96, c97, c98, c99, c100, c101, c102, c103, c104, c105, c106, c107, c108, c109], []⟩ Y) : Code.wp Tryd.prog rgGn14 Q ⟨#[c0, c1, .pointer (some ⟨q, 0, none⟩), c3, c4, .slice (some ⟨g, 0, none⟩) n cap, c6, .int .i64 (i : Int), .int .i64 mn, c9, c10, c11, c12, c13, c14, c15, c16, c17, c18, c19, c20, c21, c22, c23, c24, c25, c26, c27, c28, c29, c30, c31, c32, c33, c34, c35, c36, c37, c38, c39, c40, c41, c42, c43, c44, c45, c46, c47, c48, c49, c50, c51, c52, c53, c54, c55, c56, c57, c58, c59, c60, c61, c62, c63, c64, c65, c66, c67, c68, c69, c70, c71, c72, c73, c74, c75, c76, c77, c78, c79, c80, c81, c82, c83, c84, c85, c86, c87, c88, c89, c90, c91, c92, c93, c94, c95, c96, c97, c98, c99, c100, c101, c102, c103, c104, c105, c106, c107, c108, c109], []⟩ W0 := by
  refine Gn14 (R0 := R) (R1 := R) (R2 := R) hi rfl rfl rfl rfl rfl h0 HS HS HS HK0 HK1 HPN (fun Y hY => ?_)
  have hF : (((((((((((((((((((((((((((((⟨#[c0, c1, .pointer (some ⟨q, 0, none⟩), c3, c4, .slice (some ⟨g, 0, none⟩) n cap, c6, .int .i64 (i : Int), .int .i64 mn, c9, c10, c11, c12, c13, c14, c15, c16, c17, c18, c19, c20, c21, c22, c23, c24, c25, c26, c27, c28, c29, c30, c31, c32, c33, c34, c35, c36, c37, c38, c39, c40, c41, c42, c43, c44, c45, c46, c47, c48, c49, c50, c51, c52, c53, c54, c55, c56, c57, c58, c59, c60, c61, c62, c63, c64, c65, c66, c67, c68, c69, c70, c71, c72, c73, c74, c75, c76, c77, c78, c79, c80, c81, c82, c83, c84, c85, c86, c87, c88, c89, c90, c91, c92, c93, c94, c95, c96, c97, c98, c99, c100, c101, c102, c103, c104, c105, c106, c107, c108, c109], []⟩ : Act)).put (some 38) (.slice (some ⟨g, 0, none⟩) n cap)).put (some 39) (.int .i64 (i : Int))).put (some 40) (.pointer (some ⟨g, i * 3, none⟩))).put (some 41) (.pointer (some ⟨g, i * 3 + 1, none⟩))).put (some 42) (.int .i64 sr)).put (some 43) (.bool (decide (0 < sr)))).put (some 44) (.agg #[.string nm, v0, v1, vl])).put (some 45) (.int .i64 (i : Int))).put (some 46) (.int .i64 mn)).put (some 47) (.int .i64 mn)).put (some 48) (.bool (decide (0 < sr)))).put (some 49) (.bool false)).put (some 50) (.bool false)).put (some 51) (.slice (some ⟨g, 0, none⟩) n cap)).put (some 52) (.int .i64 (i : Int))).put (some 53) (.pointer (some ⟨g, i * 3, none⟩))).put (some 54) (.pointer (some ⟨g, i * 3 + 1, none⟩))).put (some 55) (.int .i64 sr)).put (some 56) (.bool (sr == 2))).put (some 57) (.agg #[.string nm, v0, v1, vl])).put (some 58) (.int .i64 (i : Int))).put (some 59) (.int .i64 mn)).put (some 60) (.int .i64 mn)).put (some 61) (.int .i64 mn)).put (some 62) (.bool (sr == 2))).put (some 63) (.bool false)).put (some 64) (.bool false)) = ⟨#[c0, c1, .pointer (some ⟨q, 0, none⟩), c3, c4, .slice (some ⟨g, 0, none⟩) n cap, c6, .int .i64 (i : Int), .int .i64 mn, c9, c10, c11, c12, c13, c14, c15, c16, c17, c18, c19, c20, c21, c22, c23, c24, c25, c26, c27, c28, c29, c30, c31, c32, c33, c34, c35, c36, c37, .slice (some ⟨g, 0, none⟩) n cap, .int .i64 (i : Int), .pointer (some ⟨g, i * 3, none⟩), .pointer (some ⟨g, i * 3 + 1, none⟩), .int .i64 sr, .bool (decide (0 < sr)), .agg #[.string nm, v0, v1, vl], .int .i64 (i : Int), .int .i64 mn, .int .i64 mn, .bool (decide (0 < sr)), .bool false, .bool false, .slice (some ⟨g, 0, none⟩) n cap, .int .i64 (i : Int), .pointer (some ⟨g, i * 3, none⟩), .pointer (some ⟨g, i * 3 + 1, none⟩), .int .i64 sr, .bool (sr == 2), .agg #[.string nm, v0, v1, vl], .int .i64 (i : Int), .int .i64 mn, .int .i64 mn, .int .i64 mn, .bool (sr == 2), .bool false, .bool false, c65, c66, c67, c68, c69, c70, c71, c72, c73, c74, c75, c76, c77, c78, c79, c80, c81, c82, c83, c84, c85, c86, c87, c88, c89, c90, c91, c92, c93, c94, c95, c96, c97, c98, c99, c100, c101, c102, c103, c104, c105, c106, c107, c108, c109], []⟩ := by kernel_rfl
  rw [hF]
  exact H Y hY
end Go.Proofs.YtjhleocpipmklaaDoor
