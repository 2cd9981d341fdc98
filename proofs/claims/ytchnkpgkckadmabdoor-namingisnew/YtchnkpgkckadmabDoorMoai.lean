import Derived.Deep.RegionHeld3
import Derived.Deep.Slices
import Derived.Deep.Strs
import Derived.SizedLaws
import Derived.Test.YtchnkpgkckadmabDoorMoaf
namespace Go.Proofs.YtchnkpgkckadmabDoor
set_option linter.unusedSimpArgs false
set_option linter.unusedVariables false
open Go.ChangeShapes Go.WideShapes Go.ChangeAt Go.RowKit Go.Pin Go.Pat
/-- what is seen, as a value -/
def SV (x : Sn) : Value := .agg (x.map Value.bool).toArray
theorem twelve {x : Sn} (h : x.length = 12) : ∃ a b c d e f g i j k l m, x = [a, b, c, d, e, f, g, i, j, k, l, m] := by
  match x, h with
  | [a, b, c, d, e, f, g, i, j, k, l, m], _ => exact ⟨a, b, c, d, e, f, g, i, j, k, l, m, rfl⟩
end Go.Proofs.YtchnkpgkckadmabDoor
namespace Go.Proofs.YtchnkpgkckadmabDoor
set_option linter.unusedSimpArgs false
set_option linter.unusedVariables false
open Go.ChangeShapes Go.WideShapes Go.ChangeAt Go.RowKit Go.Pin Go.Pat
abbrev BV (x : Sn) : Array Value := (x.map Value.bool).toArray
theorem BV_one (x : Sn) : (BV x).all (·.oneCell') = true := by
  simp [Array.all_eq_true, BV, Value.oneCell']
theorem results_row_tmp {P : Program} {fn : Func} {p u : Tmp} {ty : TypeId} (h : fn.results = #[.cell p ty, .tmp u]) (tmps : Array Value) (w : World) (g : Nat) (t : TypeId) (cs : Array Value) (fr : Nat × Nat) (d : TypeDesc) (v : Value)
    (hp : tmps.getD p undef = .pointer (some ⟨g, 0, none⟩)) (hg : w.heap[g]? = some (.cells cs t fr))
    (hu : P.underlying ty = some d) (hd : (match d with | .struct _ | .array _ _ => true | _ => false) = true) (hi : (P.info? ty).map (·.size) = some cs.size) (hv : tmps.getD u undef = v) :
    (results fn tmps).run P w = .ok (.tuple #[.agg cs, v]) w := by
  rw [results_cell_tmp h, hp, hv]
  simp [asAddr, run_loadVar_row w g t ty cs fr d hg hu hd hi]
end Go.Proofs.YtchnkpgkckadmabDoor
namespace Go.Proofs.YtchnkpgkckadmabDoor
set_option linter.unusedSimpArgs false
set_option linter.unusedVariables false
open Go.ChangeShapes Go.WideShapes Go.ChangeAt Go.RowKit Go.Pin Go.Pat
/-- a pattern's box -/
structure PB (q : Nat) (w : World) (nm : ByteArray) (v0 v1 vl : Value) (wr : World) : Prop where
  old : Below q w wr
  lt : q < wr.heap.size
  row : wr.heap[q]? = some (.cells #[.string nm, v0, v1, vl] 29)
theorem pb_start (w : World) (nm : ByteArray) (v0 v1 vl : Value) : PB w.heap.size w nm v0 v1 vl (w.alloc (.cells #[.string nm, v0, v1, vl] 29)) :=
  ⟨(Below.refl _ _).alloc (Nat.le_refl _) _, by simp [size_alloc], heap_alloc_new _ _⟩
section
variable {q : Nat} {w wr w' : World} {nm : ByteArray} {v0 v1 vl : Value}
theorem PB.c0 (h : PB q w nm v0 v1 vl wr) : wr.cell? ⟨q, 0, none⟩ = some (.string nm) := by rw [cell_of_row _ _ _ _ _ _ h.row]; rfl
theorem PB.c1 (h : PB q w nm v0 v1 vl wr) : wr.cell? ⟨q, 1, none⟩ = some v0 := by rw [cell_of_row _ _ _ _ _ _ h.row]; rfl
theorem PB.c2 (h : PB q w nm v0 v1 vl wr) : wr.cell? ⟨q, 2, none⟩ = some v1 := by rw [cell_of_row _ _ _ _ _ _ h.row]; rfl
theorem PB.c3 (h : PB q w nm v0 v1 vl wr) : wr.cell? ⟨q, 3, none⟩ = some vl := by rw [cell_of_row _ _ _ _ _ _ h.row]; rfl
theorem PB.below (h : PB q w nm v0 v1 vl wr) (hb : Below wr.heap.size wr w') : PB q w nm v0 v1 vl w' :=
  ⟨h.old.trans (hb.mono (by have := h.lt; omega)), Nat.lt_of_lt_of_le h.lt hb.size, (hb.block _ h.lt).trans h.row⟩
end
theorem RdL.len {w : World} {a : Option Addr} {n cap : Nat} {L : List Ln} (h : RdL w (.slice a n cap) L) : L.length = n ∧ n ≤ 140737488355328 := by
  obtain ⟨a', c', e, _, h2, _⟩ := h
  injection e with _ e2 _
  exact ⟨e2.symm, by omega⟩
theorem RdL.at {w : World} {a : Option Addr} {n cap : Nat} {L : List Ln} (h : RdL w (.slice a n cap) L) {j : Nat} (hj : j < n) : ∃ b o a2 n2 c2, a = some ⟨b, o, none⟩ ∧ (∀ W, Below w.heap.size w W → W.cell? ⟨b, o + j * 2, none⟩ = some (.int .i64 (L.getD j (0, [])).1) ∧ W.cell? ⟨b, o + j * 2 + 1, none⟩ = some (.slice a2 n2 c2)) ∧ RdN w (.slice a2 n2 c2) (L.getD j (0, [])).2 ∧ n2 = (L.getD j (0, [])).2.length := by
  obtain ⟨a', c', e, _, _, h3⟩ := h
  injection e with e1 e2 e3
  subst e1 e2 e3
  obtain ⟨b, o, u, g1, g2, g3, g4⟩ := h3 j hj
  obtain ⟨a2, c2, rfl, _⟩ := id g4
  exact ⟨b, o, a2, _, c2, g1, fun W hW => ⟨cell_below hW g2, cell_below hW g3⟩, g4, rfl⟩
end Go.Proofs.YtchnkpgkckadmabDoor
namespace Go.Proofs.YtchnkpgkckadmabDoor
set_option linter.unusedSimpArgs false
set_option linter.unusedVariables false
open Go.ChangeShapes Go.WideShapes Go.ChangeAt Go.RowKit Go.Pin Go.Pat
/-- a line's box beside the pattern's -/
structure LB (q m : Nat) (w : World) (nm : ByteArray) (v0 v1 vl : Value) (f : Int) (vt : Value) (wr : World) : Prop where
  pb : PB q w nm v0 v1 vl wr
  ne : q < m
  lt : m < wr.heap.size
  row : wr.heap[m]? = some (.cells #[.int .i64 f, vt] 36)
section
variable {q m : Nat} {w wr w' : World} {nm : ByteArray} {v0 v1 vl : Value} {f : Int} {vt : Value}
theorem LB.c0 (h : LB q m w nm v0 v1 vl f vt wr) : wr.cell? ⟨m, 0, none⟩ = some (.int .i64 f) := by rw [cell_of_row _ _ _ _ _ _ h.row]; rfl
theorem LB.c1 (h : LB q m w nm v0 v1 vl f vt wr) : wr.cell? ⟨m, 1, none⟩ = some vt := by rw [cell_of_row _ _ _ _ _ _ h.row]; rfl
theorem LB.drewN (h : LB q m w nm v0 v1 vl f vt wr) (n : Nat) : LB q m w nm v0 v1 vl f vt (wr.drewN n) := ⟨⟨drewN_below h.pb.old n, h.pb.lt, h.pb.row⟩, h.ne, h.lt, h.row⟩
theorem lb_start (h : PB q w nm v0 v1 vl wr) (f : Int) (vt : Value) : LB q wr.heap.size w nm v0 v1 vl f vt (wr.alloc (.cells #[.int .i64 f, vt] 36)) :=
  ⟨h.below ((Below.refl _ _).alloc (Nat.le_refl _) _), h.lt, by simp [size_alloc], heap_alloc_new _ _⟩
end
def badL (L : List Ln) (k : Nat) (f : Int) (n2 : Nat) : Bool := decide (¬ (f = 0 ∨ f = 1)) || decide (pv L k = some f) || decide (n2 = 0)
end Go.Proofs.YtchnkpgkckadmabDoor
namespace Go.Proofs.YtchnkpgkckadmabDoor
set_option linter.unusedSimpArgs false
set_option linter.unusedVariables false
open Go.ChangeShapes Go.WideShapes Go.ChangeAt Go.RowKit Go.Pin Go.Pat
section
variable {q : Nat} {w wr w' : World} {nm : ByteArray} {v0 v1 vl : Value} {x : Sn}
end
theorem bg_snoc (s : Nat) (X : Sn) (C : List Int) (j : Nat) (h : j < C.length) : bg s X (C.take (j + 1)) = (if C.getD j 0 = 1 then (bg s X (C.take j)).set s true else (bg s X (C.take j)).set (2 + s) true) := by
  unfold bg
  rw [List.take_add_one, List.getElem?_eq_getElem h, List.foldl_append]
  simp [List.getD, h]
theorem szS {x : Sn} (h : x.length = 12) : (BV Sn0).size = (BV x).size := by rw [show (BV Sn0).size = 12 from by simp [Sn0]]; simp [h]
end Go.Proofs.YtchnkpgkckadmabDoor
namespace Go.Proofs.YtchnkpgkckadmabDoor
set_option linter.unusedSimpArgs false
set_option linter.unusedVariables false
open Go.ChangeShapes Go.WideShapes Go.ChangeAt Go.RowKit Go.Pin
/-! regions whose operations are a constant, frames that are a letter -/
def opsOf : Code → Array Oper
  | .region _ ops _ => ops
  | _ => #[]
def opIs (ops : Array Oper) (i : Nat) (op : Op) (d : Option Nat) : Prop := (ops[i]?).map (fun o => (o.guard, o.op, o.dst)) = some (none, op, d)
theorem opIs.get {ops : Array Oper} {i : Nat} {op : Op} {d : Option Nat} (h : opIs ops i op d) : ∃ o, ops[i]? = some o ∧ o.guard = none ∧ o.op = op ∧ o.dst = d := by
  obtain ⟨o, h1, h5⟩ := Option.map_eq_some_iff.1 h
  simp only [Prod.mk.injEq] at h5
  exact ⟨o, h1, h5.1, h5.2.1, h5.2.2⟩
theorem wanted_none {o : Oper} (h : o.guard = none) (y : Nat → Option Bool) : Region.wanted o y = true := by simp [Region.wanted, h]
section
variable {P : Program} {ops : Array Oper} {Q : Exit → Act → World → Prop} {S : World → Prop} {fuel : Nat} {listed : Array Bool} {a : Act} {w : World}
theorem takeH {i : Nat} {op : Op} {d : Nat} {v : Value} (hc : opIs ops i op (some d)) (hs : Region.noSelect ops = true) (hf : Region.free .any ops listed i = true) (hr : (Region.ready .any ops listed).contains i = true)
    (hQ : ∀ c (a : Act) d v w, Q (.panic c) (a.put d v) w → Q (.panic c) a w) (hrun : ∀ w, S w → ∀ o : Oper, o.op = op → (execOp a.eval o).run P w = .ok (.value v) w) (hS : S w)
    (h : wpAnyH P .any ops Q S fuel (listed.setIfInBounds i true) (a.put (some d) v) w) : wpAnyH P .any ops Q S (fuel + 1) listed a w := by
  obtain ⟨o, h1, h2, h3, h4⟩ := hc.get
  exact wpAnyH_take h1 hs hf hr (fun _ _ _ h => hQ _ _ _ _ _ h) (.inl ⟨wanted_none h2 _, fun w hw => hrun w hw o h3⟩) hS (by rw [h4]; exact h)
theorem wpAnyH_as {l l' : Array Bool} (hl : l = l') (h : wpAnyH P .any ops Q S fuel l' a w) : wpAnyH P .any ops Q S fuel l a w := by rw [hl]; exact h
/-- one operation alone may come up -/
theorem readyH {i : Nat} {op : Op} {d : Option Nat} (hc : opIs ops i op d) (hr : Region.ready .any ops listed = [i])
    (h : ∀ o : Oper, o.op = op → o.dst = d → Oper.wp P o a w (fun a' w' => S w' ∧ wpAnyH P .any ops Q S fuel (listed.setIfInBounds i true) a' w') Q) : wpAnyH P .any ops Q S (fuel + 1) listed a w := by
  obtain ⟨o, h1, h2, h3, h4⟩ := hc.get
  refine wpAnyH_all hr (by simp) (fun j hj => ?_)
  obtain rfl : j = i := by simpa using hj
  unfold wpOp
  simp only [h1]
  rw [if_pos (wanted_none h2 _)]
  exact .inl (h o h3 h4)
end
theorem eval_put_ne (a : Act) (d s : Nat) (v : Value) (h : d ≠ s) : (a.put (some d) v).eval (.tmp s) = a.eval (.tmp s) := by
  simp [Act.put, Act.eval, Array.getElem?_setIfInBounds_ne h]
theorem eval_put_eq (a : Act) (d : Nat) (v : Value) (h : d < a.tmps.size) : (a.put (some d) v).eval (.tmp d) = v := by
  simp [Act.put, Act.eval, h]
theorem size_put (a : Act) (d : Nat) (v : Value) : (a.put (some d) v).tmps.size = a.tmps.size := by simp [Act.put]
theorem run_move {P : Program} {a : Act} {o : Oper} {x : Operand} {v : Value} (ho : o.op = .move x) (he : a.eval x = v) (w : World) : (execOp a.eval o).run P w = .ok (.value v) w := by
  unfold execOp
  simp only [ho, he]
  rfl
theorem run_nilCheck {P : Program} {a : Act} {o : Oper} {x : Operand} {p : Addr} (ho : o.op = .nilCheck x) (he : a.eval x = .pointer (some p)) (w : World) : (execOp a.eval o).run P w = .ok (.value (.pointer (some p))) w := by
  unfold execOp
  simp only [ho, he]
  go_simp
end Go.Proofs.YtchnkpgkckadmabDoor
namespace Go.Proofs.YtchnkpgkckadmabDoor
set_option linter.unusedSimpArgs false
set_option linter.unusedVariables false
open Go.ChangeShapes Go.WideShapes Go.ChangeAt Go.RowKit Go.Pin
section
variable {P : Program} {ops : Array Oper} {Q : Exit → Act → World → Prop} {S : World → Prop} {fuel : Nat} {listed : Array Bool} {a : Act} {w : World}
theorem wp_of_run {o : Oper} {v : Value} {K : Act → World → Prop} (hrun : (execOp a.eval o).run P w = .ok (.value v) w) (h : K (a.put o.dst v) w) : Oper.wp P o a w K Q := by
  unfold Oper.wp
  rw [hrun]
  exact h
/-- one operation that yields a value alone may come up -/
theorem readyLd1 {i : Nat} {op : Op} {d : Nat} {v : Value} (hc : opIs ops i op (some d)) (hr : Region.ready .any ops listed = [i]) (hS : S w)
    (hrun : ∀ o : Oper, o.op = op → (execOp a.eval o).run P w = .ok (.value v) w) (h : wpAnyH P .any ops Q S fuel (listed.setIfInBounds i true) (a.put (some d) v) w) : wpAnyH P .any ops Q S (fuel + 1) listed a w :=
  readyH hc hr (fun o h1 h2 => wp_of_run (hrun o h1) ⟨hS, by rw [h2]; exact h⟩)
/-- two of them, in either order -/
theorem readyLd2 {i j : Nat} {op oq : Op} {d e : Nat} {v u : Value} (hi : opIs ops i op (some d)) (hj : opIs ops j oq (some e)) (hde : d ≠ e) (hij : i ≠ j) (hr : Region.ready .any ops listed = [i, j])
    (hr1 : Region.ready .any ops (listed.setIfInBounds i true) = [j]) (hr2 : Region.ready .any ops (listed.setIfInBounds j true) = [i]) (hS : S w)
    (run1 : ∀ o : Oper, o.op = op → (execOp a.eval o).run P w = .ok (.value v) w) (run2 : ∀ o : Oper, o.op = oq → (execOp a.eval o).run P w = .ok (.value u) w)
    (run1' : ∀ o : Oper, o.op = op → (execOp (a.put (some e) u).eval o).run P w = .ok (.value v) w) (run2' : ∀ o : Oper, o.op = oq → (execOp (a.put (some d) v).eval o).run P w = .ok (.value u) w)
    (h : wpAnyH P .any ops Q S fuel ((listed.setIfInBounds i true).setIfInBounds j true) ((a.put (some d) v).put (some e) u) w) : wpAnyH P .any ops Q S (fuel + 2) listed a w := by
  obtain ⟨o1, h1, g1, p1, q1⟩ := hi.get
  obtain ⟨o2, h2, g2, p2, q2⟩ := hj.get
  refine wpAnyH_all hr (by simp) (fun k hk => ?_)
  simp only [List.mem_cons, List.not_mem_nil, or_false] at hk
  rcases hk with rfl | rfl
  · unfold wpOp
    simp only [h1]
    rw [if_pos (wanted_none g1 _)]
    refine .inl (wp_of_run (run1 o1 p1) ⟨hS, ?_⟩)
    rw [q1]
    exact readyLd1 hj hr1 hS run2' h
  · unfold wpOp
    simp only [h2]
    rw [if_pos (wanted_none g2 _)]
    refine .inl (wp_of_run (run2 o2 p2) ⟨hS, ?_⟩)
    rw [q2]
    refine readyLd1 hi hr2 hS run1' ?_
    have e1 : (a.put (some e) u).put (some d) v = (a.put (some d) v).put (some e) u := by
      simp only [Act.put]
      rw [Array.setIfInBounds_comm _ _ (fun e' => hde e'.symm)]
    rw [e1, Array.setIfInBounds_comm _ _ (fun e' => hij e'.symm)]
    exact h
end
end Go.Proofs.YtchnkpgkckadmabDoor
namespace Go.Proofs.YtchnkpgkckadmabDoor
set_option linter.unusedSimpArgs false
set_option linter.unusedVariables false
open Go.ChangeShapes Go.WideShapes Go.ChangeAt Go.RowKit Go.Pin Go.Pat
theorem wp_as {P : Program} {c c' : Code} {Q : Exit → Act → World → Prop} {a : Act} {w : World} (h : c = c') (hc : Code.wp P c' Q a w) : Code.wp P c Q a w := by rw [h]; exact hc
/-- the region number n -/
def findReg (n : Nat) : Code → Option Code
  | .region i ops d => if i = n then some (.region i ops d) else none
  | .seq a b => match findReg n a with
    | some c => some c
    | none => findReg n b
  | .block _ c => findReg n c
  | .loop c => findReg n c
  | .scope c => findReg n c
  | .cond _ a b => match findReg n a with
    | some c => some c
    | none => findReg n b
  | _ => none
theorem put_comm (a : Act) {d e : Nat} (v u : Value) (h : d ≠ e) : (a.put (some d) v).put (some e) u = (a.put (some e) u).put (some d) v := by
  simp only [Act.put]
  rw [Array.setIfInBounds_comm _ _ h]
section
variable {P : Program} {ops : Array Oper} {Q : Exit → Act → World → Prop} {S : World → Prop} {fuel : Nat} {listed : Array Bool} {a : Act} {w : World}
/-- two may come up -/
theorem readyH2 {i j : Nat} {op oq : Op} {d e : Option Nat} (hi : opIs ops i op d) (hj : opIs ops j oq e) (hr : Region.ready .any ops listed = [i, j])
    (h1 : ∀ o : Oper, o.op = op → o.dst = d → Oper.wp P o a w (fun a' w' => S w' ∧ wpAnyH P .any ops Q S fuel (listed.setIfInBounds i true) a' w') Q)
    (h2 : ∀ o : Oper, o.op = oq → o.dst = e → Oper.wp P o a w (fun a' w' => S w' ∧ wpAnyH P .any ops Q S fuel (listed.setIfInBounds j true) a' w') Q) : wpAnyH P .any ops Q S (fuel + 1) listed a w := by
  obtain ⟨o1, k1, g1, p1, q1⟩ := hi.get
  obtain ⟨o2, k2, g2, p2, q2⟩ := hj.get
  refine wpAnyH_all hr (by simp) (fun k hk => ?_)
  simp only [List.mem_cons, List.not_mem_nil, or_false] at hk
  rcases hk with rfl | rfl
  · unfold wpOp
    simp only [k1]
    rw [if_pos (wanted_none g1 _)]
    exact .inl (h1 o1 p1 q1)
  · unfold wpOp
    simp only [k2]
    rw [if_pos (wanted_none g2 _)]
    exact .inl (h2 o2 p2 q2)
end
theorem wpRun {P : Program} {o : Oper} {a : Act} {w w' : World} {v : Value} {d : Option Nat} {K : Act → World → Prop} {Q : Exit → Act → World → Prop} (hd : o.dst = d) (hrun : (execOp a.eval o).run P w = .ok (.value v) w') (h : K (a.put d v) w') : Oper.wp P o a w K Q := by
  subst hd
  unfold Oper.wp
  rw [hrun]
  exact h
theorem wpCallX {α : Type} {P : Program} {o : Oper} {a : Act} {w : World} {K : Act → World → Prop} {Q : Exit → Act → World → Prop} {f : Nat} {xs : Array Operand} {ts : Array TypeId} {args : Array Value} {v : α → Value} {R : α → World → Prop} {d : Option Nat}
    (ho : o.op = .call { callee := .value (.func f), args := xs, argTypes := ts }) (hd : o.dst = d) (ha : xs.map a.eval = args) (hen : ∀ w, (callFunc f args).run P w = .ok (.enter f args) w) (hc : Calls P f args w fun e w' => ∃ x, e = .returned (v x) ∧ R x w') (h : ∀ x w', R x w' → K (a.put d (v x)) w') : Oper.wp P o a w K Q := by
  subst hd
  unfold Oper.wp execOp
  simp only [ho]
  go_simp
  refine hc.mono ?_
  rintro e w' ⟨x, rfl, hr⟩
  exact h x w' hr
theorem wpCall {P : Program} {o : Oper} {a : Act} {w : World} {K : Act → World → Prop} {Q : Exit → Act → World → Prop} {f : Nat} {xs : Array Operand} {ts : Array TypeId} {args : Array Value} {v : Value} {R : World → Prop} {d : Option Nat}
    (ho : o.op = .call { callee := .value (.func f), args := xs, argTypes := ts }) (hd : o.dst = d) (ha : xs.map a.eval = args) (hen : ∀ w, (callFunc f args).run P w = .ok (.enter f args) w) (hc : Calls P f args w fun e w' => e = .returned v ∧ R w') (h : ∀ w', R w' → K (a.put d v) w') : Oper.wp P o a w K Q := by
  subst hd
  unfold Oper.wp execOp
  simp only [ho]
  go_simp
  refine hc.mono ?_
  rintro e w' ⟨rfl, hr⟩
  exact h w' hr
theorem put_none (a : Act) (v : Value) : a.put none v = a := rfl
section
variable {a : Act} {o : Oper} {x y z : Operand}
theorem run_assign {P : Program} {v : Value} (ho : o.op = .assign x) (he : a.eval x = v) (w : World) : (execOp a.eval o).run P w = .ok (.value v) w := by
  unfold execOp
  simp only [ho, he]
  rfl
theorem run_fL0 {m : Nat} (ho : o.op = .fieldAddr 36 x 0) (he : a.eval x = .pointer (some ⟨m, 0, none⟩)) (w : World) : (execOp a.eval o).run Tryd.prog w = .ok (.value (.pointer (some ⟨m, 0, none⟩))) w := by
  unfold execOp
  simp only [ho, he]
  go_simp
theorem run_fL1 {m : Nat} (ho : o.op = .fieldAddr 36 x 1) (he : a.eval x = .pointer (some ⟨m, 0, none⟩)) (w : World) : (execOp a.eval o).run Tryd.prog w = .ok (.value (.pointer (some ⟨m, 1, none⟩))) w := by
  unfold execOp
  simp only [ho, he]
  go_simp
theorem run_ldI {m i : Nat} {f : Int} (ho : o.op = .load 3 x) (he : a.eval x = .pointer (some ⟨m, i, none⟩)) (w : World) (hc : w.cell? ⟨m, i, none⟩ = some (.int .i64 f)) : (execOp a.eval o).run Tryd.prog w = .ok (.value (.int .i64 f)) w := by
  unfold execOp
  simp only [ho, he]
  go_simp
theorem run_ldS {m i : Nat} {a2 : Option Addr} {n2 c2 : Nat} (ho : o.op = .load 25 x) (he : a.eval x = .pointer (some ⟨m, i, none⟩)) (w : World) (hc : w.cell? ⟨m, i, none⟩ = some (.slice a2 n2 c2)) : (execOp a.eval o).run Tryd.prog w = .ok (.value (.slice a2 n2 c2)) w := by
  unfold execOp
  simp only [ho, he]
  go_simp
theorem run_ixI {b i n2 c2 j : Nat} (ho : o.op = .indexAddr 25 x y) (he : a.eval x = .slice (some ⟨b, i, none⟩) n2 c2) (hf : a.eval y = .int .i64 (j : Int)) (hj : j < n2) (w : World) : (execOp a.eval o).run Tryd.prog w = .ok (.value (.pointer (some ⟨b, i + j, none⟩))) w := by
  unfold execOp
  have b4 : (j : Int) < (n2 : Int) := by omega
  simp only [ho, he, hf]
  go_simp
theorem run_ex0 {u v : Value} (ho : o.op = .extract x 0) (he : a.eval x = .tuple #[u, v]) (w : World) : (execOp a.eval o).run Tryd.prog w = .ok (.value u) w := by
  unfold execOp
  simp only [ho, he]
  go_simp
theorem run_ex1 {u v : Value} (ho : o.op = .extract x 1) (he : a.eval x = .tuple #[u, v]) (w : World) : (execOp a.eval o).run Tryd.prog w = .ok (.value v) w := by
  unfold execOp
  simp only [ho, he]
  go_simp
end
section
variable {q g : Nat} {w wr w' : World} {nm : ByteArray} {v0 v1 vl : Value} {x : Sn}
end
section
variable {q g m : Nat} {w wr w' : World} {nm : ByteArray} {v0 v1 vl : Value} {x : Sn} {f : Int} {vt : Value}
end
end Go.Proofs.YtchnkpgkckadmabDoor
namespace Go.Proofs.YtchnkpgkckadmabDoor
set_option linter.unusedSimpArgs false
set_option linter.unusedVariables false
open Go.ChangeShapes Go.WideShapes Go.ChangeAt Go.RowKit Go.Pin Go.Pat
end Go.Proofs.YtchnkpgkckadmabDoor
namespace Go.Proofs.YtchnkpgkckadmabDoor
set_option linter.unusedSimpArgs false
set_option linter.unusedVariables false
open Go.ChangeShapes Go.WideShapes Go.ChangeAt Go.RowKit Go.Pin Go.Pat
theorem infoP : (Tryd.prog.info? 29).map (·.size) = some 4 := by kernel_rfl
theorem shp_lines : ∀ (L : List Ln) (o : Option Int) (n : Nat), shp o n L = true → ∀ l ∈ L, (l.1 = 0 ∨ l.1 = 1) ∧ ∀ t ∈ l.2, 1 ≤ t ∧ t ≤ 7
  | [], _, _, _ => fun l h => nomatch h
  | (f, ts) :: r, o, n, h => fun l hl => by
    rw [shp_split] at h
    simp only [Bool.and_eq_true, decide_eq_true_eq, List.all_eq_true, isTok] at h
    rcases List.mem_cons.1 hl with rfl | hl
    · exact ⟨h.1.1.1.1.1, h.1.2⟩
    · exact shp_lines r _ _ h.2 l hl
end Go.Proofs.YtchnkpgkckadmabDoor
namespace Go.Proofs.YtchnkpgkckadmabDoor
set_option linter.unusedSimpArgs false
set_option linter.unusedVariables false
open Go.ChangeShapes Go.WideShapes Go.ChangeAt Go.RowKit Go.Pin Go.Pat Go.Deep
theorem add_spot {x : Addr} {w : World} {v : Value} (h : w.cell? (x.add 0) = some v) : ∃ b o, x = ⟨b, o, none⟩ := by
  obtain ⟨b, o, s⟩ := x
  cases s with
  | none => exact ⟨b, o, rfl⟩
  | some s =>
    exfalso
    simp only [World.cell?, Addr.add, if_true] at h
    split at h <;> simp_all
theorem weightsAll_mem {H : Type} {P : Program} {e : TypeId} : ∀ {ds : List (DataW H)} {d : DataW H} {k : Nat}, d ∈ ds → k ∈ d.weights P e → k ∈ DataW.weightsAll P e ds
  | [], _, _, h, _ => nomatch h
  | d' :: r, d, k, h, hk => by
    rw [DataW.weightsAll]
    rcases List.mem_cons.1 h with rfl | h
    · exact List.mem_append_left _ hk
    · exact List.mem_append_right _ (weightsAll_mem h hk)
theorem bytes_int : Tryd.prog.bytesOf 3 = 8 := by kernel_rfl
theorem bytes_line : Tryd.prog.bytesOf 36 = 32 := by kernel_rfl
/-- numbers that came in -/
theorem open_nums {H : Type} {enc : TypeId × Value → H} {W : World} {fuel : Nat} {cs : List Value} {x : DataW H × List MemPlace}
    (hf : DataW.trod enc Tryd.prog W 0 (fun _ => true) true fuel 25 cs = some x) (hs : ∀ k ∈ x.1.weights Tryd.prog 25, k ≤ reachBytes) : ∃ (v : Value) (C : List Int), cs = [v] ∧ RdN W v C := by
  rcases open_ints Tryd.underlying25 Tryd.underlying3 (by kernel_rfl) hf with ⟨hcs, _⟩ | ⟨y, l, c, zs, hcs, _, hl, hm, hz, hx, hcell, hwz⟩
  · exact ⟨_, [], hcs, none, 0, rfl, ⟨Nat.le_refl _, fun _ => rfl⟩, by simp, .inl rfl⟩
  · have hz' : zs.length = c := by simpa using hz
    have hl2 : (zs.take l).length = l := by rw [List.length_take]; omega
    have hb : l ≤ 140737488355328 := by
      have := hs ((l + (c - l)) * 8) (by
        rw [hx]
        simp only [DataW.weights, Tryd.underlying25]
        refine List.mem_cons.2 (.inl ?_)
        rw [bytes_int]
        simp [lits, hz', hl])
      unfold reachBytes at this
      omega
    refine ⟨_, zs.take l, hcs, some y, c, by rw [hl2], ⟨by rw [hl2]; exact hl, fun h => nomatch h⟩, by rw [hl2]; exact hb, ?_⟩
    by_cases e : l = 0
    · left; subst e; simp
    · right
      obtain ⟨b, o, rfl⟩ := add_spot (hcell 0 (by omega))
      refine ⟨b, o, rfl, fun j v hv => ?_⟩
      have hj : j < l := by have := (List.getElem?_eq_some_iff.1 hv).1; rw [List.length_map, hl2] at this; exact this
      have := hcell j (by omega)
      rw [add_mid] at this
      rw [this, ← hv]
      simp [List.getElem?_take_of_lt hj, show j < zs.length by omega]
theorem open_lines {H : Type} {enc : TypeId × Value → H} {W : World} {fuel : Nat} {cs : List Value} {x : DataW H × List MemPlace}
    (hf : DataW.trod enc Tryd.prog W 0 (fun _ => true) true fuel 27 cs = some x) (hs : ∀ k ∈ x.1.weights Tryd.prog 27, k ≤ reachBytes) : ∃ (v : Value) (L : List Ln), cs = [v] ∧ RdL W v L := by
  rcases open_slice Tryd.underlying27 hf with ⟨hcs, _⟩ | ⟨y, len, cap, m, n, D, Pl, hcs, _, hl, hm, hmm, hxe, hx⟩
  · exact ⟨_, [], hcs, none, 0, rfl, Nat.le_refl _, by simp, fun j hj => nomatch hj⟩
  · have hlm : len ≤ m := by rw [hmm]; split <;> omega
    have ce : Tryd.prog.cellsOf 36 = 2 := by kernel_rfl
    have ci : Tryd.prog.cellsOf 3 = 1 := by kernel_rfl
    have cn : Tryd.prog.cellsOf 25 = 1 := by kernel_rfl
    have he : Tryd.prog.underlying 36 = _ := Tryd.underlying36
    have hb : len ≤ 140737488355328 := by
      have := hs ((len + (m - len)) * 32) (by
        rw [hxe]
        simp only [DataW.weights, Tryd.underlying27]
        refine List.mem_cons.2 (.inl ?_)
        rw [bytes_line]
        simp)
      unfold reachBytes at this
      omega
    have each : ∀ i, i < len → ∃ q : Value × Ln, W.cell? (y.add (i * 2)) = some (.int .i64 q.2.1) ∧ W.cell? (y.add (i * 2 + 1)) = some q.1 ∧ RdN W q.1 q.2.2 := by
      intro i hi
      obtain ⟨cs', h1, h2⟩ := hx i (by omega)
      rw [ce] at h1
      obtain ⟨_, hlen, hcell⟩ := World.cells?_some h1
      obtain ⟨xs, k, hk, hxy, _, hxl, hf⟩ := DataW.trod_struct he h2
      match xs, hxl with
      | [y0, y1], _ =>
        have g0 := hf 0 _ rfl
        have g1 := hf 1 _ rfl
        simp only [List.getElem_toArray, List.getElem_cons_zero, List.getElem_cons_succ, ci, cn, List.getElem?_cons_zero, List.getElem?_cons_succ] at g0 g1
        obtain ⟨z0, hz0, _, _⟩ := DataW.trod_int Tryd.underlying3 g0
        have hw1 : ∀ k ∈ y1.1.weights Tryd.prog 25, k ≤ reachBytes := fun k hk => by
          refine hs k ?_
          rw [hxe]
          simp only [DataW.weights, Tryd.underlying27]
          refine List.mem_cons_of_mem _ (List.mem_append_left _ (weightsAll_mem (List.mem_map.2 ⟨i, List.mem_range.2 hi, rfl⟩) ?_))
          have hD : D i = .agg [y0.1, y1.1] := congrArg Prod.fst hxy
          rw [hD]
          simp only [DataW.weights, Tryd.underlying36]
          simp only [DataW.weightsEach, List.map_cons, List.map_nil]
          exact List.mem_append_right _ (List.mem_append_left _ hk)
        obtain ⟨v, C, hc, hr⟩ := open_nums g1 hw1
        have e0 : cs'[0]? = some (.int .i64 z0) := by
          have := congrArg (fun z => z[0]?) hz0
          simpa using this
        have e1 : cs'[1]? = some v := by
          have := congrArg (fun z => z[0]?) hc
          simpa using this
        refine ⟨(v, z0, C), ?_, ?_, hr⟩
        · have e := hcell 0 (by omega)
          rw [add_add, e0] at e
          exact e
        · have e := hcell 1 (by omega)
          rw [add_add, e1] at e
          exact e
    obtain ⟨q, hq⟩ := choose_lt each
    have hat : ∀ j, j < len → ((List.range len).map (fun i => (q i).2)).getD j (0, []) = (q j).2 := fun j hj => by simp [List.getD, hj]
    refine ⟨_, (List.range len).map (fun i => (q i).2), hcs, some y, cap, by simp, by simpa using hl, by simpa using hb, fun j hj => ?_⟩
    have hj' : j < len := by simpa using hj
    have h0 := (hq 0 (by omega)).1
    rw [Nat.zero_mul] at h0
    obtain ⟨b, o, rfl⟩ := add_spot h0
    have h1 := (hq j hj').1
    have h2 := (hq j hj').2.1
    rw [add_mid] at h1 h2
    refine ⟨b, o, (q j).1, rfl, ?_, by rw [Nat.add_assoc]; exact h2, ?_⟩
    · rw [hat j hj']; exact h1
    · rw [hat j hj']; exact (hq j hj').2.2
set_option maxRecDepth 100000 in
/-- a pattern that came in -/
theorem open_pattern {H : Type} {enc : TypeId × Value → H} {W : World} {v : Value} {d : DataW H} {ps : List MemPlace}
    (h : DataW.Trod enc Tryd.prog W 0 (fun _ => true) true 29 v d ps) (hs : ∀ k ∈ d.weights Tryd.prog 29, k ≤ reachBytes) : ∃ p : Pt, RdP W v p := by
  obtain ⟨fuel, hf⟩ := h
  have c4 : Tryd.prog.cellsOf 29 = 4 := by kernel_rfl
  have cs1 : Tryd.prog.cellsOf 9 = 1 := by kernel_rfl
  have ca : Tryd.prog.cellsOf 26 = 2 := by kernel_rfl
  have cn : Tryd.prog.cellsOf 25 = 1 := by kernel_rfl
  have cl : Tryd.prog.cellsOf 27 = 1 := by kernel_rfl
  have he : Tryd.prog.underlying 29 = _ := Tryd.underlying29
  obtain ⟨y0, y1, y2, n, hx, hlen, g0, g1, g2⟩ := trod_struct3 he hf
  rw [c4] at hlen
  obtain ⟨e0, e1, e2, e3, rfl⟩ : ∃ e0 e1 e2 e3, v = .agg #[e0, e1, e2, e3] := by
    cases v with
    | agg cs =>
      obtain ⟨l⟩ := cs
      match l, hlen with
      | [e0, e1, e2, e3], _ => exact ⟨e0, e1, e2, e3, rfl⟩
    | _ => simp [Value.cells] at hlen
  simp only [cs1, ca, cl, Value.cells, List.drop_zero, List.take_succ_cons, List.take_zero, List.drop_succ_cons] at g0 g1 g2
  obtain ⟨nm, h0, _, _⟩ := DataW.trod_string Tryd.underlying9 g0
  obtain ⟨xs, m, _, hxa, _, hxl, hel⟩ := DataW.trod_array Tryd.underlying26 g1
  have hd : d = .agg [y0.1, y1.1, y2.1] := congrArg Prod.fst hx
  match xs, hxl with
  | [z0, z1], _ =>
    have k0 := hel 0 (by decide)
    have k1 := hel 1 (by decide)
    simp only [cn, Nat.zero_mul, Nat.one_mul, List.drop_zero, List.take_succ_cons, List.take_zero, List.drop_succ_cons, List.getElem?_cons_zero, List.getElem?_cons_succ] at k0 k1
    have hy1 : y1.1 = .agg [z0.1, z1.1] := congrArg Prod.fst hxa
    have hW : ∀ k, k ∈ y1.1.weights Tryd.prog 26 ∨ k ∈ y2.1.weights Tryd.prog 27 → k ≤ reachBytes := fun k hk => by
      refine hs k ?_
      rw [hd]
      simp only [DataW.weights, Tryd.underlying29, List.map_cons, List.map_nil, DataW.weightsEach]
      rcases hk with hk | hk
      · exact List.mem_append_right _ (List.mem_append_left _ hk)
      · exact List.mem_append_right _ (List.mem_append_right _ (List.mem_append_left _ hk))
    have hW0 : ∀ k ∈ z0.1.weights Tryd.prog 25, k ≤ reachBytes := fun k hk => hW k (.inl (by
      rw [hy1]; simp only [DataW.weights, Tryd.underlying26, DataW.weightsAll]
      exact List.mem_append_left _ hk))
    have hW1 : ∀ k ∈ z1.1.weights Tryd.prog 25, k ≤ reachBytes := fun k hk => hW k (.inl (by
      rw [hy1]; simp only [DataW.weights, Tryd.underlying26, DataW.weightsAll]
      exact List.mem_append_right _ (List.mem_append_left _ hk)))
    obtain ⟨w0, C0, q0, r0⟩ := open_nums k0 hW0
    obtain ⟨w1, C1, q1, r1⟩ := open_nums k1 hW1
    obtain ⟨w2, L, q2, r2⟩ := open_lines g2 (fun k hk => hW k (.inr hk))
    injection h0 with h0 _
    injection q0 with q0 _
    injection q1 with q1 _
    injection q2 with q2 _
    subst h0 q0 q1 q2
    exact ⟨⟨nm, C0, C1, L⟩, e1, e2, e3, rfl, r0, r1, r2⟩
end Go.Proofs.YtchnkpgkckadmabDoor
