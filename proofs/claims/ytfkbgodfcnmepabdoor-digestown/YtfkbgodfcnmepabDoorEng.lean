import Derived.Test.YtfkbgodfcnmepabDoorPin
import Derived.Deep.RegionHeld3
namespace Go.Proofs.YtfkbgodfcnmepabDoor
set_option linter.unusedSimpArgs false
set_option linter.unusedVariables false
open Go.ChangeShapes Go.WideShapes Go.ChangeAt Go.RowKit Go.Pin
/-! regions whose operations are a constant, frames that are a letter -/
def opsOf : Code → Array Oper
  | .region _ ops _ => ops
  | _ => #[]
def opIs (ops : Array Oper) (i : Nat) (op : Op) (d : Option Nat) : Prop := (ops[i]?).map (fun o => (o.guard, o.op, o.dst)) = some (none, op, d)
theorem opIs.get {ops : Array Oper} {i : Nat} {op : Op} {d : Option Nat} (h : opIs ops i op d) : ∃ o, ops[i]? = some o ∧ o.guard = none ∧ o.op = op ∧ o.dst = d := by
  obtain ⟨o, h1, h5⟩ := Option.map_eq_some_iff.1 h
  simp only [Prod.mk.injEq] at h5
  exact ⟨o, h1, h5.1, h5.2.1, h5.2.2⟩
theorem wanted_none {o : Oper} (h : o.guard = none) (y : Nat → Option Bool) : Region.wanted o y = true := by simp [Region.wanted, h]
section
variable {P : Program} {ops : Array Oper} {Q : Exit → Act → World → Prop} {S : World → Prop} {fuel : Nat} {listed : Array Bool} {a : Act} {w : World}
theorem takeH {i : Nat} {op : Op} {d : Nat} {v : Value} (hc : opIs ops i op (some d)) (hs : Region.noSelect ops = true) (hf : Region.free .any ops listed i = true) (hr : (Region.ready .any ops listed).contains i = true)
    (hQ : ∀ c (a : Act) d v w, Q (.panic c) (a.put d v) w → Q (.panic c) a w) (hrun : ∀ w, S w → ∀ o : Oper, o.op = op → (execOp a.eval o).run P w = .ok (.value v) w) (hS : S w)
    (h : wpAnyH P .any ops Q S fuel (listed.setIfInBounds i true) (a.put (some d) v) w) : wpAnyH P .any ops Q S (fuel + 1) listed a w := by
  obtain ⟨o, h1, h2, h3, h4⟩ := hc.get
  exact wpAnyH_take h1 hs hf hr (fun _ _ _ h => hQ _ _ _ _ _ h) (.inl ⟨wanted_none h2 _, fun w hw => hrun w hw o h3⟩) hS (by rw [h4]; exact h)
theorem wpAnyH_as {l l' : Array Bool} (hl : l = l') (h : wpAnyH P .any ops Q S fuel l' a w) : wpAnyH P .any ops Q S fuel l a w := by rw [hl]; exact h
/-- one operation alone may come up -/
theorem readyH {i : Nat} {op : Op} {d : Option Nat} (hc : opIs ops i op d) (hr : Region.ready .any ops listed = [i])
    (h : ∀ o : Oper, o.op = op → o.dst = d → Oper.wp P o a w (fun a' w' => S w' ∧ wpAnyH P .any ops Q S fuel (listed.setIfInBounds i true) a' w') Q) : wpAnyH P .any ops Q S (fuel + 1) listed a w := by
  obtain ⟨o, h1, h2, h3, h4⟩ := hc.get
  refine wpAnyH_all hr (by simp) (fun j hj => ?_)
  obtain rfl : j = i := by simpa using hj
  unfold wpOp
  simp only [h1]
  rw [if_pos (wanted_none h2 _)]
  exact .inl (h o h3 h4)
end
theorem eval_put_ne (a : Act) (d s : Nat) (v : Value) (h : d ≠ s) : (a.put (some d) v).eval (.tmp s) = a.eval (.tmp s) := by
  simp [Act.put, Act.eval, Array.getElem?_setIfInBounds_ne h]
theorem eval_put_eq (a : Act) (d : Nat) (v : Value) (h : d < a.tmps.size) : (a.put (some d) v).eval (.tmp d) = v := by
  simp [Act.put, Act.eval, h]
theorem size_put (a : Act) (d : Nat) (v : Value) : (a.put (some d) v).tmps.size = a.tmps.size := by simp [Act.put]
theorem run_move {P : Program} {a : Act} {o : Oper} {x : Operand} {v : Value} (ho : o.op = .move x) (he : a.eval x = v) (w : World) : (execOp a.eval o).run P w = .ok (.value v) w := by
  unfold execOp
  simp only [ho, he]
  rfl
theorem run_nilCheck {P : Program} {a : Act} {o : Oper} {x : Operand} {p : Addr} (ho : o.op = .nilCheck x) (he : a.eval x = .pointer (some p)) (w : World) : (execOp a.eval o).run P w = .ok (.value (.pointer (some p))) w := by
  unfold execOp
  simp only [ho, he]
  go_simp
end Go.Proofs.YtfkbgodfcnmepabDoor
