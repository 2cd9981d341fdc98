import Derived.Test.YtfkbgodfcnmepabDoorEng
namespace Go.Proofs.YtfkbgodfcnmepabDoor
set_option linter.unusedSimpArgs false
set_option linter.unusedVariables false
open Go.ChangeShapes Go.WideShapes Go.ChangeAt Go.RowKit Go.Pin
section
variable {P : Program} {ops : Array Oper} {Q : Exit → Act → World → Prop} {S : World → Prop} {fuel : Nat} {listed : Array Bool} {a : Act} {w : World}
theorem wp_of_run {o : Oper} {v : Value} {K : Act → World → Prop} (hrun : (execOp a.eval o).run P w = .ok (.value v) w) (h : K (a.put o.dst v) w) : Oper.wp P o a w K Q := by
  unfold Oper.wp
  rw [hrun]
  exact h
/-- one operation that yields a value alone may come up -/
theorem readyLd1 {i : Nat} {op : Op} {d : Nat} {v : Value} (hc : opIs ops i op (some d)) (hr : Region.ready .any ops listed = [i]) (hS : S w)
    (hrun : ∀ o : Oper, o.op = op → (execOp a.eval o).run P w = .ok (.value v) w) (h : wpAnyH P .any ops Q S fuel (listed.setIfInBounds i true) (a.put (some d) v) w) : wpAnyH P .any ops Q S (fuel + 1) listed a w :=
  readyH hc hr (fun o h1 h2 => wp_of_run (hrun o h1) ⟨hS, by rw [h2]; exact h⟩)
/-- two of them, in either order -/
theorem readyLd2 {i j : Nat} {op oq : Op} {d e : Nat} {v u : Value} (hi : opIs ops i op (some d)) (hj : opIs ops j oq (some e)) (hde : d ≠ e) (hij : i ≠ j) (hr : Region.ready .any ops listed = [i, j])
    (hr1 : Region.ready .any ops (listed.setIfInBounds i true) = [j]) (hr2 : Region.ready .any ops (listed.setIfInBounds j true) = [i]) (hS : S w)
    (run1 : ∀ o : Oper, o.op = op → (execOp a.eval o).run P w = .ok (.value v) w) (run2 : ∀ o : Oper, o.op = oq → (execOp a.eval o).run P w = .ok (.value u) w)
    (run1' : ∀ o : Oper, o.op = op → (execOp (a.put (some e) u).eval o).run P w = .ok (.value v) w) (run2' : ∀ o : Oper, o.op = oq → (execOp (a.put (some d) v).eval o).run P w = .ok (.value u) w)
    (h : wpAnyH P .any ops Q S fuel ((listed.setIfInBounds i true).setIfInBounds j true) ((a.put (some d) v).put (some e) u) w) : wpAnyH P .any ops Q S (fuel + 2) listed a w := by
  obtain ⟨o1, h1, g1, p1, q1⟩ := hi.get
  obtain ⟨o2, h2, g2, p2, q2⟩ := hj.get
  refine wpAnyH_all hr (by simp) (fun k hk => ?_)
  simp only [List.mem_cons, List.not_mem_nil, or_false] at hk
  rcases hk with rfl | rfl
  · unfold wpOp
    simp only [h1]
    rw [if_pos (wanted_none g1 _)]
    refine .inl (wp_of_run (run1 o1 p1) ⟨hS, ?_⟩)
    rw [q1]
    exact readyLd1 hj hr1 hS run2' h
  · unfold wpOp
    simp only [h2]
    rw [if_pos (wanted_none g2 _)]
    refine .inl (wp_of_run (run2 o2 p2) ⟨hS, ?_⟩)
    rw [q2]
    refine readyLd1 hi hr2 hS run1' ?_
    have e1 : (a.put (some e) u).put (some d) v = (a.put (some d) v).put (some e) u := by
      simp only [Act.put]
      rw [Array.setIfInBounds_comm _ _ (fun e' => hde e'.symm)]
    rw [e1, Array.setIfInBounds_comm _ _ (fun e' => hij e'.symm)]
    exact h
end
end Go.Proofs.YtfkbgodfcnmepabDoor
