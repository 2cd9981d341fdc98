import Derived.Test.YtdakhiafagambaaDoorFrA
import Derived.Test.YtdakhiafagambaaDoorQm
/- stage 20: a value taken ahead in a drawn region whose last operation writes -/
namespace Go.Proofs.YtdakhiafagambaaDoor
set_option linter.unusedSimpArgs false
set_option linter.unusedVariables false
open Go.ChangeShapes Go.WideShapes Go.ChangeAt Go.RowKit Go.Pin
theorem takeLV {P : Program} {ops : Array Oper} {Q : Exit → Act → World → Prop} {S : World → Prop} {m fuel : Nat} {listed : Array Bool} {a : Act} {w : World} (i : Nat) (v : Value) {o om : Oper} (hi : ops[i]? = some o) (hm : ops[m]? = some om) (hwt : (om.after.any fun e => Region.binds .any e && e.on == i) = true) (hs : Region.noSelect ops = true) (hf : Region.free .any ops listed i = true) (hr : (Region.ready .any ops listed).contains i = true)
    (hQ : ∀ c (a : Act) d v w, Q (.panic c) (a.put d v) w → Q (.panic c) a w) (hS : S w) (hw : Region.wanted o (yielded ops a.tmps) = true)
    (hrun : ∀ w, S w → (execOp a.eval o).run P w = .ok (.value v) w) (h : Go.Pin.wpL P ops Q S m fuel (listed.setIfInBounds i true) (a.put o.dst v) w) : Go.Pin.wpL P ops Q S m (fuel + 1) listed a w := by
  have hwait : ∃ e ∈ om.after, Region.binds .any e = true ∧ e.on = i := by
    obtain ⟨k, hk, e⟩ := Array.any_eq_true.1 hwt
    rw [Bool.and_eq_true] at e
    exact ⟨_, Array.getElem_mem hk, e.1, by simpa using e.2⟩
  exact Go.Pin.wpL_first hi (Region.noSelect_spec hs) (fun _ _ _ h => hQ _ _ _ _ _ h) hm hwait fuel listed a w (Region.free_spec hi hf) (by simpa using hr) (.inl ⟨hw, hrun⟩) hS h
end Go.Proofs.YtdakhiafagambaaDoor
