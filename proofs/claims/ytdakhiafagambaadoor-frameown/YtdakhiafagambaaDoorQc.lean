import Derived.BigQuiet
import Derived.Deep.QuietTactic
/- a drawn region whose own operations only read and whose calls leave a world of a class R: ONE walk, in the text's order; of no dump -/
namespace Go.Pin
theorem wp_region_cls {P : Program} (R : World → Prop) {id : Nat} {Q : Exit → Act → World → Prop} {a : Act} {w : World} {l : List Oper} (hm : P.follows .mixedOrders = true) (hB : Region.lexB .any l.toArray = true) (hC : R { w with drawn := w.drawn + 1 })
    (h : ∀ (S : Type) (f : S → World), Nonempty S → (∀ x, R (f x)) → (∀ Y, R Y → ∃ x, Y = f x) → wpQuiet P l.toArray (fun w' => ∃ x, w' = f x) (fun a' => ∀ w', (∃ x, w' = f x) → Q .normal a' w') l a) : (Code.region id l.toArray true).wp P Q a w := by
  have := h {w // R w} Subtype.val ⟨⟨_, hC⟩⟩ (fun x => x.2) (fun Y hY => ⟨⟨Y, hY⟩, rfl⟩)
  exact wp_region_quiet (C := fun w' => ∃ x : {w // R w}, w' = x.val) hm hB ⟨⟨_, hC⟩, rfl⟩ (by simpa using this)
theorem quiet_load {P : Program} {o : Oper} {a : Act} {S : Type} {f : S → World} {K : Act → Prop} (ty : TypeId) (x : Operand) (ho : o.op = .load ty x) (p : Value) (hx : a.eval x = p) (v : Value) (h : ∀ s, (Instr.loadAt ty p).run P (f s) = .ok v (f s)) (hk : K (a.put o.dst v)) : o.quiet P a (fun w' => ∃ x, w' = f x) K :=
  ⟨v, fun w hw => by
    obtain ⟨s, rfl⟩ := hw
    unfold Oper.quietAt execOp
    simp only [ho, hx, Sem.run_bind, Sem.run_pure, Result.andThen_ok, h s]
    exact ⟨rfl, rfl⟩, hk⟩
end Go.Pin
