import Derived.Test.YtfkbgodfcnmepabDoorRows
import Derived.Test.YtfkbgodfcnmepabDoorPin
namespace Go.Proofs.YtfkbgodfcnmepabDoor
set_option linter.unusedSimpArgs false
open Go.ChangeShapes Go.WideShapes Go.ChangeAt Go.RowKit Go.Pin
/-- the cells of a list of events -/
def evC (l : List (Int × Int)) : List Value := l.flatMap fun e => [.int .i64 e.1, .int .i64 e.2]
theorem evC_len (l : List (Int × Int)) : (evC l).length = l.length * 2 := by
  induction l with
  | nil => rfl
  | cons e l ih => simp only [evC, List.flatMap_cons, List.length_append] at ih ⊢; rw [ih]; simp; omega
theorem evC_at (l : List (Int × Int)) (i : Nat) (e : Int × Int) (h : l[i]? = some e) : (evC l)[i * 2]? = some (.int .i64 e.1) ∧ (evC l)[i * 2 + 1]? = some (.int .i64 e.2) := by
  induction l generalizing i with
  | nil => simp at h
  | cons x l ih =>
    cases i with
    | zero => simp at h; subst h; exact ⟨rfl, rfl⟩
    | succ i =>
      have := ih i (by simpa using h)
      rw [show (i + 1) * 2 = i * 2 + 1 + 1 by omega]
      exact this
theorem drewN_add (w : World) (n m : Nat) : (w.drewN n).drewN m = w.drewN (n + m) := by
  simp [World.drewN, Nat.add_assoc]
/-- a slice of n elements of sz cells: what it holds -/
def Sl (w : World) (v : Value) (sz : Nat) (cs : List Value) (n : Nat) : Prop :=
  cs.length = n * sz ∧ ∃ a c, v = .slice a n c ∧ n ≤ c ∧ (n = 0 ∨ ∃ b o, a = some ⟨b, o, none⟩ ∧ ∀ j x, cs[j]? = some x → w.cell? ⟨b, o + j, none⟩ = some x)
theorem evC_drop (l : List (Int × Int)) (n : Nat) : evC (l.drop n) = (evC l).drop (n * 2) := by
  induction n generalizing l with
  | zero => simp
  | succ n ih =>
    cases l with
    | nil => simp [evC]
    | cons x l =>
      rw [List.drop_succ_cons, ih, show (n + 1) * 2 = n * 2 + 2 by omega]
      rfl
theorem evC_app (a b : List (Int × Int)) : evC (a ++ b) = evC a ++ evC b := by simp [evC]
theorem owns_below {w w' : World} {base : Nat} {e : TypeId} {size : Nat} {v : Value} {n : Nat} {xs : List Value} (h : w.ownsRow base e size v n xs) (hb : Below w.heap.size w w') : w'.ownsRow base e size v n xs :=
  h.kept (row := none) ⟨hb.os, hb.tape, hb.output, hb.size, fun k hk _ => hb.block k hk⟩ (by cases hv : v.ownBlock <;> simp)
theorem info37 : (Tryd.prog.info? 68).map (fun i => (i.zero, i.size, i.bytes)) = some (some (.agg #[.int .i64 0, .int .i64 0]), 2, 16) := by kernel_rfl
end Go.Proofs.YtfkbgodfcnmepabDoor
