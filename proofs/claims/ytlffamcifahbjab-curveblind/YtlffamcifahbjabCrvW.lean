import Derived.Test.YtlffamcifahbjabCrvP
namespace Go.Proofs.Ytlffamcifahbjab
set_option linter.unusedSimpArgs false
set_option linter.unusedVariables false
open Go.ChangeShapes Go.WideShapes Go.ChangeAt Go.RowKit Go.Pin Go.Fld
theorem wrap8 (x : Int) (h0 : 0 ≤ x) (h1 : x < 256) : IntKind.u8.wrap x = x := by
  have h : ∀ n : Fin 256, IntKind.u8.wrap (n.val : Int) = (n.val : Int) := by decide +kernel
  have := h ⟨x.toNat, by omega⟩
  rw [show ((x.toNat : Nat) : Int) = x by omega] at this
  exact this
section
variable {B : Nat} {w : World} {rv : Value} {l : List (Int × Int)} {wr : World}
theorem Ev.setK {g : Nat} {L : List Int} {b2 : List (Nat × Obj)} (h : Ev B w rv l ((g, bxK L) :: b2) wr) (hne : ∀ p ∈ b2, p.1 ≠ g) (i : Nat) (v : Int) : Ev B w rv l ((g, bxK (L.set i v)) :: b2) (wr.setCell ⟨g, i, none⟩ (.int .u8 v)) :=
  h.set rfl hne ((But.refl (fun k => k = g) wr).setCell (p := ⟨g, i, none⟩) rfl _) (rowB_set (h.row (g := g) (x := bxK L) (by simp)) i v)
theorem Ev.cellK {g : Nat} {L : List Int} {bx : List (Nat × Obj)} (h : Ev B w rv l bx wr) (hm : (g, bxK L) ∈ bx) {i : Nat} (hi : i < L.length) : wr.cell? ⟨g, i, none⟩ = some (.int .u8 (L.getD i 0)) := rowB_cell (h.row hm) hi
theorem Ev.frozK {g : Nat} {L : List Int} {bx : List (Nat × Obj)} (h : Ev B w rv l bx wr) (hm : (g, bxK L) ∈ bx) (i : Nat) : wr.frozen? ⟨g, i, none⟩ = false := frozen_of_row wr _ _ _ _ (h.row hm)
theorem Ev.fresh {bx : List (Nat × Obj)} (h : Ev B w rv l bx wr) : ∀ p ∈ bx, p.1 ≠ wr.heap.size := fun p hp => Nat.ne_of_lt (h.lt (g := p.1) (x := p.2) hp)
end
theorem eqK {x : List Int} (h : x.length = 32) (w : World) : (Op.equalIn 10000 23 (.agg (VI .u8 x)) (.agg (VI .u8 x))).run Try.prog w = .ok true w :=
  (run_equalIn_row w 9998 23 5 .u8 32 x x h h Try.underlying23 Try.underlying5 size5).trans (by rw [beq_self_eq_true])
end Go.Proofs.Ytlffamcifahbjab
