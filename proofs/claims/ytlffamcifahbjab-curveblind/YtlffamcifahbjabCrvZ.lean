import Derived.Test.YtlffamcifahbjabCrvW
import Derived.Test.YtlffamcifahbjabCrvN
namespace Go.Proofs.Ytlffamcifahbjab
set_option linter.unusedSimpArgs false
set_option linter.unusedVariables false
open Go.ChangeShapes Go.WideShapes Go.ChangeAt Go.RowKit Go.Pin Go.Fld
/-- a Recorder as New makes it -/
abbrev bxR : Obj := .cells #[.slice none 0 0, .int .i64 0] 55
theorem Ev.recOf {B : Nat} {w : World} {R : Nat} {l : List (Int × Int)} {bx : List (Nat × Obj)} {W : World} (h : Ev B w (.pointer (some ⟨R, 0, none⟩)) l bx W) : ∃ vs, Rec B W R vs l ∧ ∀ p ∈ bx, ¬ Blk R vs p.1 := by
  rcases h.rc with e | ⟨R', vs, e, h2, h3⟩
  · cases e
  · injection e with e; injection e with e; injection e with e1; subst e1
    exact ⟨vs, h2, h3⟩
theorem rec_zero {B : Nat} {W : World} {S : Nat} (hS : W.heap[S]? = some bxR) (hB : B ≤ S) : Rec B W S (.slice none 0 0) [] :=
  ⟨hB, hS, World.ownsRow_nil _ _ _ _⟩
theorem ev_switch {B : Nat} {w W : World} {S : Nat} {bx : List (Nat × Obj)} (hold : Below B w W) (hle : B ≤ W.heap.size) (hS : W.heap[S]? = some bxR) (hB : B ≤ S) (hge : ∀ p ∈ bx, B ≤ p.1) (hat : ∀ p ∈ bx, W.heap[p.1]? = some p.2) (hne : ∀ p ∈ bx, p.1 ≠ S) :
    Ev B w (.pointer (some ⟨S, 0, none⟩)) [] bx W :=
  ⟨hold, hle, hge, hat, .inr ⟨S, _, rfl, rec_zero hS hB, fun p hp hk => by
    rcases hk with hk | hk
    · exact hne p hp hk
    · cases hk⟩⟩
theorem blk_list {B : Nat} {W : World} {R : Nat} {vs : Value} {l : List (Int × Int)} (h : Rec B W R vs l) : ∃ bl : List (Nat × Obj), (∀ k, Blk R vs k → ∃ o, (k, o) ∈ bl) ∧ (∀ p ∈ bl, Blk R vs p.1 ∧ W.heap[p.1]? = some p.2) := by
  have g : ∀ k, Blk R vs k → ∃ o, W.heap[k]? = some o := fun k hk => ⟨_, Array.getElem?_eq_getElem (h.lt k hk)⟩
  obtain ⟨o1, h1⟩ := g R (.inl rfl)
  cases hv : vs.ownBlock with
  | none =>
    refine ⟨[(R, o1)], fun k hk => ?_, fun p hp => ?_⟩
    · rcases hk with rfl | hk
      · exact ⟨o1, by simp⟩
      · rw [hv] at hk; cases hk
    · simp at hp; subst hp; exact ⟨.inl rfl, h1⟩
  | some g2 =>
    obtain ⟨o2, h2⟩ := g g2 (.inr hv)
    refine ⟨[(R, o1), (g2, o2)], fun k hk => ?_, fun p hp => ?_⟩
    · rcases hk with rfl | hk
      · exact ⟨o1, by simp⟩
      · rw [hv] at hk; injection hk with hk; subst hk; exact ⟨o2, by simp⟩
    · simp at hp
      rcases hp with rfl | rfl
      · exact ⟨.inl rfl, h1⟩
      · exact ⟨.inr hv, h2⟩
/-- another Recorder's blocks were boxes -/
theorem Ev.keeps {B : Nat} {W W' : World} {rv : Value} {m l : List (Int × Int)} {bx : List (Nat × Obj)} {R : Nat} {vs : Value} (h : Ev B W rv m bx W') (hr : Rec B W R vs l) (hb : ∀ k, Blk R vs k → ∃ o, (k, o) ∈ bx ∧ W.heap[k]? = some o) : Rec B W' R vs l := by
  refine hr.grow (S := fun k => ¬ Blk R vs k) ⟨h.old.os, h.old.tape, h.old.output, h.old.size, fun k hk hn => ?_⟩ (fun k hk hn => hn hk)
  have hk' : Blk R vs k := Classical.byContradiction hn
  obtain ⟨o, h1, h2⟩ := hb k hk'
  rw [h.row h1, h2]
end Go.Proofs.Ytlffamcifahbjab
