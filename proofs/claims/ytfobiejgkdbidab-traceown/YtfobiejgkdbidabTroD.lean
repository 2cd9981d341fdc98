import Derived.Test.YtfobiejgkdbidabTroC
namespace Go.Proofs.Ytfobiejgkdbidab
set_option linter.unusedSimpArgs false
set_option linter.unusedVariables false
open Go.ChangeShapes Go.WideShapes Go.ChangeAt Go.RowKit Go.Pin
theorem Os.two {B : Nat} {w W : World} {it : Nat → It} (h : Os B w it W) (c : Nat) {e : TypeId} {sz : Nat} {v : Value} {n : Nat} {xs : List Value} (he : it c = itRow B e sz v n xs) : Os B w (upd it c (itTwo B e sz v n xs v n [])) W := by
  have h0 := h.row c he
  refine h.grow c ⟨rfl, rfl, rfl, Nat.le_refl _, fun _ _ _ => rfl⟩ _ ⟨⟨sl_of_owns h0, sh_owns h0, fun k hk => (h0.lt k hk).2⟩, by rw [List.append_nil]; exact h0⟩ (fun k hk => .inl (by rw [he]; exact hk.elim id id))
theorem Os.twoAt {B : Nat} {w W : World} {it : Nat → It} (h : Os B w it W) (c : Nat) {e : TypeId} {sz : Nat} {v1 v2 : Value} {n1 n2 : Nat} {xs ys : List Value} (he : it c = itTwo B e sz v1 n1 xs v2 n2 ys) :
    (Sl W v1 sz xs n1 ∧ Sh v1 n1 ∧ ∀ k, v1.ownBlock = some k → k < W.heap.size) ∧ W.ownsRow B e sz v2 n2 (xs ++ ys) := by have := h.hold c; rw [he] at this; exact this
theorem Os.app {B : Nat} {w W W' : World} {it : Nat → It} (h : Os B w it W) (c : Nat) {e : TypeId} {sz : Nat} {v1 v2 v' : Value} {n1 n2 m : Nat} {xs ys news : List Value} (he : it c = itTwo B e sz v1 n1 xs v2 n2 ys)
    (k1 : W'.ownsRow B e sz v' (n2 + m) (xs ++ ys ++ news)) (k2 : W.grownBy W' v2.ownBlock) (k3 : Sl W' v2 sz (xs ++ ys) n2) (k4 : v'.ownBlock = v2.ownBlock ∨ v'.ownBlock = some W.heap.size) :
    Os B w (upd it c (itTwo B e sz v1 n1 xs v' (n2 + m) (ys ++ news))) W' := by
  obtain ⟨⟨p1, p2, p3⟩, p4⟩ := h.twoAt c he
  refine h.grow c ?_ _ ⟨⟨two_app p1 p2 p4 k2 k3, p2, fun k hk => Nat.lt_of_lt_of_le (p3 k hk) k2.size⟩, by rw [← List.append_assoc]; exact k1⟩ (fun k hk => ?_)
  · rw [he]
    exact ⟨k2.os, k2.tape, k2.output, k2.size, fun k hk hn => k2.block k hk (fun q => hn (.inr q.symm))⟩
  · rw [he]
    rcases hk with hk | hk
    · exact .inl (.inl hk)
    · rcases k4 with q | q
      · exact .inl (.inr (q.symm.trans hk))
      · have := q.symm.trans hk; cases this; exact .inr (Nat.le_refl _)
end Go.Proofs.Ytfobiejgkdbidab
