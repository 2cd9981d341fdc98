import Derived.Test.YtfobiejgkdbidabTroD
namespace Go.Proofs.Ytfobiejgkdbidab
set_option linter.unusedSimpArgs false
set_option linter.unusedVariables false
open Go.ChangeShapes Go.WideShapes Go.ChangeAt Go.RowKit Go.Pin
theorem sh_some {v : Value} {n : Nat} (h : Sh v n) (hn : 0 < n) : ∃ g c, v = .slice (some ⟨g, 0, none⟩) n c := by
  rcases h with ⟨_, h⟩ | h
  · omega
  · exact h
theorem sh_len' {v : Value} {n : Nat} (h : Sh v n) : ∃ a c, v = .slice a n c := by
  rcases h with ⟨rfl, rfl⟩ | ⟨g, c, rfl⟩
  · exact ⟨_, _, rfl⟩
  · exact ⟨_, _, rfl⟩
theorem sl2_at {W : World} {g n c : Nat} {l : List (Int × Int)} (h : Sl W (.slice (some ⟨g, 0, none⟩) n c) 2 (evC l) n) {k : Nat} {x y : Int} (hk : l[k]? = some (x, y)) (hn : k < n) :
    W.cell? ⟨g, k * 2, none⟩ = some (.int .i64 x) ∧ W.cell? ⟨g, k * 2 + 1, none⟩ = some (.int .i64 y) := by
  obtain ⟨_, a, c', e, _, h⟩ := h
  cases e
  rcases h with h0 | ⟨b, o, e2, hc⟩
  · omega
  cases e2
  have p := hc _ _ (evC_at l k _ hk).1
  have q := hc _ _ (evC_at l k _ hk).2
  rw [Nat.zero_add] at p q
  exact ⟨p, q⟩
theorem sl3_at {W : World} {g n c : Nat} {l : List (Int × Int × Int)} (h : Sl W (.slice (some ⟨g, 0, none⟩) n c) 3 (rnC l) n) {k : Nat} {x y z : Int} (hk : l[k]? = some (x, y, z)) (hn : k < n) :
    W.cell? ⟨g, k * 3, none⟩ = some (.int .i64 x) ∧ W.cell? ⟨g, k * 3 + 1, none⟩ = some (.int .i64 y) ∧ W.cell? ⟨g, k * 3 + 2, none⟩ = some (.int .i64 z) := by
  obtain ⟨_, a, c', e, _, h⟩ := h
  cases e
  rcases h with h0 | ⟨b, o, e2, hc⟩
  · omega
  cases e2
  have p := hc _ _ (rnC_at l k _ hk).1
  have q := hc _ _ (rnC_at l k _ hk).2.1
  have r := hc _ _ (rnC_at l k _ hk).2.2
  rw [Nat.zero_add] at p q r
  exact ⟨p, q, r⟩
end Go.Proofs.Ytfobiejgkdbidab
