import Derived.Test.YtigapdfefapdgaaTraceOp
namespace Go.Proofs.Ytigapdfefapdgaa
set_option linter.unusedSimpArgs false
open Go.ChangeShapes Go.WideShapes Go.ChangeAt Go.RowKit Go.Pin
theorem dn {w : World} (m : Nat) : Below w.heap.size w (w.drewN m) := below_drewN' (Below.refl _ _) m
/-- two Recorders that have nothing in common -/
def Two (B : Nat) (w0 w : World) (R1 : Nat) (vs1 : Value) (la : List (Int × Int)) (R2 : Nat) (vs2 : Value) (lb : List (Int × Int)) : Prop :=
  Rec B w R1 vs1 la ∧ Rec B w R2 vs2 lb ∧ (∀ k, Blk R1 vs1 k → ¬ Blk R2 vs2 k) ∧ Below B w0 w ∧ B ≤ w.heap.size
theorem Two.left {B : Nat} {w0 w w' : World} {R1 : Nat} {vs1 : Value} {la : List (Int × Int)} {R2 : Nat} {vs2 : Value} {lb : List (Int × Int)} {o : Option (Int × Int)} (h : Two B w0 w R1 vs1 la R2 vs2 lb) (hl : LoggedO B R1 vs1 la o w w') :
    ∃ vs, Two B w0 w' R1 vs (la ++ o.toList) R2 vs2 lb := by
  obtain ⟨r1, r2, hd, hb, hB⟩ := h
  obtain ⟨vs, r1', hg, hv⟩ := hl
  refine ⟨vs, r1', r2.grow hg (fun k hk h => hd k h hk), ?_, hb.trans (hg.below r1.ge hB), Nat.le_trans hB hg.size⟩
  rintro k (rfl | hk) hk2
  · exact hd k (.inl rfl) hk2
  · rcases hv with hv | ⟨g, hv, hge⟩
    · exact hd k (.inr (hv ▸ hk)) hk2
    · have := r2.lt k hk2
      rw [hv] at hk
      cases hk
      omega
theorem Two.swap {B : Nat} {w0 w : World} {R1 : Nat} {vs1 : Value} {la : List (Int × Int)} {R2 : Nat} {vs2 : Value} {lb : List (Int × Int)} (h : Two B w0 w R1 vs1 la R2 vs2 lb) : Two B w0 w R2 vs2 lb R1 vs1 la :=
  ⟨h.2.1, h.1, fun k h1 h2 => h.2.2.1 k h2 h1, h.2.2.2⟩
theorem Two.right {B : Nat} {w0 w w' : World} {R1 : Nat} {vs1 : Value} {la : List (Int × Int)} {R2 : Nat} {vs2 : Value} {lb : List (Int × Int)} {o : Option (Int × Int)} (h : Two B w0 w R1 vs1 la R2 vs2 lb) (hl : LoggedO B R2 vs2 lb o w w') :
    ∃ vs, Two B w0 w' R1 vs1 la R2 vs (lb ++ o.toList) := by
  obtain ⟨vs, h'⟩ := h.swap.left hl
  exact ⟨vs, h'.swap⟩
theorem Two.below {B : Nat} {w0 w w' : World} {R1 : Nat} {vs1 : Value} {la : List (Int × Int)} {R2 : Nat} {vs2 : Value} {lb : List (Int × Int)} (h : Two B w0 w R1 vs1 la R2 vs2 lb) (hb : Below w.heap.size w w') : Two B w0 w' R1 vs1 la R2 vs2 lb :=
  ⟨h.1.below hb, h.2.1.below hb, h.2.2.1, h.2.2.2.1.trans (hb.mono h.2.2.2.2), Nat.le_trans h.2.2.2.2 hb.size⟩
theorem two_new (w : World) : Two w.heap.size w ((w.alloc (.cells #[.slice none 0 0, .int .i64 0] 32)).alloc (.cells #[.slice none 0 0, .int .i64 0] 32)) w.heap.size (.slice none 0 0) [] (w.heap.size + 1) (.slice none 0 0) [] := by
  refine ⟨(rec_new w).below ((Below.refl _ _).alloc (Nat.le_refl _) _), ?_, ?_, ((Below.refl _ w).alloc (Nat.le_refl _) _).alloc (by simp) _, by simp; omega⟩
  · have := rec_new (w.alloc (.cells #[.slice none 0 0, .int .i64 0] 32))
    simp only [World.size_alloc] at this
    exact this.mono (by omega)
  · rintro k (rfl | hk) (h | h)
    · omega
    · cases h
    · cases hk
    · cases h
/-- an element of a script, read later -/
theorem step_at {w wr : World} {a : Option Addr} {n c : Nat} {l : List (Int × Int × Bool)} (hs : Sl w (.slice a n c) 3 (stC l) n) (hl : l.length = n) (hb : Below w.heap.size w wr) {i : Nat} (hi : i < n) :
    ∃ b o xk xv xb, a = some ⟨b, o, none⟩ ∧ l[i]? = some (xk, xv, xb) ∧ wr.cell? ⟨b, o + i * 3, none⟩ = some (.int .i64 xk) ∧ wr.cell? ⟨b, o + i * 3 + 1, none⟩ = some (.int .i64 xv) ∧ wr.cell? ⟨b, o + i * 3 + 2, none⟩ = some (.bool xb) := by
  obtain ⟨_, a', c', he, _, hs⟩ := hs
  cases he
  rcases hs with h0 | ⟨b, o, rfl, hca⟩
  · omega
  obtain ⟨⟨xk, xv, xb⟩, e1⟩ : ∃ x, l[i]? = some x := ⟨_, List.getElem?_eq_getElem (by rw [hl]; exact hi)⟩
  obtain ⟨p1, p2, p3⟩ := stC_at l i _ e1
  have c1 := hca _ _ p1
  have c2 := hca _ _ p2
  have c3 := hca _ _ p3
  simp only at c1 c2 c3
  rw [← Nat.add_assoc] at c2 c3
  exact ⟨b, o, xk, xv, xb, rfl, e1, (hb.cell (World.block_lt_of_cell? w _ c1)).trans c1, (hb.cell (World.block_lt_of_cell? w _ c2)).trans c2, (hb.cell (World.block_lt_of_cell? w _ c3)).trans c3⟩
theorem take_done {l : List (Int × Int × Bool)} {i : Nat} (h : ¬ i < l.length) : l.take (i + 1) = l.take i := by
  rw [List.take_of_length_le (by omega), List.take_of_length_le (by omega)]
theorem take_2000 {l : List (Int × Int × Bool)} {i : Nat} (h : i = 2000 ∨ (¬ i < l.length ∧ i ≤ 2000)) : l.take i = l.take 2000 := by
  rcases h with rfl | ⟨h, h2⟩
  · rfl
  · rw [List.take_of_length_le (by omega), List.take_of_length_le (by omega)]
theorem lg_bd (l : List (Int × Int × Bool)) {i : Nat} (h : i ≤ 2000) : (lg (l.take i)).length ≤ 2000 := by
  have := lg_len (l.take i)
  rw [List.length_take] at this
  omega
end Go.Proofs.Ytigapdfefapdgaa
