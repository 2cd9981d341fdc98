import Derived.Test.YtefnlaookmpbhaaStrB
namespace Go.Proofs.Ytefnlaookmpbhaa
set_option linter.unusedSimpArgs false
set_option linter.unusedVariables false
open Go.ChangeShapes Go.WideShapes Go.ChangeAt Go.RowKit Go.Pin Go.Str
/-- a box of bytes -/
structure RB (w : World) (g : Nat) (L : List Nat) (T : TypeId) (fr : Nat × Nat) : Prop where
  row : w.heap[g]? = some (.cells (VN .u8 L) T fr)
  ok : fr = (0, 0) ∨ L.length ≤ fr.1
  bd : ∀ x ∈ L, x < 256
theorem RB.froz {w : World} {g : Nat} {L : List Nat} {T : TypeId} {fr : Nat × Nat} (h : RB w g L T fr) {j : Nat} (hj : j < L.length) : w.frozen? ⟨g, j, none⟩ = false := by
  obtain ⟨lo, hi⟩ := fr
  simp only [World.frozen?, h.row]
  rcases h.ok with e | e
  · simp only [Prod.mk.injEq] at e
    simp [e.1, e.2]
  · have : ¬ lo ≤ j := by simp at e; omega
    simp [this]
theorem RB.cell {w : World} {g : Nat} {L : List Nat} {T : TypeId} {fr : Nat × Nat} (h : RB w g L T fr) {i : Nat} (hi : i < L.length) : w.cell? ⟨g, i, none⟩ = some (.int .u8 ((L.getD i 0 : Nat) : Int)) := by
  rw [cell_of_row _ _ _ _ _ _ h.row, VN_at _ _ _ hi]
theorem RB.at {w : World} {g : Nat} {L : List Nat} {T : TypeId} {fr : Nat × Nat} (h : RB w g L T fr) (i : Nat) : L.getD i 0 < 256 := (Bs.mk rfl h.bd).at i
theorem RB.set {w : World} {g : Nat} {L : List Nat} {T : TypeId} {fr : Nat × Nat} (h : RB w g L T fr) (i v : Nat) (hv : v < 256) : RB (w.setCell ⟨g, i, none⟩ (.int .u8 (v : Int))) g (L.set i v) T fr := by
  refine ⟨?_, by rw [List.length_set]; exact h.ok, fun x hx => ?_⟩
  · rw [← VN_set]
    simp [World.setCell, Array.getElem?_modify, h.row]
  · rcases List.mem_or_eq_of_mem_set hx with hx | rfl
    · exact h.bd x hx
    · exact hv
theorem or_word (x0 x1 x2 x3 : Nat) (r0 : x0 < 256) (r1 : x1 < 256) (r2 : x2 < 256) (r3 : x3 < 256) :
    bits .or .u32 (bits .or .u32 (bits .or .u32 (x0 : Int) ((x1 : Int) * 256)) ((x2 : Int) * 65536)) ((x3 : Int) * 16777216) = ((x0 + 256 * x1 + 65536 * x2 + 16777216 * x3 : Nat) : Int) := by
  have e1 : bits .or .u32 (x0 : Int) ((x1 : Int) * 256) = ((x0 + 256 * x1 : Nat) : Int) := by
    rw [show ((x1 : Int) * 256) = ((x1 * 256 : Nat) : Int) by omega, u32_or_nat _ _ (by omega) (by omega), Nat.or_comm, nat_join 8 (x1 * 256) x0 (by omega) (by omega)]; congr 1; omega
  have e2 : bits .or .u32 ((x0 + 256 * x1 : Nat) : Int) ((x2 : Int) * 65536) = ((x0 + 256 * x1 + 65536 * x2 : Nat) : Int) := by
    rw [show ((x2 : Int) * 65536) = ((x2 * 65536 : Nat) : Int) by omega, u32_or_nat _ _ (by omega) (by omega), Nat.or_comm, nat_join 16 (x2 * 65536) _ (by omega) (by omega)]; congr 1; omega
  rw [e1, e2, show ((x3 : Int) * 16777216) = ((x3 * 16777216 : Nat) : Int) by omega, u32_or_nat _ _ (by omega) (by omega), Nat.or_comm, nat_join 24 (x3 * 16777216) _ (by omega) (by omega)]
  congr 1; omega
set_option maxRecDepth 100000 in
set_option maxHeartbeats 4000000 in
theorem word_any (g o : Nat) (x0 x1 x2 x3 : Nat) (r0 : x0 < 256) (r1 : x1 < 256) (r2 : x2 < 256) (r3 : x3 < 256) (w : World) (c0 : w.cell? ⟨g, o, none⟩ = some (.int .u8 (x0 : Int))) (c1 : w.cell? ⟨g, o + 1, none⟩ = some (.int .u8 (x1 : Int))) (c2 : w.cell? ⟨g, o + 2, none⟩ = some (.int .u8 (x2 : Int))) (c3 : w.cell? ⟨g, o + 3, none⟩ = some (.int .u8 (x3 : Int))) :
    Calls Try.prog 42 #[.pointer (some ⟨g, o, none⟩)] w fun e w' => e = .returned (.int .u32 ((x0 + 256 * x1 + 65536 * x2 + 16777216 * x3 : Nat) : Int)) ∧ But (fun _ => False) w w' := by
  go_enter Try.func42, Try.ntmps42
  go_wp2
  go_quiet (fail)
  go_wp2
  go_ret
  exact ⟨ret_int (or_word x0 x1 x2 x3 r0 r1 r2 r3), rfl, rfl, rfl, rfl, fun _ _ => rfl⟩
theorem cs_same {w : World} {p : Addr} {u : Value} (h : w.cell? p = some u) (v : Value) : (w.setCell p v).cell? p = some v := World.cell?_setCell_same _ _ _ h
theorem xr4 (L : List Nat) (o : Nat) (f : Nat → Nat) (ho : o + 4 ≤ L.length) :
    (((L.set o (L.getD o 0 ^^^ f 0)).set (o + 1) (L.getD (o + 1) 0 ^^^ f 1)).set (o + 2) (L.getD (o + 2) 0 ^^^ f 2)).set (o + 3) (L.getD (o + 3) 0 ^^^ f 3) = xr L o 4 f := by
  apply list_ext (by simp [xr_len])
  intro j hj
  simp only [List.length_set] at hj
  rw [show xr L o 4 f = xp L (seg o 4) (fun j => f (j - o)) from rfl, xp_at _ _ _ _ hj]
  by_cases h : o ≤ j ∧ j < o + 4
  · rw [if_pos (by simp [seg]; omega)]
    obtain ⟨d, rfl⟩ : ∃ d, j = o + d := ⟨j - o, by omega⟩
    rw [show o + d - o = d by omega]
    rcases (by omega : d = 0 ∨ d = 1 ∨ d = 2 ∨ d = 3) with rfl | rfl | rfl | rfl <;> simp [List.getD, List.getElem?_set, show o < L.length by omega, show o + 1 < L.length by omega, show o + 2 < L.length by omega, show o + 3 < L.length by omega]
  · rw [if_neg (by simp [seg]; omega)]
    simp [List.getD, List.getElem?_set, show ¬ o = j by omega, show ¬ o + 1 = j by omega, show ¬ o + 2 = j by omega, show ¬ o + 3 = j by omega]
theorem xb (a x : Nat) (ha : a < 256) : bits .xor .u8 (a : Int) ((x : Int) % 256) = ((a ^^^ (x % 256) : Nat) : Int) := by
  rw [show ((x : Int) % 256) = ((x % 256 : Nat) : Int) by omega]
  exact u8_xor_nat _ _ ha (by omega)
theorem xb_lt (a x : Nat) (ha : a < 256) : a ^^^ (x % 256) < 256 := Nat.xor_lt_two_pow (n := 8) ha (by omega)
set_option maxRecDepth 100000 in
set_option maxHeartbeats 4000000 in
theorem turn_any (g o x : Nat) (hx : x < 4294967296) (L : List Nat) (T : TypeId) (fr : Nat × Nat) (w : World) (h : RB w g L T fr) (ho : o + 4 ≤ L.length) :
    Calls Try.prog 41 #[.pointer (some ⟨g, o, none⟩), .int .u32 (x : Int)] w fun e w' => e = .returned (.tuple #[]) ∧ But (fun k => k = g) w w' ∧ RB w' g (xr L o 4 fun j => x / 256 ^ j % 256) T fr := by
  rw [← xr4 L o _ ho]
  have q0 := xb (L.getD o 0) x (h.at _)
  have q1 := xb (L.getD (o + 1) 0) (x / 256) (h.at _)
  have q2 := xb (L.getD (o + 2) 0) (x / 65536) (h.at _)
  have q3 := xb (L.getD (o + 3) 0) (x / 16777216) (h.at _)
  simp only [Nat.pow_zero, Nat.div_one, Nat.pow_one, show (256 : Nat) ^ 2 = 65536 from rfl, show (256 : Nat) ^ 3 = 16777216 from rfl]
  have b0 := xb_lt (L.getD o 0) x (h.at _)
  have b1 := xb_lt (L.getD (o + 1) 0) (x / 256) (h.at _)
  have b2 := xb_lt (L.getD (o + 2) 0) (x / 65536) (h.at _)
  have b3 := xb_lt (L.getD (o + 3) 0) (x / 16777216) (h.at _)
  have C0 := h.cell (i := o) (by omega)
  have k1 := h.cell (i := o + 1) (by omega)
  have k2 := h.cell (i := o + 2) (by omega)
  have k3 := h.cell (i := o + 3) (by omega)
  generalize L.getD o 0 ^^^ (x % 256) = y0 at *
  generalize L.getD (o + 1) 0 ^^^ (x / 256 % 256) = y1 at *
  generalize L.getD (o + 2) 0 ^^^ (x / 65536 % 256) = y2 at *
  generalize L.getD (o + 3) 0 ^^^ (x / 16777216 % 256) = y3 at *
  generalize L.getD o 0 = x0 at *
  generalize L.getD (o + 1) 0 = x1 at *
  generalize L.getD (o + 2) 0 = x2 at *
  generalize L.getD (o + 3) 0 = x3 at *
  have q1' : bits .xor .u8 (x1 : Int) ((x : Int) / 256 % 256) = (y1 : Int) := by rw [← q1]; congr 1
  have q2' : bits .xor .u8 (x2 : Int) ((x : Int) / 65536 % 256) = (y2 : Int) := by rw [← q2]; congr 1
  have q3' : bits .xor .u8 (x3 : Int) ((x : Int) / 16777216) = (y3 : Int) := by rw [← q3]; congr 1; omega
  clear q1 q2 q3
  have ot : ∀ (W : World) (i j : Nat) (u v : Value), W.cell? ⟨g, j, none⟩ = some u → i ≠ j → (W.setCell ⟨g, i, none⟩ v).cell? ⟨g, j, none⟩ = some u := fun W i j u v hc hn => by
    rw [World.cell?_setCell_other _ _ _ _ (by simp [hn])]; exact hc
  have f0 : ∀ j, j < L.length → w.frozen? ⟨g, j, none⟩ = false := fun j hj => h.froz hj
  have F0 := f0 o (by omega)
  obtain ⟨W1, e1⟩ : ∃ W, w.setCell ⟨g, o, none⟩ (.int .u8 (y0 : Int)) = W := ⟨_, rfl⟩
  have C1 : W1.cell? ⟨g, o + 1, none⟩ = some (.int .u8 (x1 : Int)) := e1 ▸ ot _ _ _ _ _ k1 (by omega)
  have k2 : W1.cell? ⟨g, o + 2, none⟩ = some (.int .u8 (x2 : Int)) := e1 ▸ ot _ _ _ _ _ k2 (by omega)
  have k3 : W1.cell? ⟨g, o + 3, none⟩ = some (.int .u8 (x3 : Int)) := e1 ▸ ot _ _ _ _ _ k3 (by omega)
  have F1 : W1.frozen? ⟨g, o + 1, none⟩ = false := by rw [← e1, World.frozen?_setCell]; exact f0 _ (by omega)
  have HB1 : Hid (But (fun k => k = g) w W1 ∧ RB W1 g (L.set o y0) T fr) := ⟨e1 ▸ (But.refl (fun k => k = g) w).setCell (p := ⟨g, o, none⟩) rfl _, e1 ▸ h.set _ _ b0⟩
  obtain ⟨W2, e2⟩ : ∃ W, W1.setCell ⟨g, o + 1, none⟩ (.int .u8 (y1 : Int)) = W := ⟨_, rfl⟩
  have C2 : W2.cell? ⟨g, o + 2, none⟩ = some (.int .u8 (x2 : Int)) := e2 ▸ ot _ _ _ _ _ k2 (by omega)
  have k3 : W2.cell? ⟨g, o + 3, none⟩ = some (.int .u8 (x3 : Int)) := e2 ▸ ot _ _ _ _ _ k3 (by omega)
  have F2 : W2.frozen? ⟨g, o + 2, none⟩ = false := by rw [← e2, World.frozen?_setCell, ← e1, World.frozen?_setCell]; exact f0 _ (by omega)
  have HB2 : Hid (But (fun k => k = g) w W2 ∧ RB W2 g ((L.set o y0).set (o + 1) y1) T fr) := ⟨e2 ▸ HB1.out.1.setCell rfl _, e2 ▸ HB1.out.2.set _ _ b1⟩
  obtain ⟨W3, e3⟩ : ∃ W, W2.setCell ⟨g, o + 2, none⟩ (.int .u8 (y2 : Int)) = W := ⟨_, rfl⟩
  have C3 : W3.cell? ⟨g, o + 3, none⟩ = some (.int .u8 (x3 : Int)) := e3 ▸ ot _ _ _ _ _ k3 (by omega)
  have F3 : W3.frozen? ⟨g, o + 3, none⟩ = false := by rw [← e3, World.frozen?_setCell, ← e2, World.frozen?_setCell, ← e1, World.frozen?_setCell]; exact f0 _ (by omega)
  have HB3 : Hid (But (fun k => k = g) w W3 ∧ RB W3 g (((L.set o y0).set (o + 1) y1).set (o + 2) y2) T fr) := ⟨e3 ▸ HB2.out.1.setCell rfl _, e3 ▸ HB2.out.2.set _ _ b2⟩
  obtain ⟨W4, e4⟩ : ∃ W, W3.setCell ⟨g, o + 3, none⟩ (.int .u8 (y3 : Int)) = W := ⟨_, rfl⟩
  have HB4 : Hid (But (fun k => k = g) w W4 ∧ RB W4 g ((((L.set o y0).set (o + 1) y1).set (o + 2) y2).set (o + 3) y3) T fr) := ⟨e4 ▸ HB3.out.1.setCell rfl _, e4 ▸ HB3.out.2.set _ _ b3⟩
  clear HB1 HB2 HB3 k1 k2 k3 h ot b0 b1 b2 b3 ho f0
  go_enter Try.func41, Try.ntmps41
  go_wp2
  go_region
  go_wp2
  go_region
  go_wp2
  go_region
  go_wp2
  go_region
  go_wp2
  go_end0
  exact ⟨rfl, HB4.out.1.drew.drew.drew.drew, HB4.out.2.row, HB4.out.2.ok, HB4.out.2.bd⟩
end Go.Proofs.Ytefnlaookmpbhaa
