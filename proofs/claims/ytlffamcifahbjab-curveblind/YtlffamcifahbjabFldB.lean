import Derived.Test.YtlffamcifahbjabFldA
namespace Go.Fld
/-- 19 times the limbs, and the limbs -/
def rw10 (b : List Int) : List Int := b.map (19 * ·) ++ b
def sm (a R : List Int) (place : Nat) : Nat → Int
  | 0 => 0
  | k + 1 => sm a R place k + a.getD k 0 * R.getD (place + 5 - k) 0
/-- the sums of the five places -/
def sums (a b : List Int) : List Int := [sm a (rw10 b) 0 5, sm a (rw10 b) 1 5, sm a (rw10 b) 2 5, sm a (rw10 b) 3 5, sm a (rw10 b) 4 5]
/-- the last carry -/
def last (l : List Int) (o : Int) : List Int := [(l.getD 0 0 + 19 * o) % 2251799813685248, l.getD 1 0 + (l.getD 0 0 + 19 * o) / 2251799813685248, l.getD 2 0, l.getD 3 0, l.getD 4 0]
def prod (a b : List Int) : List Int := last (cy 0 (sums a b)) (co 0 (sums a b))
theorem bdp {x y : Int} (x0 : 0 ≤ x) (x1 : x < 4503599627370496) (y0 : 0 ≤ y) (y1 : y < 4503599627370496) : 0 ≤ x * y ∧ x * y < 20282409603651670423947251286016 :=
  ⟨Int.mul_nonneg x0 y0, by
    have h1 : x * y ≤ 4503599627370496 * y := Int.mul_le_mul_of_nonneg_right (by omega) y0
    omega⟩
theorem sums_eq (a0 a1 a2 a3 a4 b0 b1 b2 b3 b4 : Int) : sums [a0, a1, a2, a3, a4] [b0, b1, b2, b3, b4] =
    [a0 * b0 + 19 * (a1 * b4 + a2 * b3 + a3 * b2 + a4 * b1), a0 * b1 + a1 * b0 + 19 * (a2 * b4 + a3 * b3 + a4 * b2), a0 * b2 + a1 * b1 + a2 * b0 + 19 * (a3 * b4 + a4 * b3), a0 * b3 + a1 * b2 + a2 * b1 + a3 * b0 + 19 * (a4 * b4), a0 * b4 + a1 * b3 + a2 * b2 + a3 * b1 + a4 * b0] := by
  simp [sums, sm, rw10]
  grind
theorem V_sums (a0 a1 a2 a3 a4 b0 b1 b2 b3 b4 : Int) : V [a0, a1, a2, a3, a4] * V [b0, b1, b2, b3, b4] =
    V (sums [a0, a1, a2, a3, a4] [b0, b1, b2, b3, b4]) + 57896044618658097711785492504343953926634992332820282019728792003956564819949 * (a1 * b4 + a2 * b3 + a3 * b2 + a4 * b1 + 2251799813685248 * (a2 * b4 + a3 * b3 + a4 * b2) + 2251799813685248 ^ 2 * (a3 * b4 + a4 * b3) + 2251799813685248 ^ 3 * (a4 * b4)) := by
  rw [sums_eq]
  simp only [V_cons, V_nil]
  grind
theorem sums_bd {a b : List Int} (ha : Lim a) (hb : Lim b) : (∀ x ∈ sums a b, 0 ≤ x ∧ x < 2596148429267413814265248164610048) ∧ (sums a b).length = 5 ∧ (sums a b).getD 4 0 < 101412048018258352119736256430080 := by
  obtain ⟨a0, a1, a2, a3, a4, rfl⟩ := five ha.len
  obtain ⟨b0, b1, b2, b3, b4, rfl⟩ := five hb.len
  rw [sums_eq]
  have hA := ha.bd
  have hB := hb.bd
  simp only [List.mem_cons, List.not_mem_nil, or_false, forall_eq_or_imp, forall_eq] at hA hB
  obtain ⟨⟨A0, A0'⟩, ⟨A1, A1'⟩, ⟨A2, A2'⟩, ⟨A3, A3'⟩, ⟨A4, A4'⟩⟩ := hA
  obtain ⟨⟨B0, B0'⟩, ⟨B1, B1'⟩, ⟨B2, B2'⟩, ⟨B3, B3'⟩, ⟨B4, B4'⟩⟩ := hB
  have p00 := bdp A0 A0' B0 B0'
  have p01 := bdp A0 A0' B1 B1'
  have p02 := bdp A0 A0' B2 B2'
  have p03 := bdp A0 A0' B3 B3'
  have p04 := bdp A0 A0' B4 B4'
  have p10 := bdp A1 A1' B0 B0'
  have p11 := bdp A1 A1' B1 B1'
  have p12 := bdp A1 A1' B2 B2'
  have p13 := bdp A1 A1' B3 B3'
  have p14 := bdp A1 A1' B4 B4'
  have p20 := bdp A2 A2' B0 B0'
  have p21 := bdp A2 A2' B1 B1'
  have p22 := bdp A2 A2' B2 B2'
  have p23 := bdp A2 A2' B3 B3'
  have p24 := bdp A2 A2' B4 B4'
  have p30 := bdp A3 A3' B0 B0'
  have p31 := bdp A3 A3' B1 B1'
  have p32 := bdp A3 A3' B2 B2'
  have p33 := bdp A3 A3' B3 B3'
  have p34 := bdp A3 A3' B4 B4'
  have p40 := bdp A4 A4' B0 B0'
  have p41 := bdp A4 A4' B1 B1'
  have p42 := bdp A4 A4' B2 B2'
  have p43 := bdp A4 A4' B3 B3'
  have p44 := bdp A4 A4' B4 B4'
  clear A0 A0' A1 A1' A2 A2' A3 A3' A4 A4' B0 B0' B1 B1' B2 B2' B3 B3' B4 B4' ha hb
  refine ⟨?_, rfl, ?_⟩
  · intro x hx
    simp only [List.mem_cons, List.not_mem_nil, or_false] at hx
    rcases hx with rfl | rfl | rfl | rfl | rfl <;> omega
  · show a0 * b4 + a1 * b3 + a2 * b2 + a3 * b1 + a4 * b0 < _
    omega
theorem co_split : ∀ (l m : List Int) (o : Int), co o (l ++ m) = co (co o l) m
  | [], _, _ => rfl
  | x :: l, m, o => by simp only [List.cons_append, co]; exact co_split l m _
theorem sums_over {a b : List Int} (ha : Lim a) (hb : Lim b) : 0 ≤ co 0 (sums a b) ∧ co 0 (sums a b) < 72057594037927936 := by
  obtain ⟨h1, h2, h3⟩ := sums_bd ha hb
  obtain ⟨s0, s1, s2, s3, s4, hs⟩ := five h2
  rw [hs] at h1 h3 ⊢
  have e : co 0 [s0, s1, s2, s3, s4] = (s4 + co 0 [s0, s1, s2, s3]) / 2251799813685248 := by
    rw [show [s0, s1, s2, s3, s4] = [s0, s1, s2, s3] ++ [s4] from rfl, co_split]
    rfl
  rw [e]
  have hb := co_bd [s0, s1, s2, s3] 0 2305843009213693952 (by decide) (by decide) (fun x hx => by
    have := h1 x (by simp only [List.mem_cons, List.not_mem_nil, or_false] at hx ⊢; rcases hx with h | h | h | h <;> simp [h])
    omega)
  have h4 : s4 < 101412048018258352119736256430080 := by simpa using h3
  have h5 := h1 s4 (by simp)
  omega
theorem prod_el {a b : List Int} (ha : Lim a) (hb : Lim b) : Lim (prod a b) ∧ V (prod a b) % 57896044618658097711785492504343953926634992332820282019728792003956564819949 = (V a * V b) % 57896044618658097711785492504343953926634992332820282019728792003956564819949 := by
  obtain ⟨o0, o1⟩ := sums_over ha hb
  obtain ⟨s1, s2, _⟩ := sums_bd ha hb
  have hv := cy_V (sums a b) 0
  have hlt := cy_lt (sums a b) 0
  have hl := cy_len (sums a b) 0
  rw [s2] at hl hv
  obtain ⟨a0, a1, a2, a3, a4, rfl⟩ := five ha.len
  obtain ⟨b0, b1, b2, b3, b4, rfl⟩ := five hb.len
  have hV := V_sums a0 a1 a2 a3 a4 b0 b1 b2 b3 b4
  unfold prod
  generalize co 0 (sums [a0, a1, a2, a3, a4] [b0, b1, b2, b3, b4]) = o at *
  obtain ⟨c0, c1, c2, c3, c4, hc⟩ := five hl
  rw [hc] at hlt hv ⊢
  simp only [List.mem_cons, List.not_mem_nil, or_false, forall_eq_or_imp, forall_eq] at hlt
  simp only [last, List.getD_cons_zero, List.getD_cons_succ]
  refine ⟨⟨rfl, ?_⟩, ?_⟩
  · intro x hx
    simp only [List.mem_cons, List.not_mem_nil, or_false] at hx
    rcases hx with rfl | rfl | rfl | rfl | rfl <;> omega
  · rw [hV]
    have hr : (2251799813685248 : Int) ^ 5 = 57896044618658097711785492504343953926634992332820282019728792003956564819968 := by decide
    rw [hr] at hv
    have e2 : V [(c0 + 19 * o) % 2251799813685248, c1 + (c0 + 19 * o) / 2251799813685248, c2, c3, c4] = V [c0, c1, c2, c3, c4] + 19 * o := by
      simp only [V_cons]
      omega
    rw [e2]
    generalize V (sums [a0, a1, a2, a3, a4] [b0, b1, b2, b3, b4]) = z at *
    generalize V [c0, c1, c2, c3, c4] = y at *
    generalize a1 * b4 + a2 * b3 + a3 * b2 + a4 * b1 + 2251799813685248 * (a2 * b4 + a3 * b3 + a4 * b2) + 2251799813685248 ^ 2 * (a3 * b4 + a4 * b3) + 2251799813685248 ^ 3 * (a4 * b4) = q
    omega
end Go.Fld
