set_option linter.unusedVariables false
namespace Go.Edw

/-- division, and 2 -/
structure Fld {mo : Nat} [NeZero mo] (inv : Fin mo → Fin mo) : Prop where
  inv_mul : ∀ x, x ≠ 0 → x * inv x = 1
  one_ne : (1 : Fin mo) ≠ 0
  two_ne : (1 : Fin mo) + 1 ≠ 0
variable {mo : Nat} [NeZero mo] {inv : Fin mo → Fin mo}
theorem Fld.nzd (K : Fld inv) {a b : Fin mo} (h : a * b = 0) : a = 0 ∨ b = 0 := by
  by_cases ha : a = 0
  · exact .inl ha
  · have := K.inv_mul a ha
    right
    grind
def On (D x y : Fin mo) : Prop := x * x + y * y = 1 + D * (x * x) * (y * y)
theorem mul0 (a : Fin mo) : a * 0 = 0 := by grind
theorem add0 (a : Fin mo) : a + 0 = a := by grind
theorem sub0 {a b : Fin mo} (h : a = b) : a - b = 0 := by grind
theorem square_of {D x1 y1 x2 y2 e s : Fin mo} (h1 : x1 * x1 + y1 * y1 = 1 + D * (x1 * x1) * (y1 * y1)) (h2 : x2 * x2 + y2 * y2 = 1 + D * (x2 * x2) * (y2 * y2)) (he : e * e = 1)
    (h : D * x1 * x2 * y1 * y2 = e) (hs : s * s = 1) : (x1 + e * s * y1) * (x1 + e * s * y1) = D * (x1 * x1) * (y1 * y1) * ((x2 + s * y2) * (x2 + s * y2)) := by
  subst h
  have z1 := sub0 h1
  have z2 := sub0 h2
  have z3 := sub0 he
  have z4 := sub0 hs
  have A : (x1 + (D * x1 * x2 * y1 * y2) * s * y1) * (x1 + (D * x1 * x2 * y1 * y2) * s * y1) - D * (x1 * x1) * (y1 * y1) * ((x2 + s * y2) * (x2 + s * y2))
      = (x1 * x1 + y1 * y1 - (1 + D * (x1 * x1) * (y1 * y1))) - D * (x1 * x1) * (y1 * y1) * (x2 * x2 + y2 * y2 - (1 + D * (x2 * x2) * (y2 * y2)))
        - (D * x1 * x2 * y1 * y2 * (D * x1 * x2 * y1 * y2) - 1)
        + y1 * y1 * (s * s) * (D * x1 * x2 * y1 * y2 * (D * x1 * x2 * y1 * y2) - 1) + y1 * y1 * (s * s - 1) - D * (x1 * x1) * (y1 * y1) * (y2 * y2) * (s * s - 1) := by
    clear h1 h2 he hs z1 z2 z3 z4
    grind
  rw [z1, z2, z3, z4] at A
  clear z1 z2 z3 z4 h1 h2 he hs
  grind
theorem complete1 (K : Fld inv) {D x1 y1 x2 y2 e : Fin mo} (hD : ∀ r : Fin mo, r * r ≠ D) (h1 : On D x1 y1) (h2 : On D x2 y2) (he : e * e = 1)
    (h : D * x1 * x2 * y1 * y2 = e) : False := by
  have he0 : e ≠ 0 := by intro h0; apply K.one_ne; grind
  unfold On at h1 h2
  have hx1 : x1 ≠ 0 := by intro h0; apply he0; grind
  have hy1 : y1 ≠ 0 := by intro h0; apply he0; grind
  have hx2 : x2 ≠ 0 := by intro h0; apply he0; grind
  have hy2 : y2 ≠ 0 := by intro h0; apply he0; grind
  have key : ∀ s : Fin mo, s * s = 1 → x2 + s * y2 ≠ 0 → False := by
    intro s hs hne
    have hk := K.inv_mul _ hne
    have hi := K.inv_mul _ hx1
    have hj := K.inv_mul _ hy1
    have hq := square_of h1 h2 he h hs
    refine hD ((x1 + e * s * y1) * inv x1 * inv y1 * inv (x2 + s * y2)) ?_
    have a1 : (x1 + e * s * y1) * inv x1 * inv y1 * inv (x2 + s * y2) * ((x1 + e * s * y1) * inv x1 * inv y1 * inv (x2 + s * y2))
        = ((x1 + e * s * y1) * (x1 + e * s * y1)) * (inv x1 * inv x1) * (inv y1 * inv y1) * (inv (x2 + s * y2) * inv (x2 + s * y2)) := by grind
    rw [a1, hq]
    have a2 : D * (x1 * x1) * (y1 * y1) * ((x2 + s * y2) * (x2 + s * y2)) * (inv x1 * inv x1) * (inv y1 * inv y1) * (inv (x2 + s * y2) * inv (x2 + s * y2))
        = D * ((x1 * inv x1) * (x1 * inv x1)) * ((y1 * inv y1) * (y1 * inv y1)) * (((x2 + s * y2) * inv (x2 + s * y2)) * ((x2 + s * y2) * inv (x2 + s * y2))) := by grind
    rw [a2, hk, hi, hj]
    grind
  by_cases g : x2 + 1 * y2 = 0
  · refine key (-1) (by grind) ?_
    intro g'
    have : (1 + 1) * x2 = 0 := by grind
    rcases K.nzd this with z | z
    · exact K.two_ne z
    · exact hx2 z
  · exact key 1 (by grind) g
theorem eq_of {a b : Fin mo} (h : a - b = 0) : a = b := by grind
theorem assoc_x {D x1 y1 x2 y2 x3 y3 : Fin mo} (h1 : On D x1 y1) (h2 : On D x2 y2) (h3 : On D x3 y3) :
    ((x1 * y2 + x2 * y1) * (1 - D * x1 * x2 * y1 * y2) * y3 + x3 * ((y1 * y2 - x1 * x2) * (1 + D * x1 * x2 * y1 * y2))) * ((1 + D * x2 * x3 * y2 * y3) * (1 - D * x2 * x3 * y2 * y3) + D * x1 * y1 * (x2 * y3 + x3 * y2) * (y2 * y3 - x2 * x3)) = (x1 * ((y2 * y3 - x2 * x3) * (1 + D * x2 * x3 * y2 * y3)) + (x2 * y3 + x3 * y2) * (1 - D * x2 * x3 * y2 * y3) * y1) * ((1 + D * x1 * x2 * y1 * y2) * (1 - D * x1 * x2 * y1 * y2) + D * x3 * y3 * (x1 * y2 + x2 * y1) * (y1 * y2 - x1 * x2)) := by
  unfold On at h1 h2 h3
  have z1 := sub0 h1
  have z2 := sub0 h2
  have z3 := sub0 h3
  have A : ((x1 * y2 + x2 * y1) * (1 - D * x1 * x2 * y1 * y2) * y3 + x3 * ((y1 * y2 - x1 * x2) * (1 + D * x1 * x2 * y1 * y2))) * ((1 + D * x2 * x3 * y2 * y3) * (1 - D * x2 * x3 * y2 * y3) + D * x1 * y1 * (x2 * y3 + x3 * y2) * (y2 * y3 - x2 * x3)) - (x1 * ((y2 * y3 - x2 * x3) * (1 + D * x2 * x3 * y2 * y3)) + (x2 * y3 + x3 * y2) * (1 - D * x2 * x3 * y2 * y3) * y1) * ((1 + D * x1 * x2 * y1 * y2) * (1 - D * x1 * x2 * y1 * y2) + D * x3 * y3 * (x1 * y2 + x2 * y1) * (y1 * y2 - x1 * x2))
      = (D * x1 * x2 * x2 * x2 * x3 * y2 * y2 + D * x1 * x2 * x2 * y2 * y2 * y2 * y3 * y3 * y3 + D * x2 * x2 * x3 * x3 * x3 * y1 * y2 * y2 * y2 + D * x2 * x2 * x2 * y1 * y2 * y2 * y3 * y3 * y3 - D * x1 * x2 * x2 * y2 * y2 * y2 * y3 - D * x1 * x2 * x2 * x2 * x3 * x3 * x3 * y2 * y2 - D * x2 * x2 * x3 * y1 * y2 * y2 * y2 - D * x2 * x2 * x2 * y1 * y2 * y2 * y3 + D * x1 * x2 * x3 * y2 * y2 * y2 * y2 * y3 * y3 + D * D * x1 * x2 * x2 * x2 * x2 * x3 * x3 * y2 * y2 * y2 * y3 + D * D * x2 * x2 * x2 * x2 * x3 * y1 * y2 * y2 * y2 * y3 * y3 + D * D * x2 * x2 * x2 * x3 * x3 * y1 * y2 * y2 * y2 * y2 * y3 - D * x1 * x2 * x2 * x2 * x2 * x3 * x3 * y2 * y3 - D * x2 * x3 * x3 * y1 * y2 * y2 * y2 * y2 * y3 - D * x2 * x2 * x2 * x2 * x3 * y1 * y2 * y3 * y3 - D * D * x1 * x2 * x2 * x2 * x3 * y2 * y2 * y2 * y2 * y3 * y3) * (x1 * x1 + y1 * y1 - (1 + D * (x1 * x1) * (y1 * y1)))
        + (x1 * x2 * x3 * x3 * x3 + x1 * y2 * y3 + x1 * x1 * x1 * x2 * x3 + x2 * y1 * y3 + x2 * y1 * y1 * y1 * y3 * y3 * y3 + x3 * y1 * y2 + x1 * x1 * x1 * y2 * y3 * y3 * y3 + x3 * x3 * x3 * y1 * y1 * y1 * y2 - x1 * x2 * x3 - x1 * y2 * y3 * y3 * y3 - x2 * y1 * y3 * y3 * y3 - x2 * y1 * y1 * y1 * y3 - x1 * x1 * x1 * x2 * x3 * x3 * x3 - x3 * y1 * y1 * y1 * y2 - x3 * x3 * x3 * y1 * y2 - x1 * x1 * x1 * y2 * y3 + x1 * x2 * x3 * y1 * y1 + x1 * x2 * x3 * y3 * y3 + x1 * y1 * y1 * y2 * y3 * y3 * y3 + x1 * x1 * x2 * y1 * y3 * y3 * y3 + x2 * x3 * x3 * y1 * y1 * y1 * y3 + x3 * y1 * y1 * y1 * y2 * y3 * y3 + x1 * x1 * x3 * x3 * x3 * y1 * y2 + x1 * x1 * x1 * x3 * x3 * y2 * y3 - x1 * x2 * x3 * x3 * x3 * y1 * y1 - x1 * x3 * x3 * y2 * y3 - x1 * y1 * y1 * y2 * y3 - x1 * x1 * x1 * x2 * x3 * y3 * y3 - x1 * x1 * x2 * y1 * y3 - x2 * x3 * x3 * y1 * y3 - x1 * x1 * x3 * y1 * y2 - x3 * y1 * y2 * y3 * y3 + D * x1 * x3 * x3 * y2 * y3 * y3 * y3 + D * x2 * x3 * x3 * y1 * y3 * y3 * y3 + D * x1 * x1 * x1 * x2 * x3 * x3 * x3 * y3 * y3 + D * x3 * x3 * x3 * y1 * y2 * y3 * y3 + x1 * x3 * x3 * y1 * y1 * y2 * y3 + x1 * x1 * x2 * x3 * x3 * y1 * y3 + x1 * x1 * x3 * y1 * y2 * y3 * y3 - D * x1 * x2 * x3 * x3 * x3 * y3 * y3 - D * x2 * x3 * x3 * y1 * y1 * y1 * y3 * y3 * y3 - D * x1 * x1 * x1 * x3 * x3 * y2 * y3 * y3 * y3 - D * x3 * x3 * x3 * y1 * y1 * y1 * y2 * y3 * y3 - x1 * x2 * x3 * y1 * y1 * y3 * y3 + D * x1 * x2 * x3 * y2 * y2 * y3 * y3 + D * x1 * x2 * x3 * x3 * x3 * y1 * y1 * y3 * y3 + D * x2 * x3 * x3 * y1 * y1 * y1 * y2 * y2 * y3 + D * x2 * x2 * x3 * y1 * y1 * y1 * y2 * y3 * y3 + D * x1 * x1 * x1 * x2 * x2 * x3 * x3 * y2 * y3 - D * x1 * x2 * x2 * x3 * x3 * y2 * y3 - D * x1 * x3 * x3 * y1 * y1 * y2 * y3 * y3 * y3 - D * x1 * x1 * x1 * x2 * x3 * y2 * y2 * y3 * y3 - D * x2 * x3 * x3 * y1 * y2 * y2 * y3 - D * x1 * x1 * x2 * x3 * x3 * y1 * y3 * y3 * y3 - D * x2 * x2 * x3 * y1 * y2 * y3 * y3 - D * x1 * x1 * x3 * x3 * x3 * y1 * y2 * y3 * y3 + D * x1 * x2 * x2 * x3 * x3 * y1 * y1 * y2 * y3 + D * x1 * x1 * x2 * x3 * x3 * y1 * y2 * y2 * y3 + D * x1 * x1 * x2 * x2 * x3 * y1 * y2 * y3 * y3 + D * D * x1 * x2 * x3 * x3 * x3 * y1 * y1 * y2 * y2 * y3 * y3 - D * x1 * x2 * x3 * y1 * y1 * y2 * y2 * y3 * y3 - D * D * x1 * x2 * x2 * x3 * x3 * y1 * y1 * y2 * y3 * y3 * y3 - D * D * x1 * x1 * x2 * x3 * x3 * y1 * y2 * y2 * y3 * y3 * y3 - D * D * x1 * x1 * x2 * x2 * x3 * x3 * x3 * y1 * y2 * y3 * y3) * (x2 * x2 + y2 * y2 - (1 + D * (x2 * x2) * (y2 * y2)))
        + (x1 * x2 * x3 + x1 * y2 * y2 * y2 * y3 + x2 * y1 * y1 * y1 * y3 + x3 * y1 * y2 * y2 * y2 + x3 * y1 * y1 * y1 * y2 + x1 * x1 * x1 * x2 * x2 * x2 * x3 + x2 * x2 * x2 * y1 * y3 + x1 * x1 * x1 * y2 * y3 - x1 * x2 * x2 * x2 * x3 - x1 * y2 * y3 - x1 * x1 * x1 * x2 * x3 - x2 * y1 * y3 - x3 * y1 * y2 - x3 * y1 * y1 * y1 * y2 * y2 * y2 - x1 * x1 * x1 * y2 * y2 * y2 * y3 - x2 * x2 * x2 * y1 * y1 * y1 * y3 + x1 * x2 * x2 * x2 * x3 * y1 * y1 + x1 * x2 * x2 * y2 * y3 + x1 * y1 * y1 * y2 * y3 + x1 * x1 * x1 * x2 * x3 * y2 * y2 + x1 * x1 * x2 * y1 * y3 + x2 * y1 * y2 * y2 * y3 + x1 * x1 * x3 * y1 * y2 + x2 * x2 * x3 * y1 * y2 - x1 * x2 * x3 * y1 * y1 - x1 * x2 * x3 * y2 * y2 - x1 * y1 * y1 * y2 * y2 * y2 * y3 - x2 * y1 * y1 * y1 * y2 * y2 * y3 - x1 * x1 * x3 * y1 * y2 * y2 * y2 - x2 * x2 * x3 * y1 * y1 * y1 * y2 - x1 * x1 * x2 * x2 * x2 * y1 * y3 - x1 * x1 * x1 * x2 * x2 * y2 * y3 + x1 * x2 * x3 * y1 * y1 * y2 * y2 - x1 * x2 * x2 * y1 * y1 * y2 * y3 - x1 * x1 * x2 * y1 * y2 * y2 * y3 - x1 * x1 * x2 * x2 * x3 * y1 * y2 + D * x1 * x2 * x2 * y1 * y1 * y2 * y3 + D * x1 * x1 * x2 * y1 * y2 * y2 * y3 + D * x1 * x1 * x2 * x2 * x3 * y1 * y2 - D * x1 * x2 * x3 * y1 * y1 * y2 * y2) * (x3 * x3 + y3 * y3 - (1 + D * (x3 * x3) * (y3 * y3))) := by
    clear h1 h2 h3 z1 z2 z3
    grind (ringSteps := 100000)
  rw [z1, z2, z3] at A
  clear z1 z2 z3 h1 h2 h3
  have B : ((x1 * y2 + x2 * y1) * (1 - D * x1 * x2 * y1 * y2) * y3 + x3 * ((y1 * y2 - x1 * x2) * (1 + D * x1 * x2 * y1 * y2))) * ((1 + D * x2 * x3 * y2 * y3) * (1 - D * x2 * x3 * y2 * y3) + D * x1 * y1 * (x2 * y3 + x3 * y2) * (y2 * y3 - x2 * x3)) - (x1 * ((y2 * y3 - x2 * x3) * (1 + D * x2 * x3 * y2 * y3)) + (x2 * y3 + x3 * y2) * (1 - D * x2 * x3 * y2 * y3) * y1) * ((1 + D * x1 * x2 * y1 * y2) * (1 - D * x1 * x2 * y1 * y2) + D * x3 * y3 * (x1 * y2 + x2 * y1) * (y1 * y2 - x1 * x2)) = 0 := by rw [A, mul0, mul0, mul0, add0, add0]
  clear A
  exact eq_of B
theorem assoc_y {D x1 y1 x2 y2 x3 y3 : Fin mo} (h1 : On D x1 y1) (h2 : On D x2 y2) (h3 : On D x3 y3) :
    ((y1 * y2 - x1 * x2) * (1 + D * x1 * x2 * y1 * y2) * y3 - (x1 * y2 + x2 * y1) * (1 - D * x1 * x2 * y1 * y2) * x3) * ((1 + D * x2 * x3 * y2 * y3) * (1 - D * x2 * x3 * y2 * y3) - D * x1 * y1 * (x2 * y3 + x3 * y2) * (y2 * y3 - x2 * x3)) = (y1 * ((y2 * y3 - x2 * x3) * (1 + D * x2 * x3 * y2 * y3)) - x1 * ((x2 * y3 + x3 * y2) * (1 - D * x2 * x3 * y2 * y3))) * ((1 + D * x1 * x2 * y1 * y2) * (1 - D * x1 * x2 * y1 * y2) - D * x3 * y3 * (x1 * y2 + x2 * y1) * (y1 * y2 - x1 * x2)) := by
  unfold On at h1 h2 h3
  have z1 := sub0 h1
  have z2 := sub0 h2
  have z3 := sub0 h3
  have A : ((y1 * y2 - x1 * x2) * (1 + D * x1 * x2 * y1 * y2) * y3 - (x1 * y2 + x2 * y1) * (1 - D * x1 * x2 * y1 * y2) * x3) * ((1 + D * x2 * x3 * y2 * y3) * (1 - D * x2 * x3 * y2 * y3) - D * x1 * y1 * (x2 * y3 + x3 * y2) * (y2 * y3 - x2 * x3)) - (y1 * ((y2 * y3 - x2 * x3) * (1 + D * x2 * x3 * y2 * y3)) - x1 * ((x2 * y3 + x3 * y2) * (1 - D * x2 * x3 * y2 * y3))) * ((1 + D * x1 * x2 * y1 * y2) * (1 - D * x1 * x2 * y1 * y2) - D * x3 * y3 * (x1 * y2 + x2 * y1) * (y1 * y2 - x1 * x2))
      = (D * x1 * x2 * x2 * x3 * y2 * y2 * y2 + D * x1 * x2 * x2 * x2 * y2 * y2 * y3 + D * x2 * x2 * x2 * x3 * y1 * y2 * y2 + D * x2 * x2 * y1 * y2 * y2 * y2 * y3 * y3 * y3 - D * x1 * x2 * x2 * x3 * x3 * x3 * y2 * y2 * y2 - D * x1 * x2 * x2 * x2 * y2 * y2 * y3 * y3 * y3 - D * x2 * x2 * y1 * y2 * y2 * y2 * y3 - D * x2 * x2 * x2 * x3 * x3 * x3 * y1 * y2 * y2 + D * x1 * x2 * x3 * x3 * y2 * y2 * y2 * y2 * y3 + D * x1 * x2 * x2 * x2 * x2 * x3 * y2 * y3 * y3 + D * x2 * x3 * y1 * y2 * y2 * y2 * y2 * y3 * y3 + D * D * x2 * x2 * x2 * x2 * x3 * x3 * y1 * y2 * y2 * y2 * y3 - D * x2 * x2 * x2 * x2 * x3 * x3 * y1 * y2 * y3 - D * D * x1 * x2 * x2 * x2 * x2 * x3 * y2 * y2 * y2 * y3 * y3 - D * D * x1 * x2 * x2 * x2 * x3 * x3 * y2 * y2 * y2 * y2 * y3 - D * D * x2 * x2 * x2 * x3 * y1 * y2 * y2 * y2 * y2 * y3 * y3) * (x1 * x1 + y1 * y1 - (1 + D * (x1 * x1) * (y1 * y1)))
        + (x1 * x2 * y3 * y3 * y3 + x1 * x3 * x3 * x3 * y2 + x2 * x3 * y1 * y1 * y1 + x2 * x3 * x3 * x3 * y1 + x1 * x1 * x1 * x2 * y3 + x1 * x1 * x1 * x3 * y2 + y1 * y2 * y3 + y1 * y1 * y1 * y2 * y3 * y3 * y3 - x1 * x2 * y3 - x1 * x3 * y2 - x2 * x3 * y1 - x1 * x1 * x1 * x2 * y3 * y3 * y3 - x2 * x3 * x3 * x3 * y1 * y1 * y1 - y1 * y2 * y3 * y3 * y3 - y1 * y1 * y1 * y2 * y3 - x1 * x1 * x1 * x3 * x3 * x3 * y2 + x1 * x2 * x3 * x3 * y3 + x1 * x2 * y1 * y1 * y3 + x1 * x3 * y1 * y1 * y2 + x1 * x3 * y2 * y3 * y3 + x1 * x1 * x2 * x3 * y1 + x2 * x3 * y1 * y3 * y3 + x1 * x1 * y1 * y2 * y3 * y3 * y3 + x3 * x3 * y1 * y1 * y1 * y2 * y3 - x1 * x2 * y1 * y1 * y3 * y3 * y3 - x1 * x3 * x3 * x3 * y1 * y1 * y2 - x2 * x3 * y1 * y1 * y1 * y3 * y3 - x1 * x1 * x2 * x3 * x3 * x3 * y1 - x1 * x1 * x1 * x2 * x3 * x3 * y3 - x1 * x1 * x1 * x3 * y2 * y3 * y3 - x1 * x1 * y1 * y2 * y3 - x3 * x3 * y1 * y2 * y3 + D * x1 * x1 * x1 * x2 * x3 * x3 * y3 * y3 * y3 + D * x2 * x3 * x3 * x3 * y1 * y1 * y1 * y3 * y3 + D * x3 * x3 * y1 * y2 * y3 * y3 * y3 + D * x1 * x1 * x1 * x3 * x3 * x3 * y2 * y3 * y3 + x1 * x1 * x3 * x3 * y1 * y2 * y3 - D * x1 * x2 * x3 * x3 * y3 * y3 * y3 - D * x1 * x3 * x3 * x3 * y2 * y3 * y3 - D * x2 * x3 * x3 * x3 * y1 * y3 * y3 - D * x3 * x3 * y1 * y1 * y1 * y2 * y3 * y3 * y3 - x1 * x2 * x3 * x3 * y1 * y1 * y3 - x1 * x3 * y1 * y1 * y2 * y3 * y3 - x1 * x1 * x2 * x3 * y1 * y3 * y3 + D * x1 * x2 * x3 * x3 * y2 * y2 * y3 + D * x1 * x2 * x3 * x3 * y1 * y1 * y3 * y3 * y3 + D * x1 * x2 * x2 * x3 * y2 * y3 * y3 + D * x1 * x3 * x3 * x3 * y1 * y1 * y2 * y3 * y3 + D * x2 * x3 * y1 * y2 * y2 * y3 * y3 + D * x1 * x1 * x2 * x3 * x3 * x3 * y1 * y3 * y3 + D * x2 * x2 * x3 * x3 * y1 * y1 * y1 * y2 * y3 - D * x2 * x3 * y1 * y1 * y1 * y2 * y2 * y3 * y3 - D * x1 * x1 * x1 * x2 * x3 * x3 * y2 * y2 * y3 - D * x1 * x1 * x1 * x2 * x2 * x3 * y2 * y3 * y3 - D * x2 * x2 * x3 * x3 * y1 * y2 * y3 - D * x1 * x1 * x3 * x3 * y1 * y2 * y3 * y3 * y3 + D * x1 * x1 * x2 * x2 * x3 * x3 * y1 * y2 * y3 + D * D * x1 * x2 * x3 * x3 * y1 * y1 * y2 * y2 * y3 * y3 * y3 + D * D * x1 * x2 * x2 * x3 * x3 * x3 * y1 * y1 * y2 * y3 * y3 + D * D * x1 * x1 * x2 * x3 * x3 * x3 * y1 * y2 * y2 * y3 * y3 - D * x1 * x2 * x3 * x3 * y1 * y1 * y2 * y2 * y3 - D * x1 * x2 * x2 * x3 * y1 * y1 * y2 * y3 * y3 - D * x1 * x1 * x2 * x3 * y1 * y2 * y2 * y3 * y3 - D * D * x1 * x1 * x2 * x2 * x3 * x3 * y1 * y2 * y3 * y3 * y3) * (x2 * x2 + y2 * y2 - (1 + D * (x2 * x2) * (y2 * y2)))
        + (x1 * x2 * y3 + x1 * x3 * y2 + x2 * x3 * y1 + x1 * x1 * x1 * x3 * y2 * y2 * y2 + x2 * x2 * x2 * x3 * y1 * y1 * y1 + y1 * y2 * y2 * y2 * y3 + y1 * y1 * y1 * y2 * y3 + x1 * x1 * x1 * x2 * x2 * x2 * y3 - x1 * x3 * y2 * y2 * y2 - x1 * x2 * x2 * x2 * y3 - x2 * x3 * y1 * y1 * y1 - x1 * x1 * x1 * x2 * y3 - x2 * x2 * x2 * x3 * y1 - x1 * x1 * x1 * x3 * y2 - y1 * y2 * y3 - y1 * y1 * y1 * y2 * y2 * y2 * y3 + x1 * x3 * y1 * y1 * y2 * y2 * y2 + x1 * x2 * x2 * x2 * y1 * y1 * y3 + x2 * x3 * y1 * y1 * y1 * y2 * y2 + x1 * x1 * x1 * x2 * y2 * y2 * y3 + x1 * x1 * x2 * x2 * x2 * x3 * y1 + x1 * x1 * x1 * x2 * x2 * x3 * y2 + x1 * x1 * y1 * y2 * y3 + x2 * x2 * y1 * y2 * y3 - x1 * x2 * y1 * y1 * y3 - x1 * x2 * y2 * y2 * y3 - x1 * x2 * x2 * x3 * y2 - x1 * x3 * y1 * y1 * y2 - x1 * x1 * x2 * x3 * y1 - x2 * x3 * y1 * y2 * y2 - x1 * x1 * y1 * y2 * y2 * y2 * y3 - x2 * x2 * y1 * y1 * y1 * y2 * y3 + x1 * x2 * y1 * y1 * y2 * y2 * y3 + x1 * x2 * x2 * x3 * y1 * y1 * y2 + x1 * x1 * x2 * x3 * y1 * y2 * y2 - x1 * x1 * x2 * x2 * y1 * y2 * y3 + D * x1 * x1 * x2 * x2 * y1 * y2 * y3 - D * x1 * x2 * y1 * y1 * y2 * y2 * y3 - D * x1 * x2 * x2 * x3 * y1 * y1 * y2 - D * x1 * x1 * x2 * x3 * y1 * y2 * y2) * (x3 * x3 + y3 * y3 - (1 + D * (x3 * x3) * (y3 * y3))) := by
    clear h1 h2 h3 z1 z2 z3
    grind (ringSteps := 100000)
  rw [z1, z2, z3] at A
  clear z1 z2 z3 h1 h2 h3
  have B : ((y1 * y2 - x1 * x2) * (1 + D * x1 * x2 * y1 * y2) * y3 - (x1 * y2 + x2 * y1) * (1 - D * x1 * x2 * y1 * y2) * x3) * ((1 + D * x2 * x3 * y2 * y3) * (1 - D * x2 * x3 * y2 * y3) - D * x1 * y1 * (x2 * y3 + x3 * y2) * (y2 * y3 - x2 * x3)) - (y1 * ((y2 * y3 - x2 * x3) * (1 + D * x2 * x3 * y2 * y3)) - x1 * ((x2 * y3 + x3 * y2) * (1 - D * x2 * x3 * y2 * y3))) * ((1 + D * x1 * x2 * y1 * y2) * (1 - D * x1 * x2 * y1 * y2) - D * x3 * y3 * (x1 * y2 + x2 * y1) * (y1 * y2 - x1 * x2)) = 0 := by rw [A, mul0, mul0, mul0, add0, add0]
  clear A
  exact eq_of B

/-! the group -/
structure Nsq (D : Fin mo) : Prop where
  ne : ∀ r : Fin mo, r * r ≠ D
theorem compl_p (K : Fld inv) {D x1 y1 x2 y2 : Fin mo} (hD : ∀ r : Fin mo, r * r ≠ D) (h1 : On D x1 y1) (h2 : On D x2 y2) : 1 + D * x1 * x2 * y1 * y2 ≠ 0 := by
  intro h
  exact complete1 K hD h1 h2 (e := -1) (by grind) (by grind)
theorem compl_m (K : Fld inv) {D x1 y1 x2 y2 : Fin mo} (hD : ∀ r : Fin mo, r * r ≠ D) (h1 : On D x1 y1) (h2 : On D x2 y2) : 1 - D * x1 * x2 * y1 * y2 ≠ 0 := by
  intro h
  exact complete1 K hD h1 h2 (e := 1) (by grind) (by grind)
theorem cancel (K : Fld inv) {a b c : Fin mo} (hc : c ≠ 0) (h : a * c = b * c) : a = b := by
  have i := K.inv_mul c hc
  have e1 : a = a * (c * inv c) := by rw [i]; grind
  have e2 : b = b * (c * inv c) := by rw [i]; grind
  have e3 : a * (c * inv c) = a * c * inv c := by grind
  have e4 : b * (c * inv c) = b * c * inv c := by grind
  rw [e1, e2, e3, e4, h]
theorem mul_ne (K : Fld inv) {a b : Fin mo} (ha : a ≠ 0) (hb : b ≠ 0) : a * b ≠ 0 := by
  intro h
  rcases K.nzd h with z | z
  · exact ha z
  · exact hb z
theorem div_eq (K : Fld inv) {a b c d : Fin mo} (hb : b ≠ 0) (hd : d ≠ 0) (h : a * d = c * b) : a * inv b = c * inv d := by
  have i := K.inv_mul b hb
  have j := K.inv_mul d hd
  apply cancel K (mul_ne K hb hd)
  have e1 : a * inv b * (b * d) = a * d * (b * inv b) := by grind
  have e2 : c * inv d * (b * d) = c * b * (d * inv d) := by grind
  rw [e1, e2, i, j, h]
def ax (inv : Fin mo → Fin mo) (D x1 y1 x2 y2 : Fin mo) : Fin mo := (x1 * y2 + x2 * y1) * inv (1 + D * x1 * x2 * y1 * y2)
def ay (inv : Fin mo → Fin mo) (D x1 y1 x2 y2 : Fin mo) : Fin mo := (y1 * y2 - x1 * x2) * inv (1 - D * x1 * x2 * y1 * y2)
theorem ax_mul (K : Fld inv) {D x1 y1 x2 y2 : Fin mo} (hD : ∀ r : Fin mo, r * r ≠ D) (h1 : On D x1 y1) (h2 : On D x2 y2) : ax inv D x1 y1 x2 y2 * (1 + D * x1 * x2 * y1 * y2) = x1 * y2 + x2 * y1 := by
  have i := K.inv_mul _ (compl_p K hD h1 h2)
  unfold ax
  have : (x1 * y2 + x2 * y1) * inv (1 + D * x1 * x2 * y1 * y2) * (1 + D * x1 * x2 * y1 * y2) = (x1 * y2 + x2 * y1) * ((1 + D * x1 * x2 * y1 * y2) * inv (1 + D * x1 * x2 * y1 * y2)) := by grind
  rw [this, i]; grind
theorem ay_mul (K : Fld inv) {D x1 y1 x2 y2 : Fin mo} (hD : ∀ r : Fin mo, r * r ≠ D) (h1 : On D x1 y1) (h2 : On D x2 y2) : ay inv D x1 y1 x2 y2 * (1 - D * x1 * x2 * y1 * y2) = y1 * y2 - x1 * x2 := by
  have i := K.inv_mul _ (compl_m K hD h1 h2)
  unfold ay
  have : (y1 * y2 - x1 * x2) * inv (1 - D * x1 * x2 * y1 * y2) * (1 - D * x1 * x2 * y1 * y2) = (y1 * y2 - x1 * x2) * ((1 - D * x1 * x2 * y1 * y2) * inv (1 - D * x1 * x2 * y1 * y2)) := by grind
  rw [this, i]; grind
theorem on_poly {D x1 y1 x2 y2 : Fin mo} (h1 : On D x1 y1) (h2 : On D x2 y2) : ((x1 * y2 + x2 * y1) * (x1 * y2 + x2 * y1) * ((1 - D * x1 * x2 * y1 * y2) * (1 - D * x1 * x2 * y1 * y2)) + (y1 * y2 - x1 * x2) * (y1 * y2 - x1 * x2) * ((1 + D * x1 * x2 * y1 * y2) * (1 + D * x1 * x2 * y1 * y2))) = ((1 + D * x1 * x2 * y1 * y2) * (1 + D * x1 * x2 * y1 * y2) * ((1 - D * x1 * x2 * y1 * y2) * (1 - D * x1 * x2 * y1 * y2)) + D * ((x1 * y2 + x2 * y1) * (x1 * y2 + x2 * y1)) * ((y1 * y2 - x1 * x2) * (y1 * y2 - x1 * x2))) := by
  unfold On at h1 h2
  have z1 := sub0 h1
  have z2 := sub0 h2
  have A : ((x1 * y2 + x2 * y1) * (x1 * y2 + x2 * y1) * ((1 - D * x1 * x2 * y1 * y2) * (1 - D * x1 * x2 * y1 * y2)) + (y1 * y2 - x1 * x2) * (y1 * y2 - x1 * x2) * ((1 + D * x1 * x2 * y1 * y2) * (1 + D * x1 * x2 * y1 * y2))) - ((1 + D * x1 * x2 * y1 * y2) * (1 + D * x1 * x2 * y1 * y2) * ((1 - D * x1 * x2 * y1 * y2) * (1 - D * x1 * x2 * y1 * y2)) + D * ((x1 * y2 + x2 * y1) * (x1 * y2 + x2 * y1)) * ((y1 * y2 - x1 * x2) * (y1 * y2 - x1 * x2))) = (x2 * x2 * x2 * x2 + y2 * y2 * y2 * y2 - 2 * x2 * x2 * y2 * y2 * y2 * y2 - 2 * x2 * x2 * x2 * x2 * y2 * y2 + 4 * x2 * x2 * y2 * y2 - D * D * x2 * x2 * x2 * x2 * y2 * y2 * y2 * y2 - 2 * D * x2 * x2 * y2 * y2 + 2 * D * x2 * x2 * x2 * x2 * y2 * y2 * y2 * y2 + D * D * x1 * x1 * x2 * x2 * x2 * x2 * y2 * y2 * y2 * y2 + D * D * x2 * x2 * x2 * x2 * y1 * y1 * y2 * y2 * y2 * y2 - D * x1 * x1 * x2 * x2 * y2 * y2 * y2 * y2 - D * x1 * x1 * x2 * x2 * x2 * x2 * y2 * y2 - D * x2 * x2 * y1 * y1 * y2 * y2 * y2 * y2 - D * x2 * x2 * x2 * x2 * y1 * y1 * y2 * y2 + D * D * D * x1 * x1 * x2 * x2 * x2 * x2 * y1 * y1 * y2 * y2 * y2 * y2) * (x1 * x1 + y1 * y1 - (1 + D * (x1 * x1) * (y1 * y1))) + (1 + x2 * x2 + y2 * y2 - x1 * x1 * x2 * x2 - x1 * x1 * y2 * y2 - x2 * x2 * y1 * y1 - y1 * y1 * y2 * y2 - 2 * x2 * x2 * y2 * y2 + D * x2 * x2 * y2 * y2 + 2 * x1 * x1 * x2 * x2 * y2 * y2 + 2 * x2 * x2 * y1 * y1 * y2 * y2 + D * x1 * x1 * x1 * x1 * x2 * x2 * y2 * y2 + D * x2 * x2 * y1 * y1 * y1 * y1 * y2 * y2 - 2 * D * x1 * x1 * x2 * x2 * y2 * y2 - 2 * D * x2 * x2 * y1 * y1 * y2 * y2) * (x2 * x2 + y2 * y2 - (1 + D * (x2 * x2) * (y2 * y2))) := by
    clear h1 h2 z1 z2
    grind (ringSteps := 100000)
  rw [z1, z2, mul0, mul0, add0] at A
  exact eq_of A
theorem on_add (K : Fld inv) {D x1 y1 x2 y2 : Fin mo} (hD : ∀ r : Fin mo, r * r ≠ D) (h1 : On D x1 y1) (h2 : On D x2 y2) : On D (ax inv D x1 y1 x2 y2) (ay inv D x1 y1 x2 y2) := by
  have hp := compl_p K hD h1 h2
  have hm := compl_m K hD h1 h2
  have ex := ax_mul K hD h1 h2
  have ey := ay_mul K hD h1 h2
  have po := on_poly h1 h2
  clear h1 h2
  unfold On
  generalize ax inv D x1 y1 x2 y2 = X at *
  generalize ay inv D x1 y1 x2 y2 = Y at *
  rw [← ex, ← ey] at po
  generalize (1 + D * x1 * x2 * y1 * y2) = p at *
  generalize (1 - D * x1 * x2 * y1 * y2) = m at *
  apply cancel K (mul_ne K (mul_ne K hp hp) (mul_ne K hm hm))
  grind
theorem as_x (K : Fld inv) {D x1 y1 x2 y2 x3 y3 : Fin mo} (hD : ∀ r : Fin mo, r * r ≠ D) (h1 : On D x1 y1) (h2 : On D x2 y2) (h3 : On D x3 y3) :
    ax inv D (ax inv D x1 y1 x2 y2) (ay inv D x1 y1 x2 y2) x3 y3 = ax inv D x1 y1 (ax inv D x2 y2 x3 y3) (ay inv D x2 y2 x3 y3) := by
  have p12 := compl_p K hD h1 h2
  have m12 := compl_m K hD h1 h2
  have p23 := compl_p K hD h2 h3
  have m23 := compl_m K hD h2 h3
  have x12 := ax_mul K hD h1 h2
  have y12 := ay_mul K hD h1 h2
  have x23 := ax_mul K hD h2 h3
  have y23 := ay_mul K hD h2 h3
  have hL := compl_p K hD (on_add K hD h1 h2) h3
  have hR := compl_p K hD h1 (on_add K hD h2 h3)
  have po := assoc_x h1 h2 h3
  clear h1 h2 h3
  generalize ax inv D x1 y1 x2 y2 = X at *
  generalize ay inv D x1 y1 x2 y2 = Y at *
  generalize ax inv D x2 y2 x3 y3 = Z at *
  generalize ay inv D x2 y2 x3 y3 = T at *
  unfold ax
  apply div_eq K hL hR
  rw [← x12, ← y12, ← x23, ← y23] at po
  generalize 1 + D * x1 * x2 * y1 * y2 = a at *
  generalize 1 - D * x1 * x2 * y1 * y2 = b at *
  generalize 1 + D * x2 * x3 * y2 * y3 = c at *
  generalize 1 - D * x2 * x3 * y2 * y3 = d at *
  apply cancel K (mul_ne K (mul_ne K p12 m12) (mul_ne K p23 m23))
  clear hL hR p12 m12 p23 m23 x12 y12 x23 y23 hD
  have e1 : (X * y3 + x3 * Y) * (1 + D * x1 * Z * y1 * T) * (a * b * (c * d)) = (X * a * b * y3 + x3 * (Y * b * a)) * (c * d + D * x1 * y1 * (Z * c) * (T * d)) := by grind
  have e2 : (x1 * T + Z * y1) * (1 + D * X * x3 * Y * y3) * (a * b * (c * d)) = (x1 * (T * d * c) + Z * c * d * y1) * (a * b + D * x3 * y3 * (X * a) * (Y * b)) := by grind
  rw [e1, e2]; exact po
theorem as_y (K : Fld inv) {D x1 y1 x2 y2 x3 y3 : Fin mo} (hD : ∀ r : Fin mo, r * r ≠ D) (h1 : On D x1 y1) (h2 : On D x2 y2) (h3 : On D x3 y3) :
    ay inv D (ax inv D x1 y1 x2 y2) (ay inv D x1 y1 x2 y2) x3 y3 = ay inv D x1 y1 (ax inv D x2 y2 x3 y3) (ay inv D x2 y2 x3 y3) := by
  have p12 := compl_p K hD h1 h2
  have m12 := compl_m K hD h1 h2
  have p23 := compl_p K hD h2 h3
  have m23 := compl_m K hD h2 h3
  have x12 := ax_mul K hD h1 h2
  have y12 := ay_mul K hD h1 h2
  have x23 := ax_mul K hD h2 h3
  have y23 := ay_mul K hD h2 h3
  have hL := compl_m K hD (on_add K hD h1 h2) h3
  have hR := compl_m K hD h1 (on_add K hD h2 h3)
  have po := assoc_y h1 h2 h3
  clear h1 h2 h3
  generalize ax inv D x1 y1 x2 y2 = X at *
  generalize ay inv D x1 y1 x2 y2 = Y at *
  generalize ax inv D x2 y2 x3 y3 = Z at *
  generalize ay inv D x2 y2 x3 y3 = T at *
  unfold ay
  apply div_eq K hL hR
  rw [← x12, ← y12, ← x23, ← y23] at po
  generalize 1 + D * x1 * x2 * y1 * y2 = a at *
  generalize 1 - D * x1 * x2 * y1 * y2 = b at *
  generalize 1 + D * x2 * x3 * y2 * y3 = c at *
  generalize 1 - D * x2 * x3 * y2 * y3 = d at *
  apply cancel K (mul_ne K (mul_ne K p12 m12) (mul_ne K p23 m23))
  clear hL hR p12 m12 p23 m23 x12 y12 x23 y23 hD
  have e1 : (Y * y3 - X * x3) * (1 - D * x1 * Z * y1 * T) * (a * b * (c * d)) = (Y * b * a * y3 - X * a * b * x3) * (c * d - D * x1 * y1 * (Z * c) * (T * d)) := by grind
  have e2 : (y1 * T - x1 * Z) * (1 - D * X * x3 * Y * y3) * (a * b * (c * d)) = (y1 * (T * d * c) - x1 * (Z * c * d)) * (a * b - D * x3 * y3 * (X * a) * (Y * b)) := by grind
  rw [e1, e2]; exact po
/-! multiples -/
structure Pt (mo : Nat) where
  x : Fin mo
  y : Fin mo
def padd (inv : Fin mo → Fin mo) (D : Fin mo) (p q : Pt mo) : Pt mo := ⟨ax inv D p.x p.y q.x q.y, ay inv D p.x p.y q.x q.y⟩
def pneg (p : Pt mo) : Pt mo := ⟨-p.x, p.y⟩
def pzero : Pt mo := ⟨0, 1⟩
def pmul (inv : Fin mo → Fin mo) (D : Fin mo) (p : Pt mo) : Nat → Pt mo
  | 0 => pzero
  | n + 1 => padd inv D (pmul inv D p n) p
def POn (D : Fin mo) (p : Pt mo) : Prop := On D p.x p.y
theorem inv_one (K : Fld inv) : inv 1 = 1 := by have := K.inv_mul 1 K.one_ne; grind
theorem ax_comm (D x1 y1 x2 y2 : Fin mo) : ax inv D x1 y1 x2 y2 = ax inv D x2 y2 x1 y1 := by
  unfold ax
  rw [show x1 * y2 + x2 * y1 = x2 * y1 + x1 * y2 by grind, show 1 + D * x1 * x2 * y1 * y2 = 1 + D * x2 * x1 * y2 * y1 by grind]
theorem ay_comm (D x1 y1 x2 y2 : Fin mo) : ay inv D x1 y1 x2 y2 = ay inv D x2 y2 x1 y1 := by
  unfold ay
  rw [show y1 * y2 - x1 * x2 = y2 * y1 - x2 * x1 by grind, show 1 - D * x1 * x2 * y1 * y2 = 1 - D * x2 * x1 * y2 * y1 by grind]
theorem padd_comm (D : Fin mo) (p q : Pt mo) : padd inv D p q = padd inv D q p := by unfold padd; rw [ax_comm, ay_comm]
theorem padd_zero (K : Fld inv) (D : Fin mo) (p : Pt mo) : padd inv D p pzero = p := by
  unfold padd pzero ax ay
  cases p with
  | mk x y =>
    simp only
    rw [show 1 + D * x * 0 * y * 1 = 1 by grind, show 1 - D * x * 0 * y * 1 = 1 by grind, inv_one K]
    congr 1 <;> grind
theorem zero_padd (K : Fld inv) (D : Fin mo) (p : Pt mo) : padd inv D pzero p = p := by rw [padd_comm, padd_zero K]
theorem padd_on (K : Fld inv) {D : Fin mo} (hD : ∀ r : Fin mo, r * r ≠ D) {p q : Pt mo} (hp : POn D p) (hq : POn D q) : POn D (padd inv D p q) := on_add K hD hp hq
theorem padd_assoc (K : Fld inv) {D : Fin mo} (hD : ∀ r : Fin mo, r * r ≠ D) {p q r : Pt mo} (hp : POn D p) (hq : POn D q) (hr : POn D r) : padd inv D (padd inv D p q) r = padd inv D p (padd inv D q r) := by
  have h1 := as_x K hD hp hq hr
  have h2 := as_y K hD hp hq hr
  unfold padd
  exact congr (congrArg Pt.mk h1) h2
theorem zero_on (D : Fin mo) : POn D pzero := by unfold POn On pzero; grind
theorem neg_on {D : Fin mo} {p : Pt mo} (h : POn D p) : POn D (pneg p) := by unfold POn On pneg at *; grind
theorem padd_neg (K : Fld inv) {D : Fin mo} (hD : ∀ r : Fin mo, r * r ≠ D) {p : Pt mo} (hp : POn D p) : padd inv D p (pneg p) = pzero := by
  have hm := compl_m K hD hp (neg_on hp)
  unfold padd pzero pneg ax ay at *
  cases p with
  | mk x y =>
    unfold POn On at hp
    simp only at *
    have i := K.inv_mul _ hm
    congr 1
    · rw [show x * y + -x * y = 0 by grind]; grind
    · rw [show y * y - x * -x = 1 - D * x * -x * y * y by grind]; exact i
theorem pmul_on (K : Fld inv) {D : Fin mo} (hD : ∀ r : Fin mo, r * r ≠ D) {p : Pt mo} (hp : POn D p) : ∀ n, POn D (pmul inv D p n)
  | 0 => zero_on D
  | n + 1 => padd_on K hD (pmul_on K hD hp n) hp
theorem pmul_add (K : Fld inv) {D : Fin mo} (hD : ∀ r : Fin mo, r * r ≠ D) {p : Pt mo} (hp : POn D p) (m : Nat) : ∀ n, pmul inv D p (m + n) = padd inv D (pmul inv D p m) (pmul inv D p n)
  | 0 => by rw [Nat.add_zero, pmul, padd_zero K]
  | n + 1 => by
    rw [← Nat.add_assoc, pmul, pmul_add K hD hp m n, pmul, padd_assoc K hD (pmul_on K hD hp m) (pmul_on K hD hp n) hp]
theorem pmul_mul (K : Fld inv) {D : Fin mo} (hD : ∀ r : Fin mo, r * r ≠ D) {p : Pt mo} (hp : POn D p) (m : Nat) : ∀ n, pmul inv D p (m * n) = pmul inv D (pmul inv D p m) n
  | 0 => rfl
  | n + 1 => by rw [Nat.mul_succ, pmul_add K hD hp, pmul_mul K hD hp m n]; rfl
theorem pmul_comm (K : Fld inv) {D : Fin mo} (hD : ∀ r : Fin mo, r * r ≠ D) {p : Pt mo} (hp : POn D p) (m n : Nat) : pmul inv D (pmul inv D p m) n = pmul inv D (pmul inv D p n) m := by
  rw [← pmul_mul K hD hp, Nat.mul_comm, pmul_mul K hD hp]
theorem pmul_zero (K : Fld inv) (D : Fin mo) : ∀ n, pmul inv D (pzero : Pt mo) n = pzero
  | 0 => rfl
  | n + 1 => by rw [pmul, pmul_zero K D n, padd_zero K]
/-- (n + 1) p less n p is p -/
theorem pmul_diff (K : Fld inv) {D : Fin mo} (hD : ∀ r : Fin mo, r * r ≠ D) {p : Pt mo} (hp : POn D p) (n : Nat) : padd inv D (pmul inv D p (n + 1)) (pneg (pmul inv D p n)) = p := by
  have hn := pmul_on K hD hp n
  rw [pmul, padd_comm D (pmul inv D p n) p, padd_assoc K hD hp hn (neg_on hn), padd_neg K hD hn, padd_zero K]
/-! the ladder's step -/
/-- a : b stands for the point whose second coordinate is y -/
def Rep (e a b y : Fin mo) : Prop := ∃ k : Fin mo, k ≠ 0 ∧ a = e * k * (1 + y) ∧ b = k * (1 - y)
structure Par (inv : Fin mo → Fin mo) (D e c : Fin mo) : Prop where
  K : Fld inv
  hD : ∀ r : Fin mo, r * r ≠ D
  he : e * e = 1
  hc : (e = 1 ∧ D * (c + 1) = c) ∨ (e = -1 ∧ D * c = c + 1)
theorem half (K : Fld inv) : (1 + 1) * inv (1 + 1) = (1 : Fin mo) := K.inv_mul _ K.two_ne
theorem nsq1 (K : Fld inv) {D y : Fin mo} (hD : ∀ r : Fin mo, r * r ≠ D) : 1 - D * y * y ≠ 0 := by
  intro h
  have hy : y ≠ 0 := by intro h0; apply K.one_ne; grind
  have i := K.inv_mul y hy
  refine hD (inv y) ?_
  have h1 : D * (y * y) = 1 := by grind
  have : inv y * inv y = D * ((y * inv y) * (y * inv y)) := by
    have : inv y * inv y = (D * (y * y)) * (inv y * inv y) := by rw [h1]; grind
    rw [this]; grind
  rw [this, i]; grind
theorem mul3 (K : Fld inv) {a b c : Fin mo} (ha : a ≠ 0) (hb : b ≠ 0) (hc : c ≠ 0) : a * b * c ≠ 0 := mul_ne K (mul_ne K ha hb) hc
theorem one_sub {y : Fin mo} (h : 1 - y = 0) : y = 1 := by grind
theorem one_add {y : Fin mo} (h : 1 + y = 0) : y = -1 := by grind
theorem dbl_rep {D e c0 x y a b : Fin mo} (Q : Par inv D e c0) (hO : On D x y) (h : Rep e a b y) :
    Rep e ((a + b) * (a + b) * ((a - b) * (a - b))) (((a + b) * (a + b) - (a - b) * (a - b)) * ((a + b) * (a + b) + ((a + b) * (a + b) - (a - b) * (a - b)) * c0)) (ay inv D x y x y) := by
  have K := Q.K
  have hm := compl_m K Q.hD hO hO
  have hY := ay_mul K Q.hD hO hO
  have hn := nsq1 K (y := y) Q.hD
  have e1 : 1 - D * x * x * y * y = 1 + 1 - x * x - y * y := by unfold On at hO; grind
  have e2 : (1 - D * y * y) * (1 - x * x) = y * y * (1 - D) := by unfold On at hO; grind
  generalize ay inv D x y x y = Y at *
  generalize 1 - D * x * x * y * y = m at *
  obtain ⟨k, hk, ha, hb⟩ := h
  have h8 : (1 + 1) * (1 + 1) * (1 + 1) ≠ (0 : Fin mo) := mul3 K K.two_ne K.two_ne K.two_ne
  have hk4 : k * k * (k * k) ≠ 0 := mul_ne K (mul_ne K hk hk) (mul_ne K hk hk)
  have hO' := hO
  clear hO hO'
  rcases Q.hc with ⟨he, hc⟩ | ⟨he, hc⟩
  · have hc1 : 1 + c0 ≠ 0 := by intro h0; apply K.one_ne; grind
    have e3 : (1 + c0) * (1 - D) = 1 := by grind
    have e4 : (1 + c0) * (1 - D * y * y) = 1 + c0 * (1 - y * y) := by grind
    refine ⟨(1 + 1) * (1 + 1) * (1 + 1) * (k * k * (k * k)) * ((1 + c0) * (1 - D * y * y)) * m, mul_ne K (mul3 K h8 hk4 (mul_ne K hc1 hn)) hm, ?_, ?_⟩
    · have g1 : e * ((1 + 1) * (1 + 1) * (1 + 1) * (k * k * (k * k)) * ((1 + c0) * (1 - D * y * y)) * m) * (1 + Y) = (1 + 1) * (1 + 1) * (1 + 1) * (k * k * (k * k)) * ((1 + c0) * (1 - D * y * y)) * (m + Y * m) := by rw [he]; grind
      have g2 : (1 + 1) * (1 + 1) * (1 + 1) * (k * k * (k * k)) * ((1 + c0) * (1 - D * y * y)) * (1 + 1 - x * x - y * y + (y * y - x * x)) = (1 + 1) * (1 + 1) * (1 + 1) * (1 + 1) * (k * k * (k * k)) * (1 + c0) * ((1 - D * y * y) * (1 - x * x)) := by grind
      have g3 : (1 + 1) * (1 + 1) * (1 + 1) * (1 + 1) * (k * k * (k * k)) * (1 + c0) * (y * y * (1 - D)) = (1 + 1) * (1 + 1) * (1 + 1) * (1 + 1) * (k * k * (k * k)) * (y * y) * ((1 + c0) * (1 - D)) := by grind
      rw [g1, hY, e1, g2, e2, g3, e3, ha, hb, he]
      grind
    · have g1 : (1 + 1) * (1 + 1) * (1 + 1) * (k * k * (k * k)) * ((1 + c0) * (1 - D * y * y)) * m * (1 - Y) = (1 + 1) * (1 + 1) * (1 + 1) * (k * k * (k * k)) * ((1 + c0) * (1 - D * y * y)) * (m - Y * m) := by grind
      rw [g1, hY, e1, e4, ha, hb, he]
      grind
  · have hc1 : c0 ≠ 0 := by intro h0; apply K.one_ne; grind
    have e3 : c0 * (1 - D) = -1 := by grind
    have e4 : c0 * (1 - D * y * y) = c0 - (c0 + 1) * (y * y) := by grind
    refine ⟨(1 + 1) * (1 + 1) * (1 + 1) * (k * k * (k * k)) * (c0 * (1 - D * y * y)) * m, mul_ne K (mul3 K h8 hk4 (mul_ne K hc1 hn)) hm, ?_, ?_⟩
    · have g1 : e * ((1 + 1) * (1 + 1) * (1 + 1) * (k * k * (k * k)) * (c0 * (1 - D * y * y)) * m) * (1 + Y) = - ((1 + 1) * (1 + 1) * (1 + 1) * (k * k * (k * k)) * (c0 * (1 - D * y * y)) * (m + Y * m)) := by rw [he]; grind
      have g2 : (1 + 1) * (1 + 1) * (1 + 1) * (k * k * (k * k)) * (c0 * (1 - D * y * y)) * (1 + 1 - x * x - y * y + (y * y - x * x)) = (1 + 1) * (1 + 1) * (1 + 1) * (1 + 1) * (k * k * (k * k)) * c0 * ((1 - D * y * y) * (1 - x * x)) := by grind
      have g3 : (1 + 1) * (1 + 1) * (1 + 1) * (1 + 1) * (k * k * (k * k)) * c0 * (y * y * (1 - D)) = (1 + 1) * (1 + 1) * (1 + 1) * (1 + 1) * (k * k * (k * k)) * (y * y) * (c0 * (1 - D)) := by grind
      rw [g1, hY, e1, g2, e2, g3, e3, ha, hb, he]
      grind
    · have g1 : (1 + 1) * (1 + 1) * (1 + 1) * (k * k * (k * k)) * (c0 * (1 - D * y * y)) * m * (1 - Y) = (1 + 1) * (1 + 1) * (1 + 1) * (k * k * (k * k)) * (c0 * (1 - D * y * y)) * (m - Y * m) := by grind
      rw [g1, hY, e1, e4, ha, hb, he]
      grind
theorem diff_poly {D x1 y1 x2 y2 : Fin mo} (h1 : On D x1 y1) (h2 : On D x2 y2) :
    (y1 + y2) * (y1 + y2) * (1 + D * x1 * x2 * y1 * y2 - y1 * y2 - x1 * x2) * (1 - D * x1 * x2 * y1 * y2 - y1 * y2 + x1 * x2) = (y1 - y2) * (y1 - y2) * (1 + D * x1 * x2 * y1 * y2 + y1 * y2 + x1 * x2) * (1 - D * x1 * x2 * y1 * y2 + y1 * y2 - x1 * x2) := by
  unfold On at h1 h2
  have z1 := sub0 h1
  have z2 := sub0 h2
  have A : (y1 + y2) * (y1 + y2) * (1 + D * x1 * x2 * y1 * y2 - y1 * y2 - x1 * x2) * (1 - D * x1 * x2 * y1 * y2 - y1 * y2 + x1 * x2) - (y1 - y2) * (y1 - y2) * (1 + D * x1 * x2 * y1 * y2 + y1 * y2 + x1 * x2) * (1 - D * x1 * x2 * y1 * y2 + y1 * y2 - x1 * x2)
     = (4 * x2 * x2 * y1 * y2 * (D * y2 * y2 - 1)) * (x1 * x1 + y1 * y1 - (1 + D * (x1 * x1) * (y1 * y1))) + (4 * y1 * y2 * (y1 - 1) * (y1 + 1)) * (x2 * x2 + y2 * y2 - (1 + D * (x2 * x2) * (y2 * y2))) := by
    clear h1 h2 z1 z2
    grind
  rw [z1, z2, mul0, mul0, add0] at A
  exact eq_of A
theorem diff_y {D x1 y1 x2 y2 y0 y3 : Fin mo} (K : Fld inv) (hD : ∀ r : Fin mo, r * r ≠ D) (h1 : On D x1 y1) (h2 : On D x2 y2)
    (e0 : y0 * (1 + D * x1 * x2 * y1 * y2) = y1 * y2 + x1 * x2) (e3 : y3 * (1 - D * x1 * x2 * y1 * y2) = y1 * y2 - x1 * x2) :
    (y1 + y2) * (y1 + y2) * (1 - y0) * (1 - y3) = (y1 - y2) * (y1 - y2) * (1 + y0) * (1 + y3) := by
  have hp := compl_p K hD h1 h2
  have hm := compl_m K hD h1 h2
  have po := diff_poly h1 h2
  clear h1 h2
  have f1 : 1 + D * x1 * x2 * y1 * y2 - y1 * y2 - x1 * x2 = (1 + D * x1 * x2 * y1 * y2) * (1 - y0) := by
    have : (1 + D * x1 * x2 * y1 * y2) * (1 - y0) = (1 + D * x1 * x2 * y1 * y2) - y0 * (1 + D * x1 * x2 * y1 * y2) := by grind
    rw [this, e0]; grind
  have f2 : 1 - D * x1 * x2 * y1 * y2 - y1 * y2 + x1 * x2 = (1 - D * x1 * x2 * y1 * y2) * (1 - y3) := by
    have : (1 - D * x1 * x2 * y1 * y2) * (1 - y3) = (1 - D * x1 * x2 * y1 * y2) - y3 * (1 - D * x1 * x2 * y1 * y2) := by grind
    rw [this, e3]; grind
  have f3 : 1 + D * x1 * x2 * y1 * y2 + y1 * y2 + x1 * x2 = (1 + D * x1 * x2 * y1 * y2) * (1 + y0) := by
    have : (1 + D * x1 * x2 * y1 * y2) * (1 + y0) = (1 + D * x1 * x2 * y1 * y2) + y0 * (1 + D * x1 * x2 * y1 * y2) := by grind
    rw [this, e0]; grind
  have f4 : 1 - D * x1 * x2 * y1 * y2 + y1 * y2 - x1 * x2 = (1 - D * x1 * x2 * y1 * y2) * (1 + y3) := by
    have : (1 - D * x1 * x2 * y1 * y2) * (1 + y3) = (1 - D * x1 * x2 * y1 * y2) + y3 * (1 - D * x1 * x2 * y1 * y2) := by grind
    rw [this, e3]; grind
  rw [f1, f2, f3, f4] at po
  clear f1 f2 f3 f4 e0 e3
  generalize 1 + D * x1 * x2 * y1 * y2 = p at *
  generalize 1 - D * x1 * x2 * y1 * y2 = m at *
  apply cancel K (mul_ne K hp hm)
  have g1 : (y1 + y2) * (y1 + y2) * (1 - y0) * (1 - y3) * (p * m) = (y1 + y2) * (y1 + y2) * (p * (1 - y0)) * (m * (1 - y3)) := by grind
  have g2 : (y1 - y2) * (y1 - y2) * (1 + y0) * (1 + y3) * (p * m) = (y1 - y2) * (y1 - y2) * (p * (1 + y0)) * (m * (1 + y3)) := by grind
  rw [g1, g2, po]
theorem diff_rep {D e c0 x1 y1 x2 y2 y0 a b c d X : Fin mo} (Q : Par inv D e c0) (h1 : On D x1 y1) (h2 : On D x2 y2) (hy : ay inv D x2 y2 (-x1) y1 = y0) (n1 : y0 ≠ 1) (n2 : y0 ≠ -1)
    (hX : X * (1 - y0) = e * (1 + y0)) (ha : Rep e a b y1) (hc : Rep e c d y2) :
    Rep e (((c - d) * (a + b) + (c + d) * (a - b)) * ((c - d) * (a + b) + (c + d) * (a - b))) (X * (((c - d) * (a + b) - (c + d) * (a - b)) * ((c - d) * (a + b) - (c + d) * (a - b)))) (ay inv D x1 y1 x2 y2) := by
  have K := Q.K
  have he := Q.he
  have hn : On D (-x1) y1 := by unfold On at *; grind
  have e0 := ay_mul K Q.hD h2 hn
  rw [hy] at e0
  have e0 : y0 * (1 + D * x1 * x2 * y1 * y2) = y1 * y2 + x1 * x2 := by
    have g : 1 - D * x2 * -x1 * y2 * y1 = 1 + D * x1 * x2 * y1 * y2 := by grind
    rw [g] at e0; rw [e0]; grind
  have e3 := ay_mul K Q.hD h1 h2
  generalize hY3 : ay inv D x1 y1 x2 y2 = y3 at *
  have key := diff_y K Q.hD h1 h2 e0 e3
  obtain ⟨k1, hk1, ha1, hb1⟩ := ha
  obtain ⟨k2, hk2, hc1, hd1⟩ := hc
  have s1 : (c - d) * (a + b) + (c + d) * (a - b) = (1 + 1) * (1 + 1) * (k1 * k2) * (y1 + y2) := by
    have : (c - d) * (a + b) + (c + d) * (a - b) = (1 + 1) * (a * c - b * d) := by grind
    rw [this, ha1, hb1, hc1, hd1]
    have : (1 + 1) * (e * k1 * (1 + y1) * (e * k2 * (1 + y2)) - k1 * (1 - y1) * (k2 * (1 - y2))) = (1 + 1) * (e * e * (k1 * k2 * (1 + y1) * (1 + y2)) - k1 * (1 - y1) * (k2 * (1 - y2))) := by grind
    rw [this, he]; grind
  have s2 : (c - d) * (a + b) - (c + d) * (a - b) = (1 + 1) * (1 + 1) * e * (k1 * k2) * (y2 - y1) := by
    have : (c - d) * (a + b) - (c + d) * (a - b) = (1 + 1) * (b * c - a * d) := by grind
    rw [this, ha1, hb1, hc1, hd1]
    grind
  rw [s1, s2]
  have t2 : (1 + 1) * (1 + 1) * e * (k1 * k2) * (y2 - y1) * ((1 + 1) * (1 + 1) * e * (k1 * k2) * (y2 - y1)) = (1 + 1) * (1 + 1) * (k1 * k2) * (y1 - y2) * ((1 + 1) * (1 + 1) * (k1 * k2) * (y1 - y2)) := by
    have : (1 + 1) * (1 + 1) * e * (k1 * k2) * (y2 - y1) * ((1 + 1) * (1 + 1) * e * (k1 * k2) * (y2 - y1)) = e * e * ((1 + 1) * (1 + 1) * (k1 * k2) * (y1 - y2) * ((1 + 1) * (1 + 1) * (k1 * k2) * (y1 - y2))) := by grind
    rw [this, he]; grind
  rw [t2]
  have hq : (1 + 1) * (1 + 1) * (k1 * k2) ≠ 0 := mul_ne K (mul_ne K K.two_ne K.two_ne) (mul_ne K hk1 hk2)
  generalize (1 + 1) * (1 + 1) * (k1 * k2) = q at *
  have hy0 : 1 - y0 ≠ 0 := fun h0 => n1 (one_sub h0)
  have hy0' : 1 + y0 ≠ 0 := fun h0 => n2 (one_add h0)
  have hX0 : X ≠ 0 := by
    intro h0
    have : e * e * (1 + y0) = 0 := by
      have g : e * e * (1 + y0) = e * (e * (1 + y0)) := by grind
      rw [g, ← hX, h0]; grind
    rw [he] at this
    apply hy0'
    grind
  -- c' (1 - y3) = e d' (1 + y3)
  have main : q * (y1 + y2) * (q * (y1 + y2)) * (1 - y3) = e * (X * (q * (y1 - y2) * (q * (y1 - y2)))) * (1 + y3) := by
    apply cancel K hy0
    have g1 : q * (y1 + y2) * (q * (y1 + y2)) * (1 - y3) * (1 - y0) = q * q * ((y1 + y2) * (y1 + y2) * (1 - y0) * (1 - y3)) := by grind
    have g2 : e * (X * (q * (y1 - y2) * (q * (y1 - y2)))) * (1 + y3) * (1 - y0) = e * (X * (1 - y0)) * (q * q * ((y1 - y2) * (y1 - y2) * (1 + y3))) := by grind
    have g3 : e * (e * (1 + y0)) * (q * q * ((y1 - y2) * (y1 - y2) * (1 + y3))) = e * e * (q * q * ((y1 - y2) * (y1 - y2) * (1 + y0) * (1 + y3))) := by grind
    rw [g1, g2, hX, g3, he, key]; grind
  have hh := half K
  have nz : ¬ (y1 + y2 = 0 ∧ y1 - y2 = 0) := by
    rintro ⟨u1, u2⟩
    have v1 : (1 + 1) * y1 = 0 := by grind
    have v2 : (1 + 1) * y2 = 0 := by grind
    have w1 : y1 = 0 := by rcases K.nzd v1 with z | z; exact absurd z K.two_ne; exact z
    have w2 : y2 = 0 := by rcases K.nzd v2 with z | z; exact absurd z K.two_ne; exact z
    subst w1; subst w2
    unfold On at h1 h2
    have o1 : x1 * x1 = 1 := by grind
    have o2 : x2 * x2 = 1 := by grind
    have e00 : y0 = x1 * x2 := by grind
    have : (1 - y0) * (1 + y0) = 0 := by
      have g : (1 - y0) * (1 + y0) = 1 - (x1 * x1) * (x2 * x2) := by rw [e00]; grind
      rw [g, o1, o2]; grind
    rcases K.nzd this with z | z
    · exact hy0 z
    · exact hy0' z
  generalize hC : q * (y1 + y2) * (q * (y1 + y2)) = C at *
  generalize hE : X * (q * (y1 - y2) * (q * (y1 - y2))) = E at *
  have r1 : e * ((e * C + E) * inv (1 + 1)) * (1 + y3) = C := by
    have g1 : e * ((e * C + E) * inv (1 + 1)) * (1 + y3) = (e * e * C * (1 + y3) + e * E * (1 + y3)) * inv (1 + 1) := by grind
    have g2 : (1 * C * (1 + y3) + C * (1 - y3)) * inv (1 + 1) = C * ((1 + 1) * inv (1 + 1)) := by grind
    rw [g1, he, ← main, g2, hh]; grind
  have r2 : (e * C + E) * inv (1 + 1) * (1 - y3) = E := by
    have g1 : (e * C + E) * inv (1 + 1) * (1 - y3) = (e * (C * (1 - y3)) + E * (1 - y3)) * inv (1 + 1) := by grind
    have g2 : (e * (e * E * (1 + y3)) + E * (1 - y3)) * inv (1 + 1) = (e * e * (E * (1 + y3)) + E * (1 - y3)) * inv (1 + 1) := by grind
    have g3 : (1 * (E * (1 + y3)) + E * (1 - y3)) * inv (1 + 1) = E * ((1 + 1) * inv (1 + 1)) := by grind
    rw [g1, main, g2, he, g3, hh]; grind
  refine ⟨(e * C + E) * inv (1 + 1), fun h0 => nz ?_, r1.symm, r2.symm⟩
  rw [h0] at r1 r2
  have c0' : C = 0 := by rw [← r1]; grind
  have d0' : E = 0 := by rw [← r2]; grind
  constructor
  · have : q * (y1 + y2) * (q * (y1 + y2)) = 0 := hC.trans c0'
    rcases K.nzd this with z | z <;> (rcases K.nzd z with z | z; exact absurd z hq; exact z)
  · have : X * (q * (y1 - y2) * (q * (y1 - y2))) = 0 := hE.trans d0'
    rcases K.nzd this with z | z
    · exact absurd z hX0
    · rcases K.nzd z with z | z <;> (rcases K.nzd z with z | z; exact absurd z hq; exact z)
/-! the ladder -/
structure FL (mo : Nat) where
  a : Fin mo
  b : Fin mo
  c : Fin mo
  d : Fin mo
def fstep (c0 X : Fin mo) (q : FL mo) : FL mo :=
  ⟨(q.a + q.b) * (q.a + q.b) * ((q.a - q.b) * (q.a - q.b)),
   ((q.a + q.b) * (q.a + q.b) - (q.a - q.b) * (q.a - q.b)) * ((q.a + q.b) * (q.a + q.b) + ((q.a + q.b) * (q.a + q.b) - (q.a - q.b) * (q.a - q.b)) * c0),
   ((q.c - q.d) * (q.a + q.b) + (q.c + q.d) * (q.a - q.b)) * ((q.c - q.d) * (q.a + q.b) + (q.c + q.d) * (q.a - q.b)),
   X * (((q.c - q.d) * (q.a + q.b) - (q.c + q.d) * (q.a - q.b)) * ((q.c - q.d) * (q.a + q.b) - (q.c + q.d) * (q.a - q.b)))⟩
def FL.swap (q : FL mo) (t : Bool) : FL mo := if t then ⟨q.c, q.d, q.a, q.b⟩ else q
/-- a round with the digit g: swap, step, swap back -/
def frnd (c0 X : Fin mo) (g : Bool) (q : FL mo) : FL mo := (fstep c0 X (q.swap g)).swap g
def flad (c0 X : Fin mo) (q : FL mo) : List Bool → FL mo
  | [] => q
  | g :: r => flad c0 X (frnd c0 X g q) r
def bval (n : Nat) : List Bool → Nat
  | [] => n
  | g :: r => bval (2 * n + if g then 1 else 0) r
/-- q stands for n p and (n + 1) p -/
def Stands (inv : Fin mo → Fin mo) (D e : Fin mo) (p : Pt mo) (n : Nat) (q : FL mo) : Prop := Rep e q.a q.b (pmul inv D p n).y ∧ Rep e q.c q.d (pmul inv D p (n + 1)).y
theorem pmul_dbl {D e c0 : Fin mo} (Q : Par inv D e c0) {p : Pt mo} (hp : POn D p) (n : Nat) : pmul inv D p (2 * n) = padd inv D (pmul inv D p n) (pmul inv D p n) := by
  rw [show 2 * n = n + n by omega, pmul_add Q.K Q.hD hp]
theorem fstep_ok {D e c0 X : Fin mo} (Q : Par inv D e c0) {p : Pt mo} (hp : POn D p) (n1 : p.y ≠ 1) (n2 : p.y ≠ -1) (hX : X * (1 - p.y) = e * (1 + p.y)) {n : Nat} {q : FL mo}
    (h : Rep e q.a q.b (pmul inv D p n).y) (h' : Rep e q.c q.d (pmul inv D p (n + 1)).y) :
    Rep e (fstep c0 X q).a (fstep c0 X q).b (pmul inv D p (2 * n)).y ∧ Rep e (fstep c0 X q).c (fstep c0 X q).d (pmul inv D p (2 * n + 1)).y := by
  have o1 := pmul_on Q.K Q.hD hp n
  have o2 := pmul_on Q.K Q.hD hp (n + 1)
  constructor
  · rw [pmul_dbl Q hp]
    exact dbl_rep Q o1 h
  · rw [show 2 * n + 1 = n + (n + 1) by omega, pmul_add Q.K Q.hD hp]
    exact diff_rep Q o1 o2 (congrArg Pt.y (pmul_diff Q.K Q.hD hp n)) n1 n2 hX h h'
theorem ay_neg {D x1 y1 x2 y2 : Fin mo} : ay inv D x2 y2 (-x1) y1 = ay inv D x1 y1 (-x2) y2 := by
  unfold ay
  rw [show y2 * y1 - x2 * -x1 = y1 * y2 - x1 * -x2 by grind, show 1 - D * x2 * -x1 * y2 * y1 = 1 - D * x1 * -x2 * y1 * y2 by grind]
theorem fstep_ok' {D e c0 X : Fin mo} (Q : Par inv D e c0) {p : Pt mo} (hp : POn D p) (n1 : p.y ≠ 1) (n2 : p.y ≠ -1) (hX : X * (1 - p.y) = e * (1 + p.y)) {n : Nat} {q : FL mo}
    (h : Rep e q.a q.b (pmul inv D p (n + 1)).y) (h' : Rep e q.c q.d (pmul inv D p n).y) :
    Rep e (fstep c0 X q).a (fstep c0 X q).b (pmul inv D p (2 * n + 2)).y ∧ Rep e (fstep c0 X q).c (fstep c0 X q).d (pmul inv D p (2 * n + 1)).y := by
  have o1 := pmul_on Q.K Q.hD hp n
  have o2 := pmul_on Q.K Q.hD hp (n + 1)
  constructor
  · rw [show 2 * n + 2 = 2 * (n + 1) by omega, pmul_dbl Q hp]
    exact dbl_rep Q o2 h
  · rw [show 2 * n + 1 = (n + 1) + n by omega, pmul_add Q.K Q.hD hp]
    exact diff_rep Q o2 o1 (ay_neg.trans (congrArg Pt.y (pmul_diff Q.K Q.hD hp n))) n1 n2 hX h h'
theorem frnd_ok {D e c0 X : Fin mo} (Q : Par inv D e c0) {p : Pt mo} (hp : POn D p) (n1 : p.y ≠ 1) (n2 : p.y ≠ -1) (hX : X * (1 - p.y) = e * (1 + p.y)) {n : Nat} {q : FL mo} (g : Bool)
    (h : Stands inv D e p n q) : Stands inv D e p (2 * n + if g then 1 else 0) (frnd c0 X g q) := by
  cases g with
  | false => exact fstep_ok Q hp n1 n2 hX h.1 h.2
  | true =>
    have := fstep_ok' (q := q.swap true) Q hp n1 n2 hX h.2 h.1
    exact ⟨this.2, this.1⟩
theorem flad_ok {D e c0 X : Fin mo} (Q : Par inv D e c0) {p : Pt mo} (hp : POn D p) (n1 : p.y ≠ 1) (n2 : p.y ≠ -1) (hX : X * (1 - p.y) = e * (1 + p.y)) : ∀ (l : List Bool) {n : Nat} {q : FL mo},
    Stands inv D e p n q → Stands inv D e p (bval n l) (flad c0 X q l)
  | [], n, q, h => h
  | g :: r, n, q, h => flad_ok Q hp n1 n2 hX r (frnd_ok Q hp n1 n2 hX g h)
/-- the coordinate u of a point -/
def uof (inv : Fin mo → Fin mo) (e y : Fin mo) : Fin mo := e * (1 + y) * inv (1 - y)
theorem rep_div (K : Fld inv) (h0 : inv 0 = 0) {e a b y : Fin mo} (h : Rep e a b y) : a * inv b = uof inv e y := by
  obtain ⟨k, hk, ha, hb⟩ := h
  unfold uof
  by_cases hy : 1 - y = 0
  · rw [hb, hy, show k * 0 = (0 : Fin mo) by grind, h0]; grind
  · refine div_eq K ?_ hy ?_
    · rw [hb]; exact mul_ne K hk hy
    · rw [ha, hb]; grind
theorem start_ok {D e c0 X : Fin mo} (Q : Par inv D e c0) {p : Pt mo} (n1 : p.y ≠ 1) (hX : X * (1 - p.y) = e * (1 + p.y)) : Stands inv D e p 0 ⟨1, 0, X, 1⟩ := by
  have K := Q.K
  have hh := half K
  have he := Q.he
  constructor
  · refine ⟨e * inv (1 + 1), mul_ne K (fun h0 => K.one_ne (by rw [← he, h0]; grind)) (fun h0 => K.one_ne (by rw [← hh, h0]; grind)), ?_, ?_⟩
    · show (1 : Fin mo) = e * (e * inv (1 + 1)) * (1 + 1)
      have : e * (e * inv (1 + 1)) * (1 + 1) = e * e * ((1 + 1) * inv (1 + 1)) := by grind
      rw [this, he, hh]; grind
    · show (0 : Fin mo) = e * inv (1 + 1) * (1 - 1); grind
  · have hn : 1 - p.y ≠ 0 := fun h0 => n1 (one_sub h0)
    have hi := K.inv_mul _ hn
    have e1 : (pmul inv D p (0 + 1)).y = p.y := by rw [pmul, pmul, zero_padd K]
    rw [e1]
    refine ⟨inv (1 - p.y), fun h0 => K.one_ne (by rw [← hi, h0]; grind), ?_, ?_⟩
    · show X = e * inv (1 - p.y) * (1 + p.y)
      have : e * inv (1 - p.y) * (1 + p.y) = e * (1 + p.y) * inv (1 - p.y) := by grind
      rw [this, ← hX]
      have : X * (1 - p.y) * inv (1 - p.y) = X * ((1 - p.y) * inv (1 - p.y)) := by grind
      rw [this, hi]; grind
    · show (1 : Fin mo) = inv (1 - p.y) * (1 - p.y)
      rw [← hi]; grind
def fsh (inv : Fin mo → Fin mo) (c0 X : Fin mo) (l : List Bool) : Fin mo := (flad c0 X ⟨1, 0, X, 1⟩ l).a * inv (flad c0 X ⟨1, 0, X, 1⟩ l).b
theorem fsh_ok {D e c0 X : Fin mo} (Q : Par inv D e c0) (h0 : inv 0 = 0) {p : Pt mo} (hp : POn D p) (n1 : p.y ≠ 1) (n2 : p.y ≠ -1) (hX : X * (1 - p.y) = e * (1 + p.y)) (l : List Bool) :
    fsh inv c0 X l = uof inv e (pmul inv D p (bval 0 l)).y :=
  rep_div Q.K h0 (flad_ok Q hp n1 n2 hX l (start_ok Q n1 hX)).1
/-- of 0 comes 0 -/
theorem frnd_zero {c0 : Fin mo} (g : Bool) (q : FL mo) (hb : q.b = 0) (hd : q.d = 0) : (frnd c0 0 g q).b = 0 ∧ (frnd c0 0 g q).d = 0 := by
  cases g <;> (simp only [frnd, fstep, FL.swap, hb, hd, if_true, Bool.false_eq_true, if_false]; constructor <;> grind)
theorem flad_zero {c0 : Fin mo} : ∀ (l : List Bool) (q : FL mo), q.b = 0 → q.d = 0 → (flad c0 0 q l).b = 0
  | [], q, hb, hd => hb
  | g :: r, q, hb, hd => flad_zero r _ (frnd_zero g q hb hd).1 (frnd_zero g q hb hd).2
theorem fsh_zero {c0 : Fin mo} (h0 : inv 0 = 0) (g : Bool) (l : List Bool) : fsh inv c0 0 (g :: l) = 0 := by
  have h : (frnd c0 0 g ⟨1, 0, 0, 1⟩).b = 0 ∧ (frnd c0 0 g ⟨1, 0, 0, 1⟩).d = 0 := by
    cases g <;> (simp only [frnd, fstep, FL.swap, if_true, Bool.false_eq_true, if_false]; constructor <;> grind)
  unfold fsh
  rw [show flad c0 0 ⟨1, 0, 0, 1⟩ (g :: l) = flad c0 0 (frnd c0 0 g ⟨1, 0, 0, 1⟩) l from rfl, flad_zero l _ h.1 h.2, h0]; grind
theorem uof_one (h0 : inv 0 = 0) (e : Fin mo) : uof inv e 1 = 0 := by unfold uof; rw [show (1 : Fin mo) - 1 = 0 by grind, h0]; grind
theorem uof_mone (e : Fin mo) : uof inv e (-1) = 0 := by unfold uof; rw [show (1 : Fin mo) + -1 = 0 by grind]; grind
theorem pmul_even {D e c0 : Fin mo} (Q : Par inv D e c0) {p : Pt mo} (hp : POn D p) (hy : p.y = -1) (n : Nat) : pmul inv D p (2 * n) = pzero := by
  have hx : p.x = 0 := by
    unfold POn On at hp
    rw [hy] at hp
    have : p.x * p.x * (1 - D) = 0 := by grind
    rcases Q.K.nzd this with z | z
    · rcases Q.K.nzd z with z | z <;> exact z
    · exact absurd (by grind) (Q.hD 1)
  have h2 : pmul inv D p 2 = pzero := by
    rw [pmul, pmul, pmul, zero_padd Q.K]
    unfold padd ax ay pzero
    rw [hx, hy, show (1 : Fin mo) - D * 0 * 0 * -1 * -1 = 1 by grind, inv_one Q.K]
    congr 1 <;> grind
  rw [pmul_mul Q.K Q.hD hp, h2, pmul_zero Q.K]
/-- what comes of n P, with an even number of turns -/
theorem fsh_next {D e c0 : Fin mo} (Q : Par inv D e c0) (h0 : inv 0 = 0) {p : Pt mo} (hp : POn D p) (g : Bool) (l : List Bool) (n : Nat) (hl : bval 0 (g :: l) = 2 * n) :
    fsh inv c0 (uof inv e p.y) (g :: l) = uof inv e (pmul inv D p (bval 0 (g :: l))).y := by
  by_cases n1 : p.y = 1
  · have hx : p.x = 0 := by
      unfold POn On at hp
      rw [n1] at hp
      have : p.x * p.x * (1 - D) = 0 := by grind
      rcases Q.K.nzd this with z | z
      · rcases Q.K.nzd z with z | z <;> exact z
      · exact absurd (by grind) (Q.hD 1)
    have hz : p = pzero := by cases p; simp only at n1 hx; subst n1; subst hx; rfl
    rw [n1, uof_one h0, fsh_zero h0, hz, pmul_zero Q.K]; exact (uof_one h0 e).symm
  · by_cases n2 : p.y = -1
    · rw [n2, uof_mone, fsh_zero h0, hl, pmul_even Q hp n2]; exact (uof_one h0 e).symm
    · refine fsh_ok Q h0 hp n1 n2 ?_ _
      have hi := Q.K.inv_mul (1 - p.y) (fun h => n1 (one_sub h))
      unfold uof
      have : e * (1 + p.y) * inv (1 - p.y) * (1 - p.y) = e * (1 + p.y) * ((1 - p.y) * inv (1 - p.y)) := by grind
      rw [this, hi]; grind
theorem fsh_comm {D e c0 : Fin mo} (Q : Par inv D e c0) (h0 : inv 0 = 0) {p : Pt mo} (hp : POn D p) (g g' : Bool) (l l' : List Bool) (n n' : Nat) (hl : bval 0 (g :: l) = 2 * n) (hl' : bval 0 (g' :: l') = 2 * n') :
    fsh inv c0 (fsh inv c0 (uof inv e p.y) (g' :: l')) (g :: l) = fsh inv c0 (fsh inv c0 (uof inv e p.y) (g :: l)) (g' :: l') := by
  rw [fsh_next Q h0 hp g' l' n' hl', fsh_next Q h0 hp g l n hl, fsh_next Q h0 (pmul_on Q.K Q.hD hp _) g l n hl, fsh_next Q h0 (pmul_on Q.K Q.hD hp _) g' l' n' hl', pmul_comm Q.K Q.hD hp]
end Go.Edw
