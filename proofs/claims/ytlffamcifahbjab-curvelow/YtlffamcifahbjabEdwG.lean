import Derived.Test.YtlffamcifahbjabEdwF
set_option linter.unusedVariables false
namespace Go.Edw
variable {mo : Nat} [NeZero mo] {fi : Fin mo → Fin mo} {c0 : Fin mo}
/-! the curve and its twist -/
theorem par1 (fldP : Fld fi) (c1_ne : c0 + 1 ≠ 0) (nsq : ∀ t : Fin mo, t * t ≠ c0 * (c0 + 1)) : Par fi (c0 * fi (c0 + 1)) 1 c0 where
  K := fldP
  hD := by
    intro r h
    have i := fldP.inv_mul _ c1_ne
    apply nsq (r * (c0 + 1))
    generalize fi (c0 + 1) = v at *
    generalize c0 = z at *
    have : r * (z + 1) * (r * (z + 1)) = r * r * (z + 1) * (z + 1) := by grind
    rw [this, h]
    have : z * v * (z + 1) * (z + 1) = z * ((z + 1) * v) * (z + 1) := by grind
    rw [this, i]; grind
  he := by grind
  hc := by
    left
    have i := fldP.inv_mul _ c1_ne
    refine ⟨rfl, ?_⟩
    generalize fi (c0 + 1) = v at *
    generalize c0 = z at *
    have : z * v * (z + 1) = z * ((z + 1) * v) := by grind
    rw [this, i]; grind
theorem par2 (fldP : Fld fi) (c0_ne : c0 ≠ 0) (nsq : ∀ t : Fin mo, t * t ≠ c0 * (c0 + 1)) : Par fi ((c0 + 1) * fi c0) (-1) c0 where
  K := fldP
  hD := by
    intro r h
    have i := fldP.inv_mul _ c0_ne
    apply nsq (r * c0)
    generalize fi c0 = v at *
    generalize c0 = z at *
    have : r * z * (r * z) = r * r * z * z := by grind
    rw [this, h]
    have : (z + 1) * v * z * z = (z + 1) * (z * v) * z := by grind
    rw [this, i]; grind
  he := by grind
  hc := by
    right
    have i := fldP.inv_mul _ c0_ne
    refine ⟨rfl, ?_⟩
    generalize fi c0 = v at *
    generalize c0 = z at *
    have : (z + 1) * v * z = (z + 1) * (z * v) := by grind
    rw [this, i]; grind
/-- a coordinate u that is e (1 + y) / (1 - y), with the point's x a root -/
theorem point_of {D e c X r N : Fin mo} (Q : Par fi D e c) (hX : X + e ≠ 0) (k : Fin mo) (hk : k ≠ 0) (hN : k * ((X + e) * (X + e) - D * ((X - e) * (X - e))) = e * N) (hr : r * r = X * N * k) :
    ∃ p : Pt mo, POn D p ∧ uof fi e p.y = X := by
  have K := Q.K
  have he := Q.he
  have iX := K.inv_mul _ hX
  have e0 : e ≠ 0 := fun h => K.one_ne (by rw [← he, h]; grind)
  obtain ⟨y, hy⟩ : ∃ y, y = (X - e) * fi (X + e) := ⟨_, rfl⟩
  have y1 : y * (X + e) = X - e := by
    rw [hy]
    have : (X - e) * fi (X + e) * (X + e) = (X - e) * ((X + e) * fi (X + e)) := by grind
    rw [this, iX]; grind
  clear hy iX
  have n1 := nsq1 K (y := y) Q.hD
  have hm : (1 - y) * (X + e) = (1 + 1) * e := by grind
  have hp : (1 + y) * (X + e) = (1 + 1) * X := by grind
  have n2 : 1 - y ≠ 0 := by
    intro h
    rw [h] at hm
    apply mul_ne K K.two_ne e0
    rw [← hm]; grind
  have hD1 : (1 - D * y * y) * ((X + e) * (X + e)) = (X + e) * (X + e) - D * ((X - e) * (X - e)) := by
    rw [← y1]; grind
  have hN2 : k * ((1 - D * y * y) * ((X + e) * (X + e))) = e * N := by rw [hD1]; exact hN
  have nN : N ≠ 0 := by
    intro h
    rw [h] at hN2
    apply mul_ne K hk (mul_ne K n1 (mul_ne K hX hX))
    rw [hN2]; grind
  have iN := K.inv_mul _ nN
  refine ⟨⟨(1 + 1) * r * fi N, y⟩, ?_, ?_⟩
  · unfold POn On
    show (1 + 1) * r * fi N * ((1 + 1) * r * fi N) + y * y = 1 + D * ((1 + 1) * r * fi N * ((1 + 1) * r * fi N)) * (y * y)
    obtain ⟨x, hx⟩ : ∃ x, (1 + 1) * r * fi N = x := ⟨_, rfl⟩
    rw [hx]
    have x2 : x * x * N = (1 + 1) * (1 + 1) * (X * k) := by
      have g1 : x * N = (1 + 1) * r := by
        rw [← hx]
        have : (1 + 1) * r * fi N * N = (1 + 1) * r * (N * fi N) := by grind
        rw [this, iN]; grind
      have g2 : x * x * N * N = (1 + 1) * (1 + 1) * (r * r) := by
        have : x * x * N * N = (x * N) * (x * N) := by grind
        rw [this, g1]; grind
      apply cancel K nN
      rw [g2, hr]; grind
    apply cancel K (mul_ne K (mul_ne K hk hX) hX)
    have s1 : x * x * (k * ((1 - D * y * y) * ((X + e) * (X + e)))) = e * ((1 + 1) * (1 + 1) * (X * k)) := by
      rw [hN2, ← x2]; grind
    have s2 : (1 - y) * (X + e) * ((1 + y) * (X + e)) = (1 + 1) * e * ((1 + 1) * X) := by rw [hm, hp]
    clear hN2 hD1 hN hr iN x2 n1 n2 nN y1 hm hp hX hk hx
    grind
  · unfold uof
    show e * (1 + y) * fi (1 - y) = X
    have iy := K.inv_mul _ n2
    apply cancel K n2
    have : e * (1 + y) * fi (1 - y) * (1 - y) = e * (1 + y) * ((1 - y) * fi (1 - y)) := by grind
    rw [this, iy]
    apply cancel K hX
    have : e * (1 + y) * 1 * (X + e) = e * ((1 + y) * (X + e)) := by grind
    rw [this, hp]
    have : X * (1 - y) * (X + e) = X * ((1 - y) * (X + e)) := by grind
    rw [this, hm]; grind
theorem anywhere (fldP : Fld fi) (c0_ne : c0 ≠ 0) (c1_ne : c0 + 1 ≠ 0) (nsq : ∀ t : Fin mo, t * t ≠ c0 * (c0 + 1)) (sq_or : ∀ s : Fin mo, (∃ r, r * r = s * (c0 + 1)) ∨ (∃ r, r * r = s * c0)) (X : Fin mo) : ∃ D e, Par fi D e c0 ∧ ∃ p : Pt mo, POn D p ∧ uof fi e p.y = X := by
  have p1 := par1 fldP c1_ne nsq
  have p2 := par2 fldP c0_ne nsq
  by_cases h1 : X = 1
  · refine ⟨_, _, p1, ⟨1, 0⟩, ?_, ?_⟩
    · unfold POn On; generalize c0 * fi (c0 + 1) = z; show (1 : Fin mo) * 1 + 0 * 0 = 1 + z * (1 * 1) * (0 * 0); grind
    · unfold uof
      show 1 * (1 + 0) * fi (1 - 0) = X
      rw [show (1 : Fin mo) - 0 = 1 by grind, inv_one fldP, h1]; grind
  by_cases h2 : X = -1
  · refine ⟨_, _, p2, ⟨1, 0⟩, ?_, ?_⟩
    · unfold POn On; generalize (c0 + 1) * fi c0 = z; show (1 : Fin mo) * 1 + 0 * 0 = 1 + z * (1 * 1) * (0 * 0); grind
    · unfold uof
      show -1 * (1 + 0) * fi (1 - 0) = X
      rw [show (1 : Fin mo) - 0 = 1 by grind, inv_one fldP, h2]; grind
  have a1 : X + 1 ≠ 0 := fun h => h2 (by grind)
  have a2 : X + -1 ≠ 0 := fun h => h1 (by grind)
  rcases sq_or (X * (X * X + (1 + 1 + 1 + 1) * c0 * X + (1 + 1) * X + 1)) with ⟨r, hr⟩ | ⟨r, hr⟩
  · refine ⟨_, _, p1, point_of p1 a1 (c0 + 1) c1_ne ?_ hr⟩
    have hd : c0 * fi (c0 + 1) * (c0 + 1) = c0 := by
      rcases p1.hc with ⟨_, h⟩ | ⟨h, _⟩
      · exact h
      · exact absurd h (fun e => fldP.two_ne (by grind))
    clear p1 p2 sq_or nsq hr a1 a2 h1 h2
    generalize c0 * fi (c0 + 1) = D at *
    generalize c0 = z at *
    have : (z + 1) * ((X + 1) * (X + 1) - D * ((X - 1) * (X - 1))) = (z + 1) * ((X + 1) * (X + 1)) - D * (z + 1) * ((X - 1) * (X - 1)) := by grind
    rw [this, hd]; grind
  · refine ⟨_, _, p2, point_of p2 a2 c0 c0_ne ?_ hr⟩
    have hd : (c0 + 1) * fi c0 * c0 = c0 + 1 := by
      rcases p2.hc with ⟨h, _⟩ | ⟨_, h⟩
      · exact absurd h (fun e => fldP.two_ne (by grind))
      · exact h
    clear p1 p2 sq_or nsq hr a1 a2 h1 h2
    generalize (c0 + 1) * fi c0 = D at *
    generalize c0 = z at *
    have : z * ((X + -1) * (X + -1) - D * ((X - -1) * (X - -1))) = z * ((X + -1) * (X + -1)) - D * z * ((X - -1) * (X - -1)) := by grind
    rw [this, hd]; grind
end Go.Edw
