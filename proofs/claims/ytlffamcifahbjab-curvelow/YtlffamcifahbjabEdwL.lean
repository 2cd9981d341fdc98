import Derived.Test.YtlffamcifahbjabEdwG
set_option linter.unusedVariables false
namespace Go.Edw
variable {mo : Nat} [NeZero mo] {inv : Fin mo → Fin mo}
theorem low_gen {D e c0 : Fin mo} (Q : Par inv D e c0) (h0 : inv 0 = 0) (l : List Bool) (n : Nat) (hn : bval 0 l = 2 * (2 * n)) : fsh inv c0 e l = 0 := by
  have K := Q.K
  have hp : POn D (⟨1, 0⟩ : Pt mo) := by
    unfold POn On
    show (1 : Fin mo) * 1 + 0 * 0 = 1 + D * (1 * 1) * (0 * 0)
    grind
  have n1 : (⟨1, 0⟩ : Pt mo).y ≠ 1 := fun h => K.one_ne (show (1 : Fin mo) = 0 from h.symm)
  have n2 : (⟨1, 0⟩ : Pt mo).y ≠ -1 := fun h => K.one_ne (by have h : (0 : Fin mo) = -1 := h; grind)
  have p2 : (pmul inv D (⟨1, 0⟩ : Pt mo) 2).y = -1 := by
    rw [pmul, pmul, pmul, zero_padd K]
    show ay inv D 1 0 1 0 = -1
    unfold ay
    rw [show (1 : Fin mo) - D * 1 * 1 * 0 * 0 = 1 by grind, inv_one K]; grind
  rw [fsh_ok Q h0 hp n1 n2 (show e * (1 - 0) = e * (1 + 0) by grind), hn, pmul_mul K Q.hD hp, pmul_even Q (pmul_on K Q.hD hp 2) p2]
  exact uof_one h0 e
theorem neg_of {a : Fin mo} (h : a + 1 = 0) : a = -1 := by grind
end Go.Edw
