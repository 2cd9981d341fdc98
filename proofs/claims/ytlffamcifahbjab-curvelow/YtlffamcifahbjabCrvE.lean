import Derived.Test.YtlffamcifahbjabFldPq
import Derived.Test.YtlffamcifahbjabEdwG
namespace Go.Proofs.Ytlffamcifahbjab
set_option linter.unusedVariables false
set_option linter.unusedSimpArgs false
open Go.Fld Go.Prm Go.Edw
/-! roots modulo P -/
def eH : Nat := 28948022309329048855892746252171976963317496166410141009864396001978282409974
def eK : Nat := 7237005577332262213973186563042994240829374041602535252466099000494570602494
theorem eH_two : eH + eH = P - 1 := by decide
theorem eK_four : (eK + eK - 1) + (eK + eK - 1) = eH := by decide
theorem P_is : P = 57896044618658097711785492504343953926634992332820282019728792003956564819949 := rfl
theorem pm_one {b : Nat} (hb : b < P) (h : b * b % P = 1) : b = 1 ∨ b = P - 1 := by
  obtain ⟨q, hq⟩ : ∃ q, P = q + 1 := ⟨P - 1, by decide⟩
  have hq2 : 2 ≤ q := by have := P_is; omega
  have h2 : P ∣ (b + 1) * (b + q) := by
    refine Nat.dvd_of_mod_eq_zero ?_
    rw [show (b + 1) * (b + q) = b * b + q + (q + 1) * b by grind, ← hq, Nat.add_mul_mod_self_left, Nat.add_mod, h, hq, Nat.mod_eq_of_lt (show q < q + 1 by omega), Nat.add_comm 1 q, Nat.mod_self]
  rcases prP.euclid h2 with g | g
  · right
    have := Nat.le_of_dvd (by omega) g
    omega
  · obtain ⟨c, hc⟩ := g
    left
    rw [hq] at hc hb
    have c1 : c = 1 := by
      rcases Nat.lt_or_ge c 2 with h | h
      · rcases Nat.eq_zero_or_pos c with h' | h'
        · subst h'; omega
        · omega
      · have := Nat.mul_le_mul_left (q + 1) h
        omega
    subst c1
    omega
theorem pow_half (a : Nat) : a ^ eH % P * (a ^ eH % P) % P = a ^ (P - 1) % P := by
  rw [← Nat.mul_mod, ← Nat.pow_add, eH_two]
theorem euler {a : Nat} (ha : a < P) (h0 : a ≠ 0) : a ^ eH % P = 1 ∨ a ^ eH % P = P - 1 := by
  refine pm_one (Nat.mod_lt _ (by decide)) ?_
  rw [pow_half]
  exact prP.little (by rw [Nat.mod_eq_of_lt ha]; exact h0)
theorem eK_pos : eK + eK = (eK + eK - 1) + 1 := by decide
theorem root {a : Nat} (ha : a < P) (h : a ^ eH % P = 1) : ∃ r, r * r % P = a := by
  have hb : a ^ (eK + eK - 1) % P = 1 ∨ a ^ (eK + eK - 1) % P = P - 1 := by
    refine pm_one (Nat.mod_lt _ (by decide)) ?_
    rw [← Nat.mul_mod, ← Nat.pow_add, eK_four]
    exact h
  have e2 : a ^ eK * a ^ eK % P = a ^ (eK + eK - 1) % P * a % P := by
    rw [← Nat.pow_add, Nat.mul_mod (_ % P), Nat.mod_mod, ← Nat.mul_mod, ← Nat.pow_succ, Nat.succ_eq_add_one, ← eK_pos]
  rcases hb with hb | hb
  · refine ⟨a ^ eK, ?_⟩
    rw [e2, hb, Nat.one_mul, Nat.mod_eq_of_lt ha]
  · refine ⟨a ^ eK * 19681161376707505956807079304988542015446066515923890162744021073123829784752, ?_⟩
    have e3 : a ^ eK * 19681161376707505956807079304988542015446066515923890162744021073123829784752 * (a ^ eK * 19681161376707505956807079304988542015446066515923890162744021073123829784752) = a ^ eK * a ^ eK * (19681161376707505956807079304988542015446066515923890162744021073123829784752 * 19681161376707505956807079304988542015446066515923890162744021073123829784752) := by
      generalize a ^ eK = z
      grind
    have e4 : (P - 1) * a * (P - 1) = (P - 1) * (P - 1) * a := by
      generalize P - 1 = z
      grind
    rw [e3, Nat.mul_mod, e2, hb, show 19681161376707505956807079304988542015446066515923890162744021073123829784752 * 19681161376707505956807079304988542015446066515923890162744021073123829784752 % P = P - 1 by decide, Nat.mul_mod, Nat.mod_mod, ← Nat.mul_mod, e4, Nat.mul_mod, show (P - 1) * (P - 1) % P = 1 by decide, Nat.one_mul, Nat.mod_mod, Nat.mod_eq_of_lt ha]
theorem cc_half : (14802493890 : Nat) ^ eH % P = P - 1 := by
  rw [← pm_eq P 255 14802493890 eH (by decide)]
  decide +kernel
/-! numbers modulo P -/
def Pq : Nat := P - 1
theorem Pq_succ : Pq + 1 = P := by decide
abbrev FP : Type := Fin (Pq + 1)
def toF (n : Nat) : FP := ⟨n % P, by rw [Pq_succ]; exact Nat.mod_lt _ (by decide)⟩
def fi (a : FP) : FP := ⟨qwn a.val 5, by exact Nat.lt_of_lt_of_eq (inv_lt _) Pq_succ.symm⟩
theorem toF_val (n : Nat) : (toF n).val = n % P := rfl
theorem val_lt (a : FP) : a.val < P := Nat.lt_of_lt_of_eq a.isLt Pq_succ
theorem toF_of (a : FP) : toF a.val = a := Fin.ext (Nat.mod_eq_of_lt (val_lt a))
theorem toF_mod (n : Nat) : toF (n % P) = toF n := Fin.ext (Nat.mod_mod _ _)
theorem add_v (a b : FP) : (a + b).val = (a.val + b.val) % P := (Fin.val_add a b).trans (congrArg (fun z => (a.val + b.val) % z) Pq_succ)
theorem mul_v (a b : FP) : (a * b).val = a.val * b.val % P := (Fin.val_mul a b).trans (congrArg (fun z => a.val * b.val % z) Pq_succ)
theorem sub_v (a b : FP) : (a - b).val = (a.val + (P - b.val)) % P := (congrArg (fun z => ((z - b.val) + a.val) % z) Pq_succ).trans (congrArg (· % P) (Nat.add_comm _ _))
theorem zero_v : (0 : FP).val = 0 := rfl
theorem one_v : (1 : FP).val = 1 := by show 1 % (Pq + 1) = 1; rw [Pq_succ]; decide
theorem toF_one : toF 1 = 1 := Fin.ext (by rw [toF_val, one_v]; decide)
theorem toF_zero : toF 0 = 0 := Fin.ext (by rw [toF_val, zero_v]; decide)
theorem toF_add (a b : Nat) : toF (a + b) = toF a + toF b := Fin.ext (by rw [add_v, toF_val, toF_val, toF_val, ← Nat.add_mod])
theorem toF_mul (a b : Nat) : toF (a * b) = toF a * toF b := Fin.ext (by rw [mul_v, toF_val, toF_val, toF_val, ← Nat.mul_mod])
theorem toF_sub (a b : Nat) (hb : b < P) : toF (a + (P - b)) = toF a - toF b := Fin.ext (by rw [sub_v, toF_val, toF_val, toF_val, Nat.mod_eq_of_lt hb, Nat.add_mod, Nat.add_mod (a % P) (P - b), Nat.mod_mod])
theorem toF_inv (a : Nat) (ha : a < P) : toF (qwn a 5) = fi (toF a) := Fin.ext (by show qwn a 5 % P = qwn (a % P) 5; rw [Nat.mod_eq_of_lt (inv_lt a), Nat.mod_eq_of_lt ha])
theorem eq_of_toF {a b : Nat} (ha : a < P) (hb : b < P) (h : toF a = toF b) : a = b := by
  have := congrArg Fin.val h
  rwa [toF_val, toF_val, Nat.mod_eq_of_lt ha, Nat.mod_eq_of_lt hb] at this
theorem ne_zero {a : FP} (h : a ≠ 0) : a.val ≠ 0 := fun e => h (Fin.ext e)
theorem toF_ne {a : Nat} (ha : a < P) (h : a ≠ 0) : toF a ≠ 0 := fun e => h (eq_of_toF ha (by decide) (e.trans toF_zero.symm))
theorem fldP : Fld fi where
  inv_mul := fun x h => Fin.ext (by rw [mul_v, one_v]; exact inv_mul _ (val_lt x) (ne_zero h))
  one_ne := fun h => toF_ne (a := 1) (by decide) (by decide) (toF_one.trans h)
  two_ne := fun h => toF_ne (a := 2) (by decide) (by decide) ((toF_add 1 1).trans ((congrArg (fun z => z + z) toF_one).trans h))
theorem fi_zero : fi 0 = 0 := Fin.ext (show qwn (0 : FP).val 5 = (0 : FP).val from (congrArg (qwn · 5) zero_v).trans (inv_zero.trans zero_v.symm))
def c0 : FP := toF 121665
theorem c0_succ : c0 + 1 = toF 121666 := (congrArg (c0 + ·) toF_one.symm).trans (toF_add 121665 1).symm
theorem c0_ne : c0 ≠ 0 := toF_ne (by decide) (by decide)
theorem c1_ne : c0 + 1 ≠ 0 := by rw [c0_succ]; exact toF_ne (by decide) (by decide)
theorem nsq (t : FP) : t * t ≠ c0 * (c0 + 1) := by
  intro h
  have h1 : t.val * t.val % P = 14802493890 := by
    have := congrArg Fin.val h
    rw [mul_v, c0_succ, c0, ← toF_mul, toF_val] at this
    rw [this]; decide
  have ht : t.val % P ≠ 0 := by
    intro e
    rw [Nat.mul_mod, e] at h1
    revert h1; decide
  have h2 : (t.val * t.val % P) ^ eH % P = 1 := by
    rw [← Nat.pow_mod, ← Nat.pow_two, ← Nat.pow_mul, show 2 * eH = P - 1 by decide]
    exact prP.little ht
  rw [h1, cc_half] at h2
  revert h2; decide
theorem four_mul (s z : FP) : s * (z + 1) * (s * z) = (s * s) * (z * (z + 1)) := by grind
theorem sq_or (s : FP) : (∃ r, r * r = s * (c0 + 1)) ∨ (∃ r, r * r = s * c0) := by
  by_cases hs : s = 0
  · exact .inl ⟨0, by rw [hs]; grind⟩
  have ha := val_lt (s * (c0 + 1))
  have hb := val_lt (s * c0)
  have na := ne_zero (mul_ne fldP hs c1_ne)
  have nb' := ne_zero (mul_ne fldP hs c0_ne)
  have lift : ∀ z : FP, z.val ^ eH % P = 1 → ∃ r, r * r = z := by
    intro z hz
    obtain ⟨r, hr⟩ := root (val_lt z) hz
    exact ⟨toF r, Fin.ext (by rw [mul_v, toF_val, ← Nat.mul_mod, hr])⟩
  rcases euler ha na with h | h
  · exact .inl (lift _ h)
  · rcases euler hb nb' with g | g
    · exact .inr (lift _ g)
    · exfalso
      have hp : ((s * (c0 + 1)).val * (s * c0).val % P) ^ eH % P = 1 := by
        rw [← Nat.pow_mod, Nat.mul_pow, Nat.mul_mod, h, g]; decide
      have hq : (s * (c0 + 1)).val * (s * c0).val % P = (s.val * s.val) * 14802493890 % P := by
        rw [← mul_v]
        have : s * (c0 + 1) * (s * c0) = (s * s) * toF 14802493890 := by
          have : toF 14802493890 = c0 * (c0 + 1) := by rw [c0_succ, c0, ← toF_mul]
          rw [this]; exact four_mul s c0
        rw [this, mul_v, mul_v, toF_val, ← Nat.mul_mod]
      rw [hq, ← Nat.pow_mod, Nat.mul_pow, Nat.mul_mod, cc_half, ← Nat.pow_two, ← Nat.pow_mul, show 2 * eH = P - 1 by decide, prP.little (a := s.val) (by rw [Nat.mod_eq_of_lt (val_lt s)]; exact ne_zero hs)] at hp
      revert hp; decide
theorem anyw (X : FP) : ∃ D e, Par fi D e c0 ∧ ∃ p : Pt (Pq + 1), POn D p ∧ uof fi e p.y = X := anywhere fldP c0_ne c1_ne nsq sq_or X
end Go.Proofs.Ytlffamcifahbjab
