import Derived.Test.YtlffamcifahbjabFldPr
import Derived.Test.YtlffamcifahbjabFldY
namespace Go.Proofs.Ytlffamcifahbjab
open Go.Fld Go.Prm
theorem pr_127 : Pr 127 := pr_trial (f := 11) (by decide) (by decide +kernel) (by decide)
theorem pr_57467 : Pr 57467 := pr_trial (f := 239) (by decide) (by decide +kernel) (by decide)
theorem pr_65147 : Pr 65147 := pr_trial (f := 255) (by decide) (by decide +kernel) (by decide)
theorem pr_75707 : Pr 75707 := pr_trial (f := 275) (by decide) (by decide +kernel) (by decide)
theorem pr_8574133 : Pr 8574133 := pr_trial (f := 2928) (by decide) (by decide +kernel) (by decide)
theorem pr_1919519569386763 : Pr 1919519569386763 := by
  exact pock3 (a := 2) (m := 223873314) (n := 15114327318006) 51 (by decide) pr_8574133 pr_127 (by decide) (by decide) (by decide) (by decide) (by decide +kernel) (by decide +kernel) (by decide +kernel) (by decide)
theorem pr_75445702479781427272750846543864801 : Pr 75445702479781427272750846543864801 := by
  exact pock3 (a := 2) (m := 39304471641247389600) (n := 996548568557483816196003626400) 116 (by decide) pr_1919519569386763 pr_75707 (by decide) (by decide) (by decide) (by decide) (by decide +kernel) (by decide +kernel) (by decide +kernel) (by decide)
theorem pr_74058212732561358302231226437062788676166966415465897661863160754340907 : Pr 74058212732561358302231226437062788676166966415465897661863160754340907 := by
  exact pock3 (a := 2) (m := 981609426360740691344999861639072106) (n := 1288708523719027586305727224964984924846728842909250485702458119518) 236 (by decide) pr_75445702479781427272750846543864801 pr_57467 (by decide) (by decide) (by decide) (by decide) (by decide +kernel) (by decide +kernel) (by decide +kernel) (by decide)
theorem pr_57896044618658097711785492504343953926634992332820282019728792003956564819949 : Pr 57896044618658097711785492504343953926634992332820282019728792003956564819949 := by
  exact pock3 (a := 2) (m := 781764) (n := 888698552790736299626774717244753464114003596985590771942357929052090884) 255 (by decide) pr_74058212732561358302231226437062788676166966415465897661863160754340907 pr_65147 (by decide) (by decide) (by decide) (by decide) (by decide +kernel) (by decide +kernel) (by decide +kernel) (by decide)
theorem prP : Pr P := pr_57896044618658097711785492504343953926634992332820282019728792003956564819949
/-! powers modulo P -/
theorem sqn_pow {a e f g : Nat} (x : Nat) (hx : x = a ^ e % P) (hf : f = a ^ g % P) : sqn x f = a ^ (2 * e + g) % P := by
  rw [sqn, hx, hf, ← Nat.mul_mod (a ^ e) (a ^ e), ← Nat.mul_mod, ← Nat.pow_add, ← Nat.pow_add]
  congr 2
  omega
theorem pwn_pow (a : Nat) (ha : a < P) : ∀ k, pwn a k = a ^ (2 ^ (k + 1) - 1) % P
  | 0 => by rw [pwn, show 2 ^ (0 + 1) - 1 = 1 from rfl, Nat.pow_one, Nat.mod_eq_of_lt ha]
  | k + 1 => by
    rw [pwn, sqn_pow (g := 1) _ (pwn_pow a ha k) (by rw [Nat.pow_one, Nat.mod_eq_of_lt ha])]
    congr 2
    have : 1 ≤ 2 ^ (k + 1) := Nat.pow_pos (by decide)
    rw [Nat.pow_succ 2 (k + 1)]
    omega
theorem one_pow0 (a : Nat) : 1 = a ^ 0 % P := by rw [Nat.pow_zero]; decide
theorem qwn_pow (a : Nat) (ha : a < P) : qwn a 5 = a ^ (P - 2) % P := by
  have h1 : a = a ^ 1 % P := by rw [Nat.pow_one, Nat.mod_eq_of_lt ha]
  have h := pwn_pow a ha 249
  have q1 : qwn a 1 = _ := sqn_pow (g := 0) _ h (one_pow0 a)
  have q2 : qwn a 2 = _ := sqn_pow (g := 1) _ q1 h1
  have q3 : qwn a 3 = _ := sqn_pow (g := 0) _ q2 (one_pow0 a)
  have q4 : qwn a 4 = _ := sqn_pow (g := 1) _ q3 h1
  have q5 : qwn a 5 = _ := sqn_pow (g := 1) _ q4 h1
  rw [q5]
  congr 2
theorem inv_mul (a : Nat) (ha : a < P) (h0 : a ≠ 0) : a * qwn a 5 % P = 1 := by
  have hl := prP.little (a := a) (by rw [Nat.mod_eq_of_lt ha]; exact h0)
  rw [qwn_pow a ha, Nat.mul_mod, Nat.mod_mod, ← Nat.mul_mod, ← Nat.pow_succ']
  exact hl
theorem inv_zero : qwn 0 5 = 0 := by decide +kernel
theorem inv_lt (a : Nat) : qwn a 5 < P := Nat.mod_lt _ (by decide)
theorem mul_zero_iff (a b : Nat) (ha : a < P) (hb : b < P) : a * b % P = 0 ↔ a = 0 ∨ b = 0 := by
  constructor
  · intro h
    rcases prP.euclid (Nat.dvd_of_mod_eq_zero h) with g | g
    · left
      rcases Nat.eq_zero_or_pos a with e | e
      · exact e
      · have := Nat.le_of_dvd e g; omega
    · right
      rcases Nat.eq_zero_or_pos b with e | e
      · exact e
      · have := Nat.le_of_dvd e g; omega
  · rintro (rfl | rfl)
    · simp
    · simp
theorem inv_inv (a : Nat) (ha : a < P) : qwn (qwn a 5) 5 = a := by
  by_cases h0 : a = 0
  · rw [h0, inv_zero, inv_zero]
  · have h1 := inv_mul a ha h0
    have hi : qwn a 5 ≠ 0 := fun e => by rw [e] at h1; simp at h1
    have h2 := inv_mul (qwn a 5) (inv_lt a) hi
    have h3 := inv_lt (qwn a 5)
    have e1 : qwn (qwn a 5) 5 = a * qwn a 5 % P * qwn (qwn a 5) 5 % P := by rw [h1, Nat.one_mul, Nat.mod_eq_of_lt h3]
    rw [e1, Nat.mul_mod, Nat.mod_mod, ← Nat.mul_mod, Nat.mul_assoc, Nat.mul_mod, h2, Nat.mul_one, Nat.mod_mod, Nat.mod_eq_of_lt ha]
theorem inv_prod (a b : Nat) (ha : a < P) (hb : b < P) : qwn (a * b % P) 5 = qwn a 5 * qwn b 5 % P := by
  rw [qwn_pow _ (Nat.mod_lt _ (by decide)), qwn_pow a ha, qwn_pow b hb, ← Nat.pow_mod, Nat.mul_pow, Nat.mul_mod]
end Go.Proofs.Ytlffamcifahbjab
