import Init
namespace Go.Prm
/-- prime -/
structure Pr (r : Nat) : Prop where
  two : 2 ≤ r
  div : ∀ d, d ∣ r → d = 1 ∨ d = r
theorem Pr.euclid {r a b : Nat} (h : Pr r) (hd : r ∣ a * b) : r ∣ a ∨ r ∣ b := by
  rcases h.div (Nat.gcd r a) (Nat.gcd_dvd_left r a) with g | g
  · exact .inr (Nat.Coprime.dvd_of_dvd_mul_left g hd)
  · exact .inl (g ▸ Nat.gcd_dvd_right r a)
/-! binomials -/
def ch : Nat → Nat → Nat
  | _, 0 => 1
  | 0, _ + 1 => 0
  | n + 1, k + 1 => ch n k + ch n (k + 1)
theorem ch_zero (n : Nat) : ch n 0 = 1 := by cases n <;> rfl
theorem ch_big : ∀ n k, n < k → ch n k = 0
  | _, 0, h => by omega
  | 0, k + 1, _ => rfl
  | n + 1, k + 1, h => by rw [ch, ch_big n k (by omega), ch_big n (k + 1) (by omega)]
theorem ch_self : ∀ n, ch n n = 1
  | 0 => rfl
  | n + 1 => by rw [ch, ch_self n, ch_big n (n + 1) (by omega)]
theorem ch_mul : ∀ n k, (k + 1) * ch (n + 1) (k + 1) = (n + 1) * ch n k
  | 0, 0 => rfl
  | 0, k + 1 => by rw [ch_big 1 (k + 2) (by omega), ch_big 0 (k + 1) (by omega)]; rfl
  | n + 1, 0 => by
    have h := ch_mul n 0
    have e : ch (n + 1 + 1) (0 + 1) = ch (n + 1) 0 + ch (n + 1) (0 + 1) := rfl
    rw [ch_zero] at h
    rw [e, ch_zero]
    omega
  | n + 1, k + 1 => by
    have h1 := ch_mul n k
    have h2 := ch_mul n (k + 1)
    have e : ch (n + 1) (k + 1) = ch n k + ch n (k + 1) := rfl
    have e2 : ch (n + 2) (k + 2) = ch (n + 1) (k + 1) + ch (n + 1) (k + 2) := rfl
    rw [e2]
    have : (k + 2) * ch (n + 1) (k + 1) = (k + 1) * ch (n + 1) (k + 1) + ch (n + 1) (k + 1) := by rw [Nat.add_mul (k + 1) 1]; omega
    rw [Nat.mul_add, this, h1, h2, e]
    grind
def S (a n : Nat) : Nat → Nat
  | 0 => 0
  | m + 1 => S a n m + ch n m * a ^ m
theorem S_succ (a n : Nat) : ∀ m, S a (n + 1) (m + 1) = S a n (m + 1) + a * S a n m
  | 0 => by simp [S, ch_zero]
  | m + 1 => by
    have ih := S_succ a n m
    rw [S, ih]
    have e : ch (n + 1) (m + 1) = ch n m + ch n (m + 1) := rfl
    rw [e]
    simp only [S]
    grind
theorem S_pow (a : Nat) : ∀ n, (a + 1) ^ n = S a n (n + 1)
  | 0 => by simp [S, ch]
  | n + 1 => by
    rw [Nat.pow_succ, S_pow a n, S_succ]
    have : S a n (n + 2) = S a n (n + 1) := by rw [S, ch_big n (n + 1) (by omega)]; simp
    rw [this]
    grind
theorem Pr.ch_dvd {r : Nat} (h : Pr r) {k : Nat} (h0 : 0 < k) (h1 : k < r) : r ∣ ch r k := by
  obtain ⟨n, rfl⟩ : ∃ n, r = n + 1 := ⟨r - 1, by omega⟩
  obtain ⟨j, rfl⟩ : ∃ j, k = j + 1 := ⟨k - 1, by omega⟩
  have := ch_mul n j
  rcases h.euclid (a := j + 1) (b := ch (n + 1) (j + 1)) ⟨_, this⟩ with g | g
  · exact absurd (Nat.le_of_dvd (by omega) g) (by omega)
  · exact g
theorem Pr.S_mod {r : Nat} (h : Pr r) (a : Nat) : ∀ m, m < r → S a r (m + 1) % r = 1 % r
  | 0, _ => by simp [S, ch_zero]
  | m + 1, hm => by
    have ih := h.S_mod a m (by omega)
    rw [S, Nat.add_mod, ih]
    have hd : ch r (m + 1) * a ^ (m + 1) % r = 0 := Nat.mod_eq_zero_of_dvd (Nat.dvd_trans (h.ch_dvd (by omega) hm) (Nat.dvd_mul_right _ _))
    rw [hd]; simp
theorem Pr.fermat {r : Nat} (h : Pr r) : ∀ a, a ^ r % r = a % r
  | 0 => by
    have := h.two
    rw [Nat.zero_pow (by omega)]
  | a + 1 => by
    have ih := h.fermat a
    have h2 := h.two
    have hs := h.S_mod a (r - 1) (by omega)
    rw [show r - 1 + 1 = r by omega] at hs
    rw [S_pow, S, ch_self, Nat.one_mul, Nat.add_mod, hs, ih, ← Nat.add_mod, Nat.add_comm]
theorem Pr.little {r : Nat} (h : Pr r) {a : Nat} (ha : a % r ≠ 0) : a ^ (r - 1) % r = 1 := by
  have h2 := h.two
  have hf := h.fermat a
  have hpos : 0 < a := by
    rcases Nat.eq_zero_or_pos a with e | e
    · rw [e] at ha; simp at ha
    · exact e
  have h1 : 1 ≤ a ^ (r - 1) := Nat.pow_pos hpos
  have e : a ^ r = a * (a ^ (r - 1) - 1) + a := by
    have : a ^ r = a * a ^ (r - 1) := by rw [← Nat.pow_succ']; congr 1; omega
    rw [this, Nat.mul_sub, Nat.mul_one]
    have : a ≤ a * a ^ (r - 1) := Nat.le_mul_of_pos_right a h1
    omega
  have hd : r ∣ a * (a ^ (r - 1) - 1) := by
    rw [e] at hf
    have h3 : (a * (a ^ (r - 1) - 1) + a) % r = (0 + a) % r := by rw [hf, Nat.zero_add]
    have h4 := Nat.sub_mod_eq_zero_of_mod_eq h3
    rw [Nat.zero_add, Nat.add_sub_cancel] at h4
    exact Nat.dvd_of_mod_eq_zero h4
  rcases h.euclid hd with g | g
  · exact absurd (Nat.mod_eq_zero_of_dvd g) ha
  · obtain ⟨c, hc⟩ := g
    have : a ^ (r - 1) = r * c + 1 := by omega
    rw [this, Nat.mul_add_mod]
    exact Nat.mod_eq_of_lt (by omega)
theorem pow_gcd (a r : Nat) (hr : 1 < r) : ∀ m n, a ^ m % r = 1 → a ^ n % r = 1 → a ^ Nat.gcd m n % r = 1 := by
  intro m n
  induction m, n using Nat.gcd.induction with
  | H0 n => intro _ h; rw [Nat.gcd_zero_left]; exact h
  | H1 m n hm ih =>
    intro h1 h2
    rw [Nat.gcd_rec]
    apply ih _ h1
    have e : a ^ n = (a ^ m) ^ (n / m) * a ^ (n % m) := by rw [← Nat.pow_mul, ← Nat.pow_add, Nat.div_add_mod]
    rw [e, Nat.mul_mod, Nat.pow_mod, h1, Nat.one_pow, Nat.mod_eq_of_lt hr, Nat.one_mul, Nat.mod_mod] at h2
    exact h2
theorem least_div : ∀ n, 2 ≤ n → ∃ r, Pr r ∧ r ∣ n ∧ (r = n ∨ r * r ≤ n) := by
  intro n hn
  have key : ∀ m, m ≤ n → (∀ d, 2 ≤ d → d < m → ¬ d ∣ n) ∨ ∃ r, 2 ≤ r ∧ r ∣ n ∧ ∀ d, 2 ≤ d → d < r → ¬ d ∣ n := by
    intro m
    induction m with
    | zero => intro _; exact .inl (fun d _ h => by omega)
    | succ m ih =>
      intro hm
      rcases ih (by omega) with g | g
      · by_cases h : 2 ≤ m ∧ m ∣ n
        · exact .inr ⟨m, h.1, h.2, g⟩
        · refine .inl (fun d h2 hd hdn => ?_)
          by_cases e : d = m
          · subst e; exact h ⟨h2, hdn⟩
          · exact g d h2 (by omega) hdn
      · exact .inr g
  have : ∃ r, 2 ≤ r ∧ r ∣ n ∧ ∀ d, 2 ≤ d → d < r → ¬ d ∣ n := by
    rcases key n (Nat.le_refl _) with g | g
    · exact ⟨n, hn, Nat.dvd_refl n, g⟩
    · exact g
  obtain ⟨r, h2, hd, hmin⟩ := this
  refine ⟨r, ⟨h2, fun d hdr => ?_⟩, hd, ?_⟩
  · by_cases h1 : 2 ≤ d
    · have := Nat.le_of_dvd (by omega) hdr
      by_cases e : d = r
      · exact .inr e
      · exact absurd (Nat.dvd_trans hdr hd) (hmin d h1 (by omega))
    · have : 0 < d := Nat.pos_of_dvd_of_pos hdr (by omega)
      exact .inl (by omega)
  · obtain ⟨s, hs⟩ := hd
    by_cases e : r = n
    · exact .inl e
    · right
      have hs2 : 2 ≤ s := by
        rcases Nat.lt_or_ge s 2 with g | g
        · have : s = 0 ∨ s = 1 := by omega
          rcases this with rfl | rfl
          · omega
          · omega
        · exact g
      have : r ≤ s := by
        rcases Nat.lt_or_ge s r with g | g
        · exact absurd ⟨r, by rw [hs, Nat.mul_comm]⟩ (hmin s hs2 g)
        · exact g
      rw [hs]
      exact Nat.mul_le_mul_left r this
/-- a prime q that divides N - 1, and a witness: q divides r - 1 for each prime r of N -/
theorem pock {N q a m r : Nat} (hq : Pr q) (hN : N - 1 = q * m) (h1 : a ^ (N - 1) % N = 1) (hg : Nat.gcd (a ^ m % N + (N - 1)) N = 1) (hN2 : 2 ≤ N) (hr : Pr r) (hrN : r ∣ N) : q ∣ r - 1 := by
  have r2 := hr.two
  have one : ∀ x, x % N = 1 → x % r = 1 := fun x hx => by
    have := Nat.mod_mod_of_dvd x hrN
    rw [hx] at this
    rw [← this]
    exact Nat.mod_eq_of_lt (by omega)
  have ha : a ^ (N - 1) % r = 1 := one _ h1
  have ha0 : a % r ≠ 0 := by
    intro e
    have : a ^ (N - 1) % r = 0 := by
      rw [Nat.pow_mod, e, Nat.zero_pow (by omega), Nat.zero_mod]
    omega
  have hl := hr.little ha0
  have hgcd := pow_gcd a r (by omega) (N - 1) (r - 1) ha hl
  rcases hq.div (Nat.gcd q (Nat.gcd (N - 1) (r - 1))) (Nat.gcd_dvd_left _ _) with g | g
  · exfalso
    have hdm : Nat.gcd (N - 1) (r - 1) ∣ m := by
      have h3 : Nat.gcd (N - 1) (r - 1) ∣ m * q := by
        rw [Nat.mul_comm m q, ← hN]
        exact Nat.gcd_dvd_left _ _
      exact Nat.Coprime.dvd_of_dvd_mul_right (k := Nat.gcd (N - 1) (r - 1)) (n := q) (m := m) (Nat.Coprime.symm g) h3
    obtain ⟨c, hc⟩ := hdm
    have hm1 : a ^ m % r = 1 := by
      rw [hc, Nat.pow_mul, Nat.pow_mod, hgcd, Nat.one_pow]
      exact Nat.mod_eq_of_lt (by omega)
    have hx : r ∣ a ^ m % N + (N - 1) := by
      apply Nat.dvd_of_mod_eq_zero
      have e1 : a ^ m % N % r = 1 := by rw [Nat.mod_mod_of_dvd _ hrN]; exact hm1
      obtain ⟨t, ht⟩ := hrN
      have ht0 : 0 < t := by
        rcases Nat.eq_zero_or_pos t with e | e
        · rw [e] at ht; omega
        · exact e
      have e2 : (N - 1) % r = r - 1 := by
        obtain ⟨u, rfl⟩ : ∃ u, t = u + 1 := ⟨t - 1, by omega⟩
        have : N - 1 = r * u + (r - 1) := by rw [ht, Nat.mul_add]; omega
        rw [this, Nat.mul_add_mod]
        exact Nat.mod_eq_of_lt (by omega)
      rw [Nat.add_mod, e1, e2, show 1 + (r - 1) = r by omega, Nat.mod_self]
    have hd1 := Nat.dvd_gcd hx hrN
    rw [hg] at hd1
    have := Nat.le_of_dvd (by omega) hd1
    omega
  · have h3 : q ∣ Nat.gcd (N - 1) (r - 1) := by rw [← g]; exact Nat.gcd_dvd_right _ _
    exact Nat.dvd_trans h3 (Nat.gcd_dvd_right _ _)
theorem pock2 {N p q a m n : Nat} (hp : Pr p) (hq : Pr q) (hpq : p ≠ q) (hN2 : 2 ≤ N) (hm : N - 1 = p * m) (hn : N - 1 = q * n) (h1 : a ^ (N - 1) % N = 1)
    (gm : Nat.gcd (a ^ m % N + (N - 1)) N = 1) (gn : Nat.gcd (a ^ n % N + (N - 1)) N = 1) (hF : N < p * q * (p * q)) : Pr N := by
  obtain ⟨r, hr, hrN, hc⟩ := least_div N hN2
  rcases hc with rfl | hc
  · exact hr
  · exfalso
    have d1 := pock hp hm h1 gm hN2 hr hrN
    have d2 := pock hq hn h1 gn hN2 hr hrN
    have hcop : Nat.Coprime p q := by
      rcases hp.div (Nat.gcd p q) (Nat.gcd_dvd_left _ _) with g | g
      · exact g
      · have h3 : p ∣ q := by rw [← g]; exact Nat.gcd_dvd_right _ _
        rcases hq.div p h3 with e | e
        · have := hp.two; omega
        · exact absurd e hpq
    have d3 := Nat.Coprime.mul_dvd_of_dvd_of_dvd hcop d1 d2
    have r2 := hr.two
    have h4 := Nat.le_of_dvd (by omega) d3
    have h5 : p * q * (p * q) ≤ r * r := Nat.mul_le_mul (by omega) (by omega)
    omega
/-- powers by squaring -/
def pm (N : Nat) : Nat → Nat → Nat → Nat
  | 0, _, _ => 1 % N
  | f + 1, a, e => if e % 2 = 1 then a * pm N f (a * a % N) (e / 2) % N else pm N f (a * a % N) (e / 2)
theorem pm_eq (N : Nat) : ∀ f a e, e < 2 ^ f → pm N f a e = a ^ e % N
  | 0, a, e, h => by
    have : e = 0 := by omega
    subst this; simp [pm]
  | f + 1, a, e, h => by
    have ih := pm_eq N f (a * a % N) (e / 2) (by rw [Nat.pow_succ] at h; omega)
    have hsq : (a * a % N) ^ (e / 2) % N = a ^ (2 * (e / 2)) % N := by
      rw [← Nat.pow_mod, Nat.pow_mul, Nat.pow_two]
    rw [pm, ih, hsq]
    by_cases h2 : e % 2 = 1
    · rw [if_pos h2, Nat.mul_mod, Nat.mod_mod, ← Nat.mul_mod, ← Nat.pow_succ']
      congr 2; omega
    · rw [if_neg h2]
      congr 2; omega
theorem pock3 {N p q a m n : Nat} (f : Nat) (hf : N < 2 ^ f) (hp : Pr p) (hq : Pr q) (hpq : p ≠ q) (hN2 : 2 ≤ N) (hm : N - 1 = p * m) (hn : N - 1 = q * n) (h1 : pm N f a (N - 1) = 1)
    (gm : Nat.gcd (pm N f a m + (N - 1)) N = 1) (gn : Nat.gcd (pm N f a n + (N - 1)) N = 1) (hF : N < p * q * (p * q)) : Pr N := by
  have hp0 : 0 < p := by have := hp.two; omega
  have hq0 : 0 < q := by have := hq.two; omega
  have lm : m ≤ N - 1 := by rw [hm]; exact Nat.le_mul_of_pos_left m hp0
  have ln : n ≤ N - 1 := by rw [hn]; exact Nat.le_mul_of_pos_left n hq0
  rw [pm_eq N f a _ (by omega)] at h1 gm gn
  exact pock2 hp hq hpq hN2 hm hn h1 gm gn hF
/-- trial division -/
def tri (n : Nat) : Nat → Nat → Bool
  | 0, _ => true
  | f + 1, d => n % d != 0 && tri n f (d + 1)
theorem tri_ok (n : Nat) : ∀ f d, tri n f d = true → ∀ x, d ≤ x → x < d + f → ¬ x ∣ n
  | 0, d, _, x, h1, h2 => by omega
  | f + 1, d, h, x, h1, h2 => by
    rw [tri, Bool.and_eq_true] at h
    by_cases e : x = d
    · subst e
      intro hd
      have := Nat.mod_eq_zero_of_dvd hd
      simp [this] at h
    · exact tri_ok n f (d + 1) h.2 x (by omega) (by omega)
theorem pr_trial {n f : Nat} (hn : 2 ≤ n) (h : tri n f 2 = true) (hf : n < (f + 2) * (f + 2)) : Pr n := by
  obtain ⟨r, hr, hrN, hc⟩ := least_div n hn
  rcases hc with rfl | hc
  · exact hr
  · exfalso
    have hlt : r < f + 2 := by
      rcases Nat.lt_or_ge r (f + 2) with g | g
      · exact g
      · have := Nat.mul_le_mul g g; omega
    exact tri_ok n f 2 h r hr.two (by omega) hrN
end Go.Prm
