import Derived.Test.YtlffamcifahbjabFldD
import Derived.Laws.BitsAllLaws
namespace Go.Fld
open Go
def limb (n j : Nat) : Nat := n >>> (51 * j) % 2 ^ 51
def bts (n : Nat) : List Int := (List.range 32).map fun i => ((n >>> (8 * i) % 256 : Nat) : Int)
@[simp] theorem bts_len (n : Nat) : (bts n).length = 32 := by simp [bts]
theorem bts_at (n i : Nat) (h : i < 32) : (bts n)[i]'(by simpa using h) = ((n >>> (8 * i) % 256 : Nat) : Int) := by simp [bts]
theorem enc_bits (n q r k : Nat) (hk : 8 * k = 51 * q + r) (hr : r < 51) :
    (limb n q >>> r ||| (limb n (q + 1) <<< (51 - r)) % 2 ^ 64) % 2 ^ 8 = n >>> (8 * k) % 2 ^ 8 := by
  apply Nat.eq_of_testBit_eq
  intro i
  simp only [limb, Nat.testBit_mod_two_pow, Nat.testBit_or, Nat.testBit_shiftRight, Nat.testBit_shiftLeft]
  by_cases hi : i < 8
  · by_cases h1 : r + i < 51
    · have e1 : ¬ (51 - r ≤ i) := by omega
      have e2 : 51 * q + (r + i) = 8 * k + i := by omega
      simp [hi, h1, e1, e2]
    · have e1 : 51 - r ≤ i := by omega
      have e2 : 51 * (q + 1) + (i - (51 - r)) = 8 * k + i := by omega
      have e3 : i < 64 := by omega
      have e4 : i - (51 - r) < 51 := by omega
      simp [hi, h1, e1, e2, e3, e4]
  · simp [hi]
theorem limb_lt (n j : Nat) : limb n j < 2251799813685248 := by unfold limb; omega
theorem enc_math (n q r k : Nat) (hk : 8 * k = 51 * q + r) (hr : r < 51) :
    bits .or .u64 ((limb n q : Int) / 2 ^ r) (IntKind.u64.wrap ((limb n (q + 1) : Int) * 2 ^ (51 - r))) % 256 = ((n >>> (8 * k) % 256 : Nat) : Int) := by
  have h1 : ((limb n q : Nat) : Int) / 2 ^ r = ((limb n q >>> r : Nat) : Int) := by
    rw [Nat.shiftRight_eq_div_pow]; simp
  have h2 : IntKind.u64.wrap ((limb n (q + 1) : Int) * 2 ^ (51 - r)) = (((limb n (q + 1) <<< (51 - r)) % 2 ^ 64 : Nat) : Int) := by
    rw [IntKind.wrap_u64, Nat.shiftLeft_eq]; simp
  rw [h1, h2, u64_or_nat _ _ (by have := limb_lt n q; have := Nat.shiftRight_le (limb n q) r; omega) (by omega)]
  have := enc_bits n q r k hk hr
  rw [show (2 : Nat) ^ 8 = 256 by decide] at this
  rw [← this]
  simp
theorem V_limbs {l : List Int} (h5 : l.length = 5) (hb : ∀ x ∈ l, 0 ≤ x ∧ x < 2251799813685248) (j : Nat) (hj : j < 6) : (l ++ [0]).getD j 0 = ((limb (V l).toNat j : Nat) : Int) ∧ (V l).toNat < 57896044618658097711785492504343953926634992332820282019728792003956564819968 := by
  obtain ⟨a, b, c, d, e, rfl⟩ := five h5
  simp only [List.mem_cons, List.not_mem_nil, or_false, forall_eq_or_imp, forall_eq] at hb
  obtain ⟨⟨a0, a1⟩, ⟨b0, b1⟩, ⟨c0, c1⟩, ⟨d0, d1⟩, ⟨e0, e1⟩⟩ := hb
  have hV : V [a, b, c, d, e] = a + 2251799813685248 * (b + 2251799813685248 * (c + 2251799813685248 * (d + 2251799813685248 * (e + 2251799813685248 * 0)))) := rfl
  rw [hV]
  obtain ⟨a, rfl⟩ := Int.eq_ofNat_of_zero_le a0
  obtain ⟨b, rfl⟩ := Int.eq_ofNat_of_zero_le b0
  obtain ⟨c, rfl⟩ := Int.eq_ofNat_of_zero_le c0
  obtain ⟨d, rfl⟩ := Int.eq_ofNat_of_zero_le d0
  obtain ⟨e, rfl⟩ := Int.eq_ofNat_of_zero_le e0
  have hn : ((a : Int) + 2251799813685248 * (b + 2251799813685248 * (c + 2251799813685248 * (d + 2251799813685248 * (e + 2251799813685248 * 0))))).toNat = a + 2251799813685248 * (b + 2251799813685248 * (c + 2251799813685248 * (d + 2251799813685248 * e))) := by omega
  rw [hn]
  unfold limb
  rw [Nat.shiftRight_eq_div_pow]
  refine ⟨?_, by omega⟩
  have h6 : j = 0 ∨ j = 1 ∨ j = 2 ∨ j = 3 ∨ j = 4 ∨ j = 5 := by omega
  rcases h6 with rfl | rfl | rfl | rfl | rfl | rfl
  all_goals simp only [List.cons_append, List.nil_append, List.getD_cons_zero, List.getD_cons_succ]
  all_goals simp only [Nat.reduceMul, Nat.reducePow]
  all_goals omega
/-! the number of 32 bytes -/
def nbk (b : List Int) : Nat → Nat
  | 0 => 0
  | k + 1 => nbk b k ||| (b.getD k 0).toNat <<< (8 * k)
def nb (b : List Int) : Nat := nbk b 32
theorem nbk_bit (b : List Int) (hb : ∀ x ∈ b, 0 ≤ x ∧ x < 256) : ∀ k i, (nbk b k).testBit i = (decide (i < 8 * k) && (b.getD (i / 8) 0).toNat.testBit (i % 8))
  | 0, i => by simp [nbk]
  | k + 1, i => by
    have ih := nbk_bit b hb k i
    have hx : (b.getD k 0).toNat < 2 ^ 8 := by
      by_cases h : k < b.length
      · have := hb _ (List.getElem_mem h)
        rw [List.getD_eq_getElem?_getD, List.getElem?_eq_getElem h]
        simp only [Option.getD_some]
        omega
      · rw [List.getD_eq_getElem?_getD, List.getElem?_eq_none (by omega)]; simp
    rw [nbk, Nat.testBit_or, ih, Nat.testBit_shiftLeft]
    by_cases h1 : i < 8 * k
    · have e1 : ¬ (8 * k ≤ i) := by omega
      have e2 : i < 8 * (k + 1) := by omega
      simp [h1, e1, e2]
    · by_cases h2 : i < 8 * (k + 1)
      · have e1 : 8 * k ≤ i := by omega
        have e3 : i / 8 = k := by omega
        have e4 : i - 8 * k = i % 8 := by omega
        simp [h1, h2, e1, e3, e4]
      · have e1 : 8 * k ≤ i := by omega
        have e5 : (b.getD k 0).toNat.testBit (i - 8 * k) = false := by
          apply Nat.testBit_lt_two_pow
          exact Nat.lt_of_lt_of_le hx (Nat.pow_le_pow_right (by decide) (by omega))
        rw [List.getD_eq_getElem?_getD] at e5
        simp [h1, h2, e1, e5]
theorem bts_nb (b : List Int) (h32 : b.length = 32) (hb : ∀ x ∈ b, 0 ≤ x ∧ x < 256) : bts (nb b) = b := by
  apply List.ext_getElem
  · simp [h32]
  · intro i h1 h2
    rw [bts_at _ _ (by omega)]
    have hx := hb _ (List.getElem_mem h2)
    have : nb b >>> (8 * i) % 256 = (b[i]).toNat := by
      apply Nat.eq_of_testBit_eq
      intro t
      rw [show 256 = 2 ^ 8 by decide, Nat.testBit_mod_two_pow, Nat.testBit_shiftRight, nb, nbk_bit b hb]
      by_cases ht : t < 8
      · have e1 : (8 * i + t) / 8 = i := by omega
        have e2 : (8 * i + t) % 8 = t := by omega
        have e3 : 8 * i + t < 8 * 32 := by omega
        rw [e1, e2, List.getD_eq_getElem?_getD, List.getElem?_eq_getElem h2]
        simp [ht, e3]
      · have e5 : (b[i]).toNat.testBit t = false := by
          apply Nat.testBit_lt_two_pow
          exact Nat.lt_of_lt_of_le (show (b[i]).toNat < 2 ^ 8 by omega) (Nat.pow_le_pow_right (by decide) (by omega))
        simp [ht, e5]
    rw [this]
    omega
theorem nb_lt (b : List Int) (hb : ∀ x ∈ b, 0 ≤ x ∧ x < 256) : nb b < 2 ^ 256 := by
  apply Nat.lt_pow_two_of_testBit
  intro i hi
  rw [nb, nbk_bit b hb]
  have : ¬ (i < 8 * 32) := by omega
  simp [this]
theorem bts_bd (n : Nat) : ∀ x ∈ bts n, 0 ≤ x ∧ x < 256 := by
  intro x hx
  simp only [bts, List.mem_map] at hx
  obtain ⟨i, _, rfl⟩ := hx
  omega
theorem nb_bts (n : Nat) (hn : n < 2 ^ 256) : nb (bts n) = n := by
  apply Nat.eq_of_testBit_eq
  intro i
  rw [nb, nbk_bit _ (bts_bd n)]
  by_cases hi : i < 8 * 32
  · have h8 : i / 8 < 32 := by omega
    have e0 : (bts n).getD (i / 8) 0 = ((n >>> (8 * (i / 8)) % 256 : Nat) : Int) := by
      rw [List.getD_eq_getElem?_getD, List.getElem?_eq_getElem (by simpa using h8), Option.getD_some, bts_at _ _ h8]
    have e1 : 8 * (i / 8) + i % 8 = i := by omega
    have e2 : i % 8 < 8 := by omega
    rw [e0, Int.toNat_natCast, show 256 = 2 ^ 8 by decide, Nat.testBit_mod_two_pow, Nat.testBit_shiftRight, e1]
    simp [hi, e2]
  · have : n.testBit i = false := Nat.testBit_lt_two_pow (Nat.lt_of_lt_of_le hn (Nat.pow_le_pow_right (by decide) (by omega)))
    simp [hi, this]
/-- six limbs -/
def LL (n : Nat) : List Int := (List.range 6).map fun j => ((limb n j : Nat) : Int)
theorem limb_or (m n j : Nat) : limb (m ||| n) j = limb m j ||| limb n j := by
  unfold limb
  rw [Nat.shiftRight_or_distrib, Nat.or_mod_two_pow]
theorem limb_shl (x q r k j : Nat) (hx : x < 256) (hk : 8 * k = 51 * q + r) (hr : r < 51) :
    limb (x <<< (8 * k)) j = if j = q then (x <<< r) % 2 ^ 51 else if j = q + 1 then x >>> (51 - r) else 0 := by
  have hx0 : ∀ t, 8 ≤ t → x.testBit t = false := fun t ht => Nat.testBit_lt_two_pow (Nat.lt_of_lt_of_le hx (Nat.pow_le_pow_right (by decide) ht : 2 ^ 8 ≤ 2 ^ t))
  apply Nat.eq_of_testBit_eq
  intro i
  rw [limb, Nat.testBit_mod_two_pow, Nat.testBit_shiftRight, Nat.testBit_shiftLeft]
  by_cases h1 : j = q
  · subst h1
    rw [if_pos rfl, Nat.testBit_mod_two_pow, Nat.testBit_shiftLeft, hk]
    by_cases h : r ≤ i
    · have e1 : 51 * j + r ≤ 51 * j + i := by omega
      have e2 : 51 * j + i - (51 * j + r) = i - r := by omega
      simp [h, e2]
    · have e1 : ¬ (51 * j + r ≤ 51 * j + i) := by omega
      simp [h]
  · rw [if_neg h1]
    by_cases h2 : j = q + 1
    · subst h2
      rw [if_pos rfl, Nat.testBit_shiftRight, hk]
      have e1 : 51 * q + r ≤ 51 * (q + 1) + i := by omega
      have e2 : 51 * (q + 1) + i - (51 * q + r) = 51 - r + i := by omega
      rw [e2]
      by_cases hi : i < 51
      · simp [hi, e1]
      · rw [hx0 (51 - r + i) (by omega)]; simp [hi]
    · rw [if_neg h2, hk]
      by_cases h3 : j < q
      · by_cases hi : i < 51
        · have e1 : ¬ (51 * q + r ≤ 51 * j + i) := by omega
          simp [e1]
        · simp [hi]
      · have e2 : 8 ≤ 51 * j + i - (51 * q + r) := by omega
        rw [hx0 _ e2]; simp
theorem dec_step (m x q r k : Nat) (hx : x < 256) (hk : 8 * k = 51 * q + r) (hr : r < 51) (hq : q < 5) :
    ((LL m).set q (bits .or .u64 ((LL m).getD q 0) (bits .and .u64 (IntKind.u64.wrap ((x : Int) * 2 ^ r)) 2251799813685247))).set (q + 1) (bits .or .u64 ((LL m).getD (q + 1) 0) ((x : Int) / 2 ^ (51 - r))) = LL (m ||| x <<< (8 * k)) := by
  have hg : ∀ j, j < 6 → (LL m).getD j 0 = ((limb m j : Nat) : Int) := fun j hj => by
    rw [List.getD_eq_getElem?_getD, List.getElem?_eq_getElem (by simpa [LL] using hj)]; simp [LL]
  have p1 : x * 2 ^ r < 18446744073709551616 := by
    have h1 : 2 ^ r ≤ 2 ^ 50 := Nat.pow_le_pow_right (by decide) (by omega)
    have h2 : x * 2 ^ r ≤ 255 * 2 ^ 50 := Nat.mul_le_mul (by omega) h1
    omega
  have e1 : bits .and .u64 (IntKind.u64.wrap ((x : Int) * 2 ^ r)) 2251799813685247 = (((x <<< r) % 2 ^ 51 : Nat) : Int) := by
    have h0 : IntKind.u64.wrap ((x : Int) * 2 ^ r) = ((x * 2 ^ r : Nat) : Int) := by
      rw [IntKind.wrap_u64]
      have : ((x : Int) * 2 ^ r) = ((x * 2 ^ r : Nat) : Int) := by simp
      rw [this]
      omega
    rw [h0, show (2251799813685247 : Int) = ((2251799813685247 : Nat) : Int) from rfl, u64_and_nat _ _ p1 (by decide), show (2251799813685247 : Nat) = 2 ^ 51 - 1 by decide, Nat.and_two_pow_sub_one_eq_mod, Nat.shiftLeft_eq]
  have e2 : (x : Int) / 2 ^ (51 - r) = ((x >>> (51 - r) : Nat) : Int) := by rw [Nat.shiftRight_eq_div_pow]; simp
  have l1 := limb_lt m q
  have l2 := limb_lt m (q + 1)
  rw [e1, e2, hg q (by omega), hg (q + 1) (by omega), u64_or_nat _ _ (by omega) (by omega), u64_or_nat _ _ (by omega) (by have := Nat.shiftRight_le x (51 - r); omega)]
  apply List.ext_getElem
  · simp [LL]
  · intro j h1 h2
    have hj : j < 6 := by simpa [LL] using h2
    have hL := limb_or m (x <<< (8 * k)) j
    rw [limb_shl x q r k j hx hk hr] at hL
    simp only [LL, List.getElem_set, List.getElem_map, List.getElem_range]
    rw [hL]
    by_cases a1 : j = q
    · subst a1
      rw [if_neg (by omega), if_pos rfl, if_pos rfl]
    · by_cases a2 : j = q + 1
      · subst a2
        rw [if_pos rfl, if_neg (by omega), if_pos rfl]
      · rw [if_neg (by omega), if_neg (by omega), if_neg a1, if_neg a2]; simp
theorem LL_V (m : Nat) : V ((LL m).take 5) = ((m % 2 ^ 255 : Nat) : Int) ∧ (∀ x ∈ (LL m).take 5, 0 ≤ x ∧ x < 2251799813685248) ∧ ((LL m).take 5).length = 5 := by
  have e : (LL m).take 5 = [((limb m 0 : Nat) : Int), ((limb m 1 : Nat) : Int), ((limb m 2 : Nat) : Int), ((limb m 3 : Nat) : Int), ((limb m 4 : Nat) : Int)] := rfl
  rw [e]
  refine ⟨?_, ?_, rfl⟩
  · simp only [V_cons, V_nil, limb, Nat.shiftRight_eq_div_pow, Nat.reduceMul, Nat.reducePow]
    omega
  · simp only [List.mem_cons, List.not_mem_nil, or_false, forall_eq_or_imp, forall_eq]
    have := limb_lt m 0
    have := limb_lt m 1
    have := limb_lt m 2
    have := limb_lt m 3
    have := limb_lt m 4
    omega
theorem LL_len (m : Nat) : (LL m).length = 6 := by simp [LL]
theorem LL_zero : LL 0 = List.replicate 6 0 := by decide
end Go.Fld
