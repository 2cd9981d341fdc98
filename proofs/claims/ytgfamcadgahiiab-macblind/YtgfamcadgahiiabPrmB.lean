import Derived.Test.YtgfamcadgahiiabPrmA
namespace Go.Prm
open Go
/-- what Block makes of bytes -/
def blk (b : List Int) : List Int := ((LL (nb b)).take 5).set 0 ((LL (nb b)).getD 0 0 + 5 * (LL (nb b)).getD 5 0)
theorem LL_at (n j : Nat) (hj : j < 6) : (LL n).getD j 0 = ((limb n j : Nat) : Int) := by
  rw [List.getD_eq_getElem?_getD, List.getElem?_eq_getElem (by rw [LL_len]; exact hj)]; simp [LL]
theorem limb5 {n : Nat} (h : n < 2 ^ 136) : limb n 5 = n / 2 ^ 130 ∧ limb n 5 < 64 := by
  unfold limb
  rw [Nat.shiftRight_eq_div_pow]
  omega
theorem blk_eq (b : List Int) : blk b = [((limb (nb b) 0 : Nat) : Int) + 5 * ((limb (nb b) 5 : Nat) : Int), ((limb (nb b) 1 : Nat) : Int), ((limb (nb b) 2 : Nat) : Int), ((limb (nb b) 3 : Nat) : Int), ((limb (nb b) 4 : Nat) : Int)] := by
  unfold blk
  rw [LL_at _ 0 (by decide), LL_at _ 5 (by decide)]
  rfl
theorem blk_lim {b : List Int} (hb : ∀ x ∈ b, 0 ≤ x ∧ x < 256) : Lim (blk b) := by
  have h5 := (limb5 (nb_lt b hb)).2
  rw [blk_eq]
  refine ⟨rfl, ?_⟩
  have := limb_lt (nb b) 0
  have := limb_lt (nb b) 1
  have := limb_lt (nb b) 2
  have := limb_lt (nb b) 3
  have := limb_lt (nb b) 4
  simp only [List.mem_cons, List.not_mem_nil, or_false, forall_eq_or_imp, forall_eq]
  omega
theorem blk_V {b : List Int} (hb : ∀ x ∈ b, 0 ≤ x ∧ x < 256) : V (blk b) % 1361129467683753853853498429727072845819 = ((nb b : Nat) : Int) % 1361129467683753853853498429727072845819 := by
  obtain ⟨h5, _⟩ := limb5 (nb_lt b hb)
  have hv := (LL_V (nb b)).1
  have e : (LL (nb b)).take 5 = [((limb (nb b) 0 : Nat) : Int), ((limb (nb b) 1 : Nat) : Int), ((limb (nb b) 2 : Nat) : Int), ((limb (nb b) 3 : Nat) : Int), ((limb (nb b) 4 : Nat) : Int)] := rfl
  rw [e] at hv
  rw [blk_eq]
  have hs : V [((limb (nb b) 0 : Nat) : Int) + 5 * ((limb (nb b) 5 : Nat) : Int), ((limb (nb b) 1 : Nat) : Int), ((limb (nb b) 2 : Nat) : Int), ((limb (nb b) 3 : Nat) : Int), ((limb (nb b) 4 : Nat) : Int)] = V [((limb (nb b) 0 : Nat) : Int), ((limb (nb b) 1 : Nat) : Int), ((limb (nb b) 2 : Nat) : Int), ((limb (nb b) 3 : Nat) : Int), ((limb (nb b) 4 : Nat) : Int)] + 5 * ((limb (nb b) 5 : Nat) : Int) := by simp only [V_cons]; omega
  rw [hs, hv, h5]
  clear hs hv h5 e
  rw [show (2 : Nat) ^ 130 = 1361129467683753853853498429727072845824 by decide]
  omega
/-- the number of limbs -/
def num (a : List Int) : Nat := (V a % 1361129467683753853853498429727072845819).toNat
theorem num_lt (a : List Int) : num a < P := by
  have := Int.emod_lt_of_pos (V a) (show (0 : Int) < 1361129467683753853853498429727072845819 by decide)
  have h2 := Int.emod_nonneg (V a) (show (1361129467683753853853498429727072845819 : Int) ≠ 0 by decide)
  unfold num P
  omega
theorem num_cast (a : List Int) : (num a : Int) = V a % 1361129467683753853853498429727072845819 := by
  have h2 := Int.emod_nonneg (V a) (show (1361129467683753853853498429727072845819 : Int) ≠ 0 by decide)
  unfold num
  omega
theorem num_of {a : List Int} {n : Nat} (h : V a % 1361129467683753853853498429727072845819 = (n : Int) % 1361129467683753853853498429727072845819) : num a = n % P := by
  have := num_cast a
  rw [h] at this
  have h3 : ((n % P : Nat) : Int) = (n : Int) % 1361129467683753853853498429727072845819 := rfl
  omega
theorem bts_inj {n m : Nat} (hn : n < P) (hm : m < P) (h : bts n = bts m) : n = m := by
  have h1 := nb_bts n (Nat.lt_trans hn (by decide))
  have h2 := nb_bts m (Nat.lt_trans hm (by decide))
  rw [← h1, ← h2, h]
theorem bts_beq (n m : Nat) (hn : n < P) (hm : m < P) : (bts n == bts m) = decide (n = m) := by
  by_cases h : n = m
  · subst h; simp
  · have : ¬ bts n = bts m := fun e => h (bts_inj hn hm e)
    simp [h, this]
theorem num_blk {b : List Int} (hb : ∀ x ∈ b, 0 ≤ x ∧ x < 256) : num (blk b) = nb b % P := num_of (blk_V hb)
theorem prod_lim {a b : List Int} (ha : Lim a) (hb : Lim b) : Lim (prod a b) := (prod_el ha hb).1
theorem num_prod {a b : List Int} (ha : Lim a) (hb : Lim b) : num (prod a b) = num a * num b % P := by
  apply num_of
  rw [(prod_el ha hb).2, Int.natCast_mul, num_cast, num_cast, ← Int.mul_emod]
theorem V_zip (a b : List Int) (h : a.length = b.length) : V (List.zipWith (· + ·) a b) = V a + V b := by
  induction a generalizing b with
  | nil => cases b with | nil => rfl | cons _ _ => simp at h
  | cons x a ih =>
    cases b with
    | nil => simp at h
    | cons y b =>
      have := ih b (by simpa using h)
      simp only [List.zipWith_cons_cons, V_cons, this]
      omega
theorem zip_lim {a b : List Int} (ha : Lim a) (hb : Lim b) : (List.zipWith (· + ·) a b).length = 5 ∧ ∀ x ∈ List.zipWith (· + ·) a b, 0 ≤ x ∧ x < 1152921504606846976 := by
  refine ⟨by simp [ha.len, hb.len], fun x hx => ?_⟩
  obtain ⟨i, hi, rfl⟩ := List.getElem_of_mem hx
  have ga := ha.bd _ (List.getElem_mem (l := a) (n := i) (by simp at hi; omega))
  have gb := hb.bd _ (List.getElem_mem (l := b) (n := i) (by simp at hi; omega))
  rw [List.getElem_zipWith]
  omega
theorem add_lim {a b : List Int} (ha : Lim a) (hb : Lim b) : Lim (stl (List.zipWith (· + ·) a b)) := (stl_lim _ (zip_lim ha hb).1 (zip_lim ha hb).2).1
theorem num_add {a b : List Int} (ha : Lim a) (hb : Lim b) : num (stl (List.zipWith (· + ·) a b)) = (num a + num b) % P := by
  apply num_of
  rw [(stl_lim _ (zip_lim ha hb).1 (zip_lim ha hb).2).2.1, V_zip _ _ (ha.len.trans hb.len.symm), Int.natCast_add, num_cast, num_cast, ← Int.add_emod]
/-! Sum: bytes and a carry -/
def cr (b s : List Int) : Nat → Int
  | 0 => 0
  | k + 1 => (cr b s k + (b.getD k 0 + s.getD k 0)) / 256
def smt (b s : List Int) : List Int := (List.range 16).map fun i => (cr b s i + (b.getD i 0 + s.getD i 0)) % 256
@[simp] theorem smt_len (b s : List Int) : (smt b s).length = 16 := by simp [smt]
theorem smt_at (b s : List Int) (i : Nat) (h : i < 16) : (smt b s)[i]'(by simpa using h) = (cr b s i + (b.getD i 0 + s.getD i 0)) % 256 := by simp [smt]
theorem byte_at {b : List Int} (hb : ∀ x ∈ b, 0 ≤ x ∧ x < 256) (k : Nat) : 0 ≤ b.getD k 0 ∧ b.getD k 0 < 256 := by
  by_cases h : k < b.length
  · rw [List.getD_eq_getElem?_getD, List.getElem?_eq_getElem h]; exact hb _ (List.getElem_mem h)
  · rw [List.getD_eq_getElem?_getD, List.getElem?_eq_none (by omega)]; simp
theorem cr_bd {b s : List Int} (hb : ∀ x ∈ b, 0 ≤ x ∧ x < 256) (hs : ∀ x ∈ s, 0 ≤ x ∧ x < 256) : ∀ k, 0 ≤ cr b s k ∧ cr b s k ≤ 1
  | 0 => by simp [cr]
  | k + 1 => by
    have ih := cr_bd hb hs k
    have h1 := byte_at hb k
    have h2 := byte_at hs k
    rw [cr]
    omega
theorem smt_bd (b s : List Int) : ∀ x ∈ smt b s, 0 ≤ x ∧ x < 256 := by
  intro x hx
  simp only [smt, List.mem_map] at hx
  obtain ⟨i, _, rfl⟩ := hx
  omega
/-- 17 bytes: the first one, fifteen alike, the last one -/
def rw17 (f a l : Int) : List Int := [f, a, a, a, a, a, a, a, a, a, a, a, a, a, a, a, l]
theorem rw17_eq (f a l : Int) : ((List.replicate 17 a).set 0 f).set 16 l = rw17 f a l := rfl
/-! Clamp -/
def cl1 (l : List Int) : Nat → List Int
  | 0 => l
  | k + 1 => (cl1 l k).set (4 * k + 3) ((cl1 l k).getD (4 * k + 3) 0 % 16)
def cl2 (l : List Int) : Nat → List Int
  | 0 => l
  | k + 1 => (cl2 l k).set (4 * k + 4) ((cl2 l k).getD (4 * k + 4) 0 - (cl2 l k).getD (4 * k + 4) 0 % 4)
def clp (l : List Int) : List Int := cl2 (cl1 l 4) 3
theorem set_bd {l : List Int} (h : ∀ x ∈ l, 0 ≤ x ∧ x < 256) (i : Nat) {v : Int} (hv : 0 ≤ v ∧ v < 256) : ∀ x ∈ l.set i v, 0 ≤ x ∧ x < 256 := by
  intro x hx
  rcases List.mem_or_eq_of_mem_set hx with hx | rfl
  · exact h x hx
  · exact hv
theorem cl1_key {l : List Int} (hl : l.length = 16) (h : ∀ x ∈ l, 0 ≤ x ∧ x < 256) : ∀ k, (cl1 l k).length = 16 ∧ ∀ x ∈ cl1 l k, 0 ≤ x ∧ x < 256
  | 0 => ⟨hl, h⟩
  | k + 1 => by
    obtain ⟨h1, h2⟩ := cl1_key hl h k
    have := byte_at h2 (4 * k + 3)
    exact ⟨by simpa [cl1] using h1, set_bd h2 _ (by omega)⟩
theorem cl2_key {l : List Int} (hl : l.length = 16) (h : ∀ x ∈ l, 0 ≤ x ∧ x < 256) : ∀ k, (cl2 l k).length = 16 ∧ ∀ x ∈ cl2 l k, 0 ≤ x ∧ x < 256
  | 0 => ⟨hl, h⟩
  | k + 1 => by
    obtain ⟨h1, h2⟩ := cl2_key hl h k
    have := byte_at h2 (4 * k + 4)
    exact ⟨by simpa [cl2] using h1, set_bd h2 _ (by omega)⟩
theorem clp_key {l : List Int} (hl : l.length = 16) (h : ∀ x ∈ l, 0 ≤ x ∧ x < 256) : (clp l).length = 16 ∧ ∀ x ∈ clp l, 0 ≤ x ∧ x < 256 :=
  cl2_key (cl1_key hl h 4).1 (cl1_key hl h 4).2 3
theorem not240 (x : Int) (h0 : 0 ≤ x) (h1 : x < 256) : bits .andNot .u8 x 240 = x % 16 := by
  have h : ∀ n : Fin 256, bits .andNot .u8 (n.val : Int) 240 = (n.val : Int) % 16 := by decide +kernel
  have := h ⟨x.toNat, by omega⟩
  rw [show ((x.toNat : Nat) : Int) = x by omega] at this
  exact this
theorem not3 (x : Int) (h0 : 0 ≤ x) (h1 : x < 256) : bits .andNot .u8 x 3 = x - x % 4 := by
  have h : ∀ n : Fin 256, bits .andNot .u8 (n.val : Int) 3 = (n.val : Int) - (n.val : Int) % 4 := by decide +kernel
  have := h ⟨x.toNat, by omega⟩
  rw [show ((x.toNat : Nat) : Int) = x by omega] at this
  exact this
theorem nb_small {l : List Int} (h : ∀ x ∈ l, 0 ≤ x ∧ x < 256) (hl : l.length = 16) : nb (l ++ [0]) < 2 ^ 128 := by
  apply Nat.lt_pow_two_of_testBit
  intro i hi
  rw [nb, nbk_bit (l ++ [0]) (by intro x hx; simp only [List.mem_append, List.mem_singleton] at hx; rcases hx with hx | rfl; exact h x hx; decide)]
  by_cases h8 : i < 8 * 17
  · have : i / 8 = 16 := by omega
    rw [this, List.getD_eq_getElem?_getD, List.getElem?_append_right (by omega), hl]
    simp
  · simp [h8]
theorem r_comm (a b : Nat) : (a + b) % P = (b + a) % P := by rw [Nat.add_comm]
theorem r_assoc (a b c : Nat) : ((a + b) % P + c) % P = (a + (b + c) % P) % P := by simp [Nat.add_assoc]
theorem m_comm (a b : Nat) : a * b % P = b * a % P := by rw [Nat.mul_comm]
theorem m_assoc (a b c : Nat) : a * b % P * c % P = a * (b * c % P) % P := by simp [Nat.mul_assoc]
theorem m_dist (a b c : Nat) : a * ((b + c) % P) % P = (a * b % P + a * c % P) % P := by simp [Nat.mul_add]
end Go.Prm
