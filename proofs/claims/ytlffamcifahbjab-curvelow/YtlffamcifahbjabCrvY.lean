import Derived.Test.YtlffamcifahbjabCrvW
namespace Go.Proofs.Ytlffamcifahbjab
set_option linter.unusedSimpArgs false
set_option linter.unusedVariables false
open Go.ChangeShapes Go.WideShapes Go.ChangeAt Go.RowKit Go.Pin Go.Fld
theorem getD_memK {t : List Int} {i : Nat} (h : i < t.length) : t.getD i 0 ∈ t := by
  rw [List.getD_eq_getElem?_getD, List.getElem?_eq_getElem h]; exact List.getElem_mem h
theorem bts_getDK (n i : Nat) (h : i < 32) : (bts n).getD i 0 = ((n >>> (8 * i) % 256 : Nat) : Int) := by
  rw [List.getD_eq_getElem?_getD, List.getElem?_eq_getElem (by simpa using h), Option.getD_some, bts_at n i h]
theorem set_stepK (a b : List Int) (k : Nat) (h1 : k < a.length) (h2 : k < b.length) : (a.take k ++ b.drop k).set k (a.getD k 0) = a.take (k + 1) ++ b.drop (k + 1) := by
  have e : a.getD k 0 = a[k] := by rw [List.getD_eq_getElem?_getD, List.getElem?_eq_getElem h1]; rfl
  rw [e]
  exact set_step a b k h1 h2
/-- the highest binary digit turned -/
def flip (x : List Int) : List Int := x.set 31 (bits .xor .u8 (x.getD 31 0) 128)
theorem flip_byte (v : Int) (h0 : 0 ≤ v) (h1 : v < 256) : 0 ≤ bits .xor .u8 v 128 ∧ bits .xor .u8 v 128 < 256 ∧ ∀ j, j < 7 → (bits .xor .u8 v 128).toNat.testBit j = v.toNat.testBit j := by
  obtain ⟨n, rfl⟩ := Int.eq_ofNat_of_zero_le h0
  rw [show (128 : Int) = ((128 : Nat) : Int) from rfl, u8_xor_nat n 128 (by omega) (by decide)]
  have hlt : n ^^^ 128 < 2 ^ 8 := Nat.xor_lt_two_pow (by omega) (by decide)
  refine ⟨by omega, by omega, fun j hj => ?_⟩
  rw [Int.toNat_natCast, Int.toNat_natCast, Nat.testBit_xor, show (128 : Nat) = 2 ^ 7 by decide, Nat.testBit_two_pow]
  have : ¬ (7 = j) := by omega
  simp [this]
theorem flip_key {x : List Int} (h : Key32 x) : Key32 (flip x) := by
  have hm := h.bd _ (getD_memK (t := x) (i := 31) (by rw [h.len]; decide))
  obtain ⟨f0, f1, _⟩ := flip_byte _ hm.1 hm.2
  refine ⟨by simp [flip, h.len], fun y hy => ?_⟩
  rcases List.mem_or_eq_of_mem_set hy with hy | rfl
  · exact h.bd y hy
  · exact ⟨f0, f1⟩
theorem flip_nb {x : List Int} (h : Key32 x) : nb (flip x) % 2 ^ 255 = nb x % 2 ^ 255 := by
  have hm := h.bd _ (getD_memK (t := x) (i := 31) (by rw [h.len]; decide))
  obtain ⟨_, _, f2⟩ := flip_byte _ hm.1 hm.2
  apply Nat.eq_of_testBit_eq
  intro i
  rw [Nat.testBit_mod_two_pow, Nat.testBit_mod_two_pow, nb, nb, nbk_bit _ (flip_key h).bd, nbk_bit _ h.bd]
  by_cases hi : i < 255
  · by_cases h31 : i / 8 = 31
    · have e : (flip x).getD 31 0 = bits .xor .u8 (x.getD 31 0) 128 := by
        rw [flip, List.getD_eq_getElem?_getD, List.getElem?_set]; simp [h.len]
      rw [h31, e, f2 (i % 8) (by omega)]
    · have e : (flip x).getD (i / 8) 0 = x.getD (i / 8) 0 := by
        rw [flip, List.getD_eq_getElem?_getD, List.getElem?_set, if_neg (fun e => h31 e.symm), ← List.getD_eq_getElem?_getD]
      rw [e]
  · simp [hi]
theorem want31 (m : Nat) (hm : m < P) : (bts m).getD 31 0 < 128 := by
  rw [bts_getDK m 31 (by decide), Nat.shiftRight_eq_div_pow]
  have : m < 57896044618658097711785492504343953926634992332820282019728792003956564819949 := hm
  simp only [Nat.reduceMul, Nat.reducePow]
  omega
theorem ux_flip {u : List Int} (h : Key32 u) : ux (flip u) = ux u := by unfold ux; rw [flip_nb h]
theorem shn_flip (k : List Int) {u : List Int} (h : Key32 u) : shn k (flip u) = shn k u := by unfold shn; rw [ux_flip h]
/-- 2^255 - 19 and above, the highest digit too -/
def ph (l : Int) : List Int := (List.replicate 32 (255 : Int)).set 0 (237 + l)
theorem ph_facts : ∀ l : Nat, l < 19 → ux (ph l) = l ∧ ux (kk l) = l := by decide +kernel
theorem ph_key (l : Nat) (hl : l < 19) : Key32 (ph l) := ⟨by simp [ph], fun y hy => by
  rcases List.mem_or_eq_of_mem_set hy with hy | rfl
  · have := List.eq_of_mem_replicate hy; omega
  · omega⟩
theorem shn_ph (k : List Int) (l : Nat) (hl : l < 19) : shn k (ph l) = shn k (kk l) := by unfold shn; rw [(ph_facts l hl).1, (ph_facts l hl).2]
/-- a number with the highest bytes full -/
theorem full_down (m : Nat) (h : m / 256 ^ 31 = 127) (hb : ∀ i, 1 ≤ i → i < 31 → m / 256 ^ i % 256 = 255) : ∀ j, j ≤ 30 → m / 256 ^ (31 - j) = 128 * 256 ^ j - 1
  | 0, _ => h
  | j + 1, hj => by
    have ih := full_down m h hb j (by omega)
    have hx := hb (31 - (j + 1)) (by omega) (by omega)
    have e : 256 ^ (31 - j) = 256 ^ (31 - (j + 1)) * 256 := by rw [← Nat.pow_succ]; congr 1; omega
    rw [e, ← Nat.div_div_eq_div_mul] at ih
    have p : 256 ^ (j + 1) = 256 ^ j * 256 := Nat.pow_succ ..
    have q : 0 < 256 ^ j := Nat.pow_pos (by decide)
    generalize m / 256 ^ (31 - (j + 1)) = z at *
    generalize 256 ^ j = y at *
    omega
theorem below_full (m : Nat) (hm : m < P) (h : (bts m).getD 31 0 = 127) (hb : ∀ i : Nat, 1 ≤ i → i < 31 → (bts m).getD i 0 = 255) : (bts m).getD 0 0 < 237 := by
  have hq : ∀ i, i < 32 → (bts m).getD i 0 = ((m / 256 ^ i % 256 : Nat) : Int) := fun i hi => by
    rw [bts_getDK m i hi, Nat.shiftRight_eq_div_pow, Nat.pow_mul]
  rw [hq 31 (by decide)] at h
  rw [hq 0 (by decide)]
  have hP : m < 57896044618658097711785492504343953926634992332820282019728792003956564819949 := hm
  have h31 : m / 256 ^ 31 = 127 := by
    have : m / 256 ^ 31 % 256 = 127 := by omega
    simp only [Nat.reducePow] at this ⊢
    omega
  have := full_down m h31 (fun i h1 h2 => by have := hb i h1 h2; rw [hq i (by omega)] at this; omega) 30 (by omega)
  simp only [Nat.reducePow, Nat.reduceSub, Nat.reduceMul, Nat.pow_zero, Nat.div_one] at this ⊢
  omega
end Go.Proofs.Ytlffamcifahbjab
