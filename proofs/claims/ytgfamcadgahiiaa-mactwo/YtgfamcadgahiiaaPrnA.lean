import Derived.Test.YtgfamcadgahiiaaPrmB
namespace Go.Prm
open Go
def VB : List Int → Int
  | [] => 0
  | x :: l => x + 256 * VB l
theorem VB_cons (x : Int) (l : List Int) : VB (x :: l) = x + 256 * VB l := rfl
theorem VB_nil : VB [] = 0 := rfl
def cd : Int → List Int → List Int
  | _, [] => []
  | o, x :: l => (o + x) % 256 :: cd ((o + x) / 256) l
def cc : Int → List Int → Int
  | o, [] => o
  | o, x :: l => cc ((o + x) / 256) l
@[simp] theorem cd_len : ∀ (l : List Int) (o : Int), (cd o l).length = l.length
  | [], _ => rfl
  | _ :: l, _ => by simp [cd, cd_len l]
theorem cd_VB : ∀ (l : List Int) (o : Int), VB (cd o l) + (256 : Int) ^ l.length * cc o l = VB l + o
  | [], o => by simp [VB, cd, cc]
  | x :: l, o => by
    have ih := cd_VB l ((o + x) / 256)
    simp only [cd, cc, VB, List.length_cons]
    have hd := Int.emod_add_mul_ediv (o + x) 256
    rw [Int.pow_succ]
    have e : (o + x) % 256 + 256 * VB (cd ((o + x) / 256) l) + (256 : Int) ^ l.length * 256 * cc ((o + x) / 256) l = (o + x) % 256 + 256 * (VB (cd ((o + x) / 256) l) + (256 : Int) ^ l.length * cc ((o + x) / 256) l) := by grind
    rw [e, ih]
    grind
theorem cd_bd : ∀ (l : List Int) (o : Int), ∀ x ∈ cd o l, 0 ≤ x ∧ x < 256
  | [], _ => by simp [cd]
  | y :: l, o => by
    intro x hx
    rw [cd, List.mem_cons] at hx
    rcases hx with rfl | hx
    · omega
    · exact cd_bd l _ x hx
theorem cc_bd : ∀ (l : List Int) (o B : Int), 0 ≤ o → o ≤ B → (∀ x ∈ l, 0 ≤ x ∧ x + B < 256 * (B + 1)) → 0 ≤ cc o l ∧ cc o l ≤ B
  | [], o, B, h0, h1, _ => ⟨h0, h1⟩
  | x :: l, o, B, h0, h1, h => by
    have hx := h x (by simp)
    rw [cc]
    refine cc_bd l _ B (by omega) ?_ (fun y hy => h y (by simp [hy]))
    omega
def dgs (n : Nat) : List Int := if n = 0 then [] else ((n % 256 : Nat) : Int) :: dgs (n / 256)
  termination_by n
  decreasing_by omega
theorem dgs_zero : dgs 0 = [] := by rw [dgs]; rfl
theorem dgs_pos (n : Nat) (h : 0 < n) : dgs n = ((n % 256 : Nat) : Int) :: dgs (n / 256) := by rw [dgs, if_neg (by omega)]
theorem dgs_VB (n : Nat) : VB (dgs n) = (n : Int) := by
  induction n using Nat.strongRecOn with
  | ind n ih =>
    by_cases h : n = 0
    · subst h; rw [dgs_zero]; rfl
    · rw [dgs_pos n (by omega), VB_cons, ih (n / 256) (by omega)]; omega
theorem dgs_bd (n : Nat) : ∀ x ∈ dgs n, 0 ≤ x ∧ x < 256 := by
  induction n using Nat.strongRecOn with
  | ind n ih =>
    by_cases h : n = 0
    · subst h; rw [dgs_zero]; simp
    · rw [dgs_pos n (by omega)]
      intro x hx
      rcases List.mem_cons.1 hx with rfl | hx
      · omega
      · exact ih (n / 256) (by omega) x hx
theorem dgs_len : ∀ (k n : Nat), n < 256 ^ k → (dgs n).length ≤ k
  | 0, n, h => by
    have : n = 0 := by simpa using h
    subst this; rw [dgs_zero]; simp
  | k + 1, n, h => by
    by_cases h0 : n = 0
    · subst h0; rw [dgs_zero]; simp
    · rw [dgs_pos n (by omega), List.length_cons]
      have := dgs_len k (n / 256) (by rw [Nat.pow_succ] at h; omega)
      omega
theorem VB_append : ∀ (a b : List Int), VB (a ++ b) = VB a + (256 : Int) ^ a.length * VB b
  | [], b => by simp [VB]
  | x :: a, b => by
    have ih := VB_append a b
    simp only [List.cons_append, VB, ih, List.length_cons]
    rw [Int.pow_succ]
    grind
/-- what carried makes -/
def crd (d : List Int) : List Int := cd 0 d ++ dgs (cc 0 d).toNat
theorem crd_facts {d : List Int} (h : ∀ x ∈ d, 0 ≤ x ∧ x < 1099511627776) : VB (crd d) = VB d ∧ (∀ x ∈ crd d, 0 ≤ x ∧ x < 256) ∧ (crd d).length ≤ d.length + 5 ∧ 0 ≤ cc 0 d ∧ cc 0 d < 1099511627776 := by
  have hb := cc_bd d 0 1099511627775 (by decide) (by decide) (fun x hx => by have := h x hx; omega)
  have hv := cd_VB d 0
  have hd := dgs_VB (cc 0 d).toNat
  refine ⟨?_, ?_, ?_, hb.1, by omega⟩
  · unfold crd
    rw [VB_append, cd_len, hd, Int.toNat_of_nonneg hb.1]
    omega
  · intro x hx
    rcases List.mem_append.1 hx with hx | hx
    · exact cd_bd d 0 x hx
    · exact dgs_bd _ x hx
  · unfold crd
    rw [List.length_append, cd_len]
    have := dgs_len 5 (cc 0 d).toNat (by omega)
    omega
theorem VB_bd : ∀ (l : List Int), (∀ x ∈ l, 0 ≤ x ∧ x < 256) → 0 ≤ VB l ∧ VB l < (256 : Int) ^ l.length
  | [], _ => by simp [VB]
  | x :: l, h => by
    have ih := VB_bd l (fun y hy => h y (by simp [hy]))
    have hx := h x (by simp)
    rw [VB, List.length_cons, Int.pow_succ]
    generalize (256 : Int) ^ l.length = R at *
    omega
theorem VB_nonneg : ∀ (l : List Int), (∀ x ∈ l, 0 ≤ x) → 0 ≤ VB l
  | [], _ => by simp [VB]
  | x :: l, h => by
    have ih := VB_nonneg l (fun y hy => h y (by simp [hy]))
    have hx := h x (by simp)
    rw [VB]
    omega
theorem VB_set : ∀ (l : List Int) (k : Nat) (x : Int), k < l.length → VB (l.set k x) = VB l + (256 : Int) ^ k * (x - l.getD k 0)
  | [], _, _, h => by simp at h
  | y :: l, 0, x, _ => by simp [VB]; omega
  | y :: l, k + 1, x, h => by
    have ih := VB_set l k x (by simpa using h)
    simp only [List.set_cons_succ, VB, ih, List.getD_cons_succ]
    rw [Int.pow_succ]
    grind
/-- the digits of a number, one by one -/
theorem VB_digit : ∀ (i : Nat) (l : List Int), (∀ x ∈ l, 0 ≤ x ∧ x < 256) → l.getD i 0 = VB l / (256 : Int) ^ i % 256
  | 0, [], _ => by simp [VB]
  | 0, x :: l, h => by
    have := h x (by simp)
    simp [VB]
    omega
  | i + 1, [], _ => by simp [VB]
  | i + 1, x :: l, h => by
    have ih := VB_digit i l (fun y hy => h y (by simp [hy]))
    have hx := h x (by simp)
    rw [List.getD_cons_succ, ih, VB, Int.pow_succ, Int.mul_comm ((256 : Int) ^ i) 256, ← Int.ediv_ediv_of_nonneg (by decide)]
    have : (x + 256 * VB l) / 256 = VB l := by omega
    rw [this]
theorem bts_getD (n i : Nat) (h : i < 17) : (bts n).getD i 0 = ((n / 256 ^ i % 256 : Nat) : Int) := by
  rw [List.getD_eq_getElem?_getD, List.getElem?_eq_getElem (by simpa using h), Option.getD_some, bts_at _ _ h, Nat.shiftRight_eq_div_pow, show (2 : Nat) ^ (8 * i) = 256 ^ i by rw [Nat.pow_mul]]
theorem VB_bts {l : List Int} (h : ∀ x ∈ l, 0 ≤ x ∧ x < 256) (i : Nat) (hi : i < 17) : l.getD i 0 = (bts (VB l).toNat).getD i 0 := by
  have h0 := (VB_bd l h).1
  obtain ⟨n, hn⟩ := Int.eq_ofNat_of_zero_le h0
  rw [VB_digit i l h, bts_getD _ _ hi, hn, Int.toNat_natCast, Int.natCast_emod, Int.natCast_ediv, Int.natCast_pow]
  rfl
theorem bts_VB {n : Nat} (hn : n < 2 ^ 136) : VB (bts n) = (n : Int) := by
  have hb := bts_bd n
  have hv := VB_bd (bts n) hb
  rw [bts_len] at hv
  have e := bts_nb (bts n) (bts_len n) hb
  have : bts (VB (bts n)).toNat = bts n := by
    apply List.ext_getElem
    · simp
    · intro i h1 h2
      have := VB_bts hb i (by simpa using h2)
      rw [List.getD_eq_getElem?_getD, List.getElem?_eq_getElem h2, List.getD_eq_getElem?_getD, List.getElem?_eq_getElem h1] at this
      exact this.symm
  have h3 := congrArg nb this
  have hlt : (VB (bts n)).toNat < 2 ^ 136 := by
    have : ((256 : Int) ^ 17) = 2 ^ 136 := by decide
    rw [this] at hv
    omega
  rw [nb_bts _ hlt, nb_bts _ hn] at h3
  omega
theorem VB_nb {b : List Int} (hl : b.length = 17) (hb : ∀ x ∈ b, 0 ≤ x ∧ x < 256) : VB b = (nb b : Int) := by
  have := bts_VB (nb_lt b hb)
  rw [bts_nb b hl hb] at this
  exact this
/-- what stands above 2^130 -/
def hs : List Int → List Int
  | [] => []
  | x :: r => (x / 4 + r.getD 0 0 % 4 * 64) :: hs r
@[simp] theorem hs_len : ∀ l : List Int, (hs l).length = l.length
  | [] => rfl
  | _ :: l => by simp [hs, hs_len l]
theorem VB_mod4 : ∀ l : List Int, VB l % 4 = l.getD 0 0 % 4
  | [] => rfl
  | x :: l => by simp [VB]; omega
theorem hs_VB : ∀ (l : List Int), VB (hs l) = VB l / 4
  | [] => rfl
  | x :: l => by
    have ih := hs_VB l
    have h4 := VB_mod4 l
    rw [hs, VB, VB, ih]
    omega
theorem hs_get (l : List Int) (k : Nat) (h : k < l.length) : (hs l).getD k 0 = l.getD k 0 / 4 + l.getD (k + 1) 0 % 4 * 64 := by
  induction l generalizing k with
  | nil => simp at h
  | cons x l ih =>
    cases k with
    | zero => rfl
    | succ k =>
      have := ih k (by simpa using h)
      simpa [hs] using this
theorem VB_take_succ (l : List Int) (k : Nat) (h : k < l.length) : VB (l.take (k + 1)) = VB (l.take k) + (256 : Int) ^ k * l.getD k 0 := by
  rw [List.take_succ_eq_append_getElem h, VB_append, List.length_take, Nat.min_eq_left (by omega), List.getD_eq_getElem?_getD, List.getElem?_eq_getElem h]
  simp [VB]
theorem VB_split (l : List Int) (k : Nat) (h : k ≤ l.length) : VB l = VB (l.take k) + (256 : Int) ^ k * VB (l.drop k) := by
  have := VB_append (l.take k) (l.drop k)
  rw [List.take_append_drop, List.length_take, Nat.min_eq_left h] at this
  exact this
theorem VB_zeros (a : List Int) (n : Nat) : VB (a ++ List.replicate n 0) = VB a := by
  have : ∀ n, VB (List.replicate n 0) = 0 := by
    intro n
    induction n with
    | zero => rfl
    | succ n ih => rw [List.replicate_succ, VB, ih]; rfl
  rw [VB_append, this]
  simp
end Go.Prm
namespace Go.Prm
open Go
theorem mod_mul' (a b c : Nat) : a % (b * c) = a % b + b * (a / b % c) := Nat.mod_mul
/-- the first digits -/
def dg1 (d : List Int) (n : Nat) : List Int := (List.range n).map fun i => d.getD i 0
@[simp] theorem dg1_len (d : List Int) (n : Nat) : (dg1 d n).length = n := by simp [dg1]
theorem dg1_at (d : List Int) (n i : Nat) (h : i < n) : (dg1 d n)[i]'(by simpa using h) = d.getD i 0 := by simp [dg1]
theorem dg1_succ (d : List Int) (n : Nat) : dg1 d (n + 1) = dg1 d n ++ [d.getD n 0] := by simp [dg1, List.range_succ]
theorem dg1_VB {d : List Int} (h : ∀ x ∈ d, 0 ≤ x ∧ x < 256) : ∀ n, VB (dg1 d n) = (((VB d).toNat % 256 ^ n : Nat) : Int)
  | 0 => by simp [dg1, VB, Nat.mod_one]
  | n + 1 => by
    have ih := dg1_VB h n
    have h0 := (VB_bd d h).1
    have hd := VB_digit n d h
    obtain ⟨N, hN⟩ := Int.eq_ofNat_of_zero_le h0
    rw [hN] at hd
    rw [dg1_succ, VB_append, ih, dg1_len, hd, hN, Int.toNat_natCast, Nat.pow_succ, mod_mul']
    simp [VB]
theorem drop_VB {d : List Int} (h : ∀ x ∈ d, 0 ≤ x ∧ x < 256) (n : Nat) : VB (d.drop n) = (((VB d).toNat / 256 ^ n : Nat) : Int) := by
  have h0 := VB_bd d h
  obtain ⟨N, hN⟩ := Int.eq_ofNat_of_zero_le h0.1
  rw [hN] at h0
  rw [hN, Int.toNat_natCast]
  by_cases hl : n ≤ d.length
  · have hs := VB_split d n hl
    have ht := VB_bd (d.take n) (fun x hx => h x (List.mem_of_mem_take hx))
    have hd := VB_bd (d.drop n) (fun x hx => h x (List.mem_of_mem_drop hx))
    rw [List.length_take, Nat.min_eq_left hl] at ht
    obtain ⟨A, hA⟩ := Int.eq_ofNat_of_zero_le ht.1
    obtain ⟨C, hC⟩ := Int.eq_ofNat_of_zero_le hd.1
    rw [hA] at ht
    rw [hN, hA, hC] at hs
    rw [hC]
    have e : N = A + 256 ^ n * C := by
      have : (N : Int) = ((A + 256 ^ n * C : Nat) : Int) := by rw [hs]; simp
      omega
    have hA' : A < 256 ^ n := by
      have : (A : Int) < ((256 ^ n : Nat) : Int) := by rw [Int.natCast_pow]; exact ht.2
      omega
    rw [e, Nat.add_mul_div_left _ _ (Nat.pos_of_ne_zero (by simp)), Nat.div_eq_of_lt hA', Nat.zero_add]
  · have e : d.drop n = [] := List.drop_eq_nil_of_le (by omega)
    have hlt : N < 256 ^ n := by
      have h1 : (N : Int) < ((256 ^ d.length : Nat) : Int) := by rw [Int.natCast_pow]; exact h0.2
      have h2 : 256 ^ d.length ≤ 256 ^ n := Nat.pow_le_pow_right (by decide) (by omega)
      omega
    rw [e, Nat.div_eq_of_lt hlt]
    rfl
/-- what fold begins with, and what it adds -/
theorem fold_VB {d : List Int} (h : ∀ x ∈ d, 0 ≤ x ∧ x < 256) : VB (dg1 d 16 ++ [d.getD 16 0 % 4]) = VB d % 1361129467683753853853498429727072845824 ∧ VB (hs (d.drop 16)) = VB d / 1361129467683753853853498429727072845824 := by
  have h0 := VB_bd d h
  obtain ⟨N, hN⟩ := Int.eq_ofNat_of_zero_le h0.1
  have hd := VB_digit 16 d h
  have h16 := dg1_VB h 16
  have hdr := drop_VB h 16
  rw [hs_VB, hdr, VB_append, h16, dg1_len, hd, hN, Int.toNat_natCast]
  rw [show (256 : Int) ^ 16 = 340282366920938463463374607431768211456 by decide, show (256 : Nat) ^ 16 = 340282366920938463463374607431768211456 by decide]
  simp only [VB]
  constructor
  · omega
  · omega
theorem hs_bd {l : List Int} (h : ∀ x ∈ l, 0 ≤ x ∧ x < 256) : ∀ x ∈ hs l, 0 ≤ x ∧ x < 256 := by
  induction l with
  | nil => simp [hs]
  | cons x l ih =>
    intro y hy
    rw [hs] at hy
    rcases List.mem_cons.1 hy with rfl | hy
    · have := h x (by simp)
      have h1 : 0 ≤ l.getD 0 0 ∧ l.getD 0 0 < 256 := byte_at (fun z hz => h z (by simp [hz])) 0
      omega
    · exact ih (fun z hz => h z (by simp [hz])) y hy
theorem getD_drop (l : List Int) (n k : Nat) : (l.drop n).getD k 0 = l.getD (n + k) 0 := by
  rw [List.getD_eq_getElem?_getD, List.getElem?_drop, List.getD_eq_getElem?_getD]
/-- the list that fold works on, behind k rounds -/
structure Fdk (L0 t L : List Int) (k : Nat) : Prop where
  len : L.length = max 17 k
  bd : ∀ x ∈ L, 0 ≤ x ∧ x < 2000
  hi : ∀ j, k ≤ j → L.getD j 0 < 256
  val : VB L = VB L0 + 5 * VB ((hs t).take k)
theorem Fdk.pad {L0 t L : List Int} {k : Nat} (h : Fdk L0 t L k) (ht : ∀ x ∈ t, 0 ≤ x ∧ x < 256) (hk : k < t.length) (m : Nat) (hl : (L ++ List.replicate m 0).length = max 17 (k + 1)) :
    Fdk L0 t ((L ++ List.replicate m 0).set k ((L ++ List.replicate m 0).getD k 0 + 5 * (hs t).getD k 0)) (k + 1) := by
  have hp : ∀ j, (L ++ List.replicate m (0 : Int)).getD j 0 = L.getD j 0 := fun j => by
    by_cases hj : j < L.length
    · rw [List.getD_eq_getElem?_getD, List.getElem?_append_left hj, List.getD_eq_getElem?_getD]
    · rw [List.getD_eq_getElem?_getD, List.getElem?_append_right (by omega), List.getElem?_replicate, List.getD_eq_getElem?_getD, List.getElem?_eq_none (by omega)]
      split <;> rfl
  have hh := byte_at (hs_bd ht) k
  have hk' : k < (L ++ List.replicate m (0 : Int)).length := by omega
  have hbd : ∀ x ∈ L ++ List.replicate m (0 : Int), 0 ≤ x ∧ x < 2000 := fun x hx => by
    rcases List.mem_append.1 hx with hx | hx
    · exact h.bd x hx
    · rw [(List.mem_replicate.1 hx).2]; omega
  have hlow : 0 ≤ L.getD k 0 := by
    by_cases hj : k < L.length
    · rw [List.getD_eq_getElem?_getD, List.getElem?_eq_getElem hj]; exact (h.bd _ (List.getElem_mem hj)).1
    · rw [List.getD_eq_getElem?_getD, List.getElem?_eq_none (by omega)]; exact Int.le_refl 0
  have hhi := h.hi k (Nat.le_refl _)
  refine ⟨by rw [List.length_set]; exact hl, fun x hx => ?_, fun j hj => ?_, ?_⟩
  · rcases List.mem_or_eq_of_mem_set hx with hx | rfl
    · exact hbd x hx
    · rw [hp]; omega
  · rw [List.getD_eq_getElem?_getD, List.getElem?_set_ne (by omega), ← List.getD_eq_getElem?_getD, hp]
    exact h.hi j (by omega)
  · rw [VB_set _ _ _ hk', VB_zeros, h.val, VB_take_succ _ _ (by rw [hs_len]; exact hk)]
    grind
theorem any_step {t : List Int} (ht : ∀ x ∈ t, 0 ≤ x ∧ x < 256) (k : Nat) (hk : k < t.length) : decide (0 < VB ((hs t).take (k + 1))) = (decide (0 < VB ((hs t).take k)) || decide (0 < (hs t).getD k 0)) := by
  have hh := byte_at (hs_bd ht) k
  have h0 := (VB_bd ((hs t).take k) (fun x hx => hs_bd ht x (List.mem_of_mem_take hx))).1
  rw [VB_take_succ _ _ (by rw [hs_len]; exact hk)]
  have hp : 0 < (256 : Int) ^ k := Int.pow_pos (by decide)
  by_cases h1 : 0 < (hs t).getD k 0
  · have := Int.mul_pos hp h1
    have h2 : 0 < VB ((hs t).take k) + 256 ^ k * (hs t).getD k 0 := by omega
    simp only [h1, h2, decide_true, Bool.or_true]
  · have e : (hs t).getD k 0 = 0 := by omega
    rw [e]
    simp
end Go.Prm
