import Derived.Test.YteimmjdiaophoaaFldN
namespace Go.Fld
/-! the document's numbers: sixteen digits of 16 binary digits -/
def D : List Int → Int
  | [] => 0
  | x :: l => x + 65536 * D l
theorem D_cons (x : Int) (l : List Int) : D (x :: l) = x + 65536 * D l := rfl
def cz : Int → List Int → List Int
  | _, [] => []
  | o, x :: l => (x + o) % 65536 :: cz ((x + o) / 65536) l
def zo : Int → List Int → Int
  | o, [] => o
  | o, x :: l => zo ((x + o) / 65536) l
@[simp] theorem cz_len : ∀ (l : List Int) (o : Int), (cz o l).length = l.length
  | [], _ => rfl
  | _ :: l, _ => by simp [cz, cz_len l]
theorem cz_D : ∀ (l : List Int) (o : Int), D (cz o l) + 65536 ^ l.length * zo o l = D l + o
  | [], o => by simp [D, cz, zo]
  | x :: l, o => by
    have ih := cz_D l ((x + o) / 65536)
    simp only [cz, zo, D, List.length_cons]
    have hd := Int.emod_add_mul_ediv (x + o) 65536
    rw [Int.pow_succ]
    have e : (x + o) % 65536 + 65536 * D (cz ((x + o) / 65536) l) + 65536 ^ l.length * 65536 * zo ((x + o) / 65536) l = (x + o) % 65536 + 65536 * (D (cz ((x + o) / 65536) l) + 65536 ^ l.length * zo ((x + o) / 65536) l) := by grind
    rw [e, ih]
    grind
theorem cz_lt : ∀ (l : List Int) (o : Int), ∀ x ∈ cz o l, 0 ≤ x ∧ x < 65536
  | [], _ => by simp [cz]
  | y :: l, o => by
    intro x hx
    rw [cz, List.mem_cons] at hx
    rcases hx with rfl | hx
    · omega
    · exact cz_lt l _ x hx
theorem zo_bd : ∀ (l : List Int) (o B : Int), 0 ≤ o → o ≤ B → (∀ x ∈ l, 0 ≤ x ∧ x + B < 65536 * (B + 1)) → 0 ≤ zo o l ∧ zo o l ≤ B
  | [], o, B, h0, h1, _ => ⟨h0, h1⟩
  | x :: l, o, B, h0, h1, h => by
    have hx := h x (by simp)
    rw [zo]
    refine zo_bd l _ B (by omega) ?_ (fun y hy => h y (by simp [hy]))
    have : (x + o) / 65536 < B + 1 := Int.ediv_lt_of_lt_mul (by decide) (by rw [Int.mul_comm]; omega)
    omega
theorem D_app : ∀ (a b : List Int), D (a ++ b) = D a + 65536 ^ a.length * D b
  | [], b => by simp [D]
  | x :: a, b => by
    have := D_app a b
    simp only [List.cons_append, D, this, List.length_cons, Int.pow_succ]
    grind
theorem D_lt : ∀ (l : List Int), (∀ x ∈ l, 0 ≤ x ∧ x < 65536) → 0 ≤ D l ∧ D l < 65536 ^ l.length
  | [], _ => by simp [D]
  | x :: l, h => by
    have ih := D_lt l (fun y hy => h y (by simp [hy]))
    have hx := h x (by simp)
    rw [D, List.length_cons, Int.pow_succ]
    generalize (65536 : Int) ^ l.length = R at *
    omega
/-- carried -/
def car (t : List Int) : List Int := cz 0 (t.take 15) ++ [(t.getD 15 0 + zo 0 (t.take 15)) % 32768]
def cout (t : List Int) : Int := (t.getD 15 0 + zo 0 (t.take 15)) / 32768
/-- digits in their bounds -/
structure Dig (t : List Int) : Prop where
  len : t.length = 16
  bd : ∀ x ∈ t, 0 ≤ x ∧ x < 65536
  top : t.getD 15 0 < 32768
/-- digits that have grown -/
structure Big (t : List Int) : Prop where
  len : t.length = 16
  bd : ∀ x ∈ t, 0 ≤ x ∧ x < 1125899906842624
theorem split16 {t : List Int} (h : t.length = 16) : t = t.take 15 ++ [t.getD 15 0] := by
  conv => lhs; rw [← List.take_append_drop 15 t]
  congr 1
  rw [List.drop_eq_getElem_cons (by omega), List.drop_of_length_le (by omega), List.getD_eq_getElem?_getD, List.getElem?_eq_getElem (by omega)]
  rfl
theorem getD_mem {t : List Int} {i : Nat} (h : i < t.length) : t.getD i 0 ∈ t := by
  rw [List.getD_eq_getElem?_getD, List.getElem?_eq_getElem h]; exact List.getElem_mem h
theorem car_facts {t : List Int} (h : Big t) : Dig (car t) ∧ D (car t) + 57896044618658097711785492504343953926634992332820282019728792003956564819968 * cout t = D t ∧ 0 ≤ cout t ∧ cout t ≤ 1099511627776 ∧ 0 ≤ zo 0 (t.take 15) ∧ zo 0 (t.take 15) ≤ 1099511627776 := by
  have hl : (t.take 15).length = 15 := by simp [h.len]
  have hz := zo_bd (t.take 15) 0 1099511627776 (by decide) (by decide) (fun x hx => by have := h.bd x (List.mem_of_mem_take hx); omega)
  have hv := cz_D (t.take 15) 0
  have ht := h.bd _ (getD_mem (t := t) (i := 15) (by rw [h.len]; decide))
  have hs := split16 h.len
  have hD : D t = D (t.take 15) + 65536 ^ 15 * D [t.getD 15 0] := by
    conv => lhs; rw [hs]
    rw [D_app, hl]
  rw [hl] at hv
  have e1 : D [t.getD 15 0] = t.getD 15 0 := by simp [D]
  rw [e1] at hD
  have hc : D (car t) = D (cz 0 (t.take 15)) + 65536 ^ 15 * ((t.getD 15 0 + zo 0 (t.take 15)) % 32768) := by
    rw [car, D_app, cz_len, hl]; simp [D]
  have e15 : (65536 : Int) ^ 15 = 1766847064778384329583297500742918515827483896875618958121606201292619776 := by decide
  rw [e15] at hv hD hc
  refine ⟨⟨by simp [car, h.len], fun x hx => ?_, ?_⟩, ?_, ?_, ?_, hz.1, hz.2⟩
  · rw [car, List.mem_append] at hx
    rcases hx with hx | hx
    · exact cz_lt _ _ x hx
    · rw [List.mem_singleton] at hx; omega
  · have : (car t).getD 15 0 = (t.getD 15 0 + zo 0 (t.take 15)) % 32768 := by
      rw [car, List.getD_eq_getElem?_getD, List.getElem?_append_right (by simp [h.len])]
      simp [h.len]
    rw [this]; omega
  · rw [hc, cout]; omega
  · rw [cout]; omega
  · rw [cout]; omega
theorem Dig.lt {t : List Int} (h : Dig t) : 0 ≤ D t ∧ D t < 57896044618658097711785492504343953926634992332820282019728792003956564819968 := by
  have hs := split16 h.len
  have hl : (t.take 15).length = 15 := by simp [h.len]
  have h1 := D_lt (t.take 15) (fun x hx => h.bd x (List.mem_of_mem_take hx))
  have ht := h.bd _ (getD_mem (t := t) (i := 15) (by rw [h.len]; decide))
  have htop := h.top
  have hD : D t = D (t.take 15) + 65536 ^ 15 * D [t.getD 15 0] := by
    conv => lhs; rw [hs]
    rw [D_app, hl]
  have e1 : D [t.getD 15 0] = t.getD 15 0 := by simp [D]
  have e15 : (65536 : Int) ^ 15 = 1766847064778384329583297500742918515827483896875618958121606201292619776 := by decide
  rw [e1, e15] at hD
  rw [hl, e15] at h1
  omega
theorem Dig.big {t : List Int} (h : Dig t) {c : Int} (c0 : 0 ≤ c) (c1 : c ≤ 1099511627776) : Big (t.set 0 (t.getD 0 0 + 19 * c)) ∧ D (t.set 0 (t.getD 0 0 + 19 * c)) = D t + 19 * c := by
  have h0 := h.bd _ (getD_mem (t := t) (i := 0) (by rw [h.len]; decide))
  refine ⟨⟨by simp [h.len], fun x hx => ?_⟩, ?_⟩
  · rcases List.mem_or_eq_of_mem_set hx with hx | rfl
    · have := h.bd x hx; omega
    · omega
  · cases t with
    | nil => have := h.len; simp at this
    | cons x t => simp only [List.set_cons_zero, List.getD_cons_zero, D_cons]; omega
/-- the digits of a number -/
def dg (n : Nat) : List Int := (List.range 16).map fun i => ((n >>> (16 * i) % 65536 : Nat) : Int)
@[simp] theorem dg_len (n : Nat) : (dg n).length = 16 := by simp [dg]
theorem dg_at (n i : Nat) (h : i < 16) : (dg n).getD i 0 = ((n >>> (16 * i) % 65536 : Nat) : Int) := by
  rw [List.getD_eq_getElem?_getD, List.getElem?_eq_getElem (by simpa using h)]; simp [dg]
theorem D_digit : ∀ (t : List Int), (∀ x ∈ t, 0 ≤ x ∧ x < 65536) → ∀ i, i < t.length → t.getD i 0 = D t / 65536 ^ i % 65536
  | [], _, i, hi => by simp at hi
  | x :: t, h, 0, _ => by
    have hx := h x (by simp)
    simp only [List.getD_cons_zero, D_cons, Int.pow_zero]
    omega
  | x :: t, h, i + 1, hi => by
    have hx := h x (by simp)
    have ih := D_digit t (fun y hy => h y (by simp [hy])) i (by simpa using hi)
    rw [List.getD_cons_succ, ih, D_cons, Int.pow_succ, Int.mul_comm (65536 ^ i) 65536, ← Int.ediv_ediv_of_nonneg (by decide)]
    congr 2
    omega
theorem Dig.eq {t : List Int} (h : Dig t) : t = dg (D t).toNat := by
  have hlt := h.lt
  apply List.ext_getElem
  · simp [h.len]
  · intro i h1 h2
    have hd := D_digit t h.bd i h1
    have hg := dg_at (D t).toNat i (by simpa using h2)
    rw [List.getD_eq_getElem?_getD, List.getElem?_eq_getElem h1, Option.getD_some] at hd
    rw [List.getD_eq_getElem?_getD, List.getElem?_eq_getElem h2, Option.getD_some] at hg
    rw [hd, hg, Nat.shiftRight_eq_div_pow, Nat.pow_mul, show (2 : Nat) ^ 16 = 65536 by decide]
    have : ((D t).toNat : Int) = D t := by omega
    rw [Int.natCast_emod, Int.natCast_ediv, this]
    simp
theorem Dig.of {n : Nat} (hn : n < 57896044618658097711785492504343953926634992332820282019728792003956564819968) : Dig (dg n) ∧ D (dg n) = n := by
  have key : ∀ (k m : Nat), m < 65536 ^ k → D ((List.range k).map fun i => ((m >>> (16 * i) % 65536 : Nat) : Int)) = m := by
    intro k
    induction k with
    | zero => intro m hm; simp at hm; simp [D, hm]
    | succ k ih =>
      intro m hm
      have e : ((List.range (k + 1)).map fun i => ((m >>> (16 * i) % 65536 : Nat) : Int)) = ((m % 65536 : Nat) : Int) :: ((List.range k).map fun i => (((m / 65536) >>> (16 * i) % 65536 : Nat) : Int)) := by
        rw [List.range_succ_eq_map, List.map_cons, List.map_map]
        congr 1
        apply List.map_congr_left
        intro i _
        simp only [Function.comp]
        rw [Nat.shiftRight_eq_div_pow, Nat.shiftRight_eq_div_pow, Nat.div_div_eq_div_mul, show 16 * i.succ = 16 + 16 * i by omega, Nat.pow_add]
      rw [e, D_cons, ih (m / 65536) (by rw [Nat.pow_succ] at hm; omega)]
      omega
  refine ⟨⟨dg_len n, fun x hx => ?_, ?_⟩, key 16 n (Nat.lt_trans hn (by decide))⟩
  · simp only [dg, List.mem_map] at hx
    obtain ⟨i, _, rfl⟩ := hx
    omega
  · rw [dg_at n 15 (by decide), Nat.shiftRight_eq_div_pow]
    omega
/-- the digits of the prime -/
def pd : List Int := [65517, 65535, 65535, 65535, 65535, 65535, 65535, 65535, 65535, 65535, 65535, 65535, 65535, 65535, 65535, 32767]
theorem pd_D : D pd = 57896044618658097711785492504343953926634992332820282019728792003956564819949 := by decide
/-- a number of p or above, below 2^255 -/
theorem Dig.less {t : List Int} (h : Dig t) (hp : 57896044618658097711785492504343953926634992332820282019728792003956564819949 ≤ D t) : dg ((D t).toNat % P) = (t.getD 0 0 - 65517) :: List.replicate 15 0 := by
  have hlt := h.lt
  have h0 := D_digit t h.bd 0 (by rw [h.len]; decide)
  rw [Int.pow_zero, Int.ediv_one] at h0
  have hP : (D t).toNat % P = (D t).toNat - 57896044618658097711785492504343953926634992332820282019728792003956564819949 := by
    have e : P = 57896044618658097711785492504343953926634992332820282019728792003956564819949 := rfl
    rw [e]
    omega
  have hsm : (D t).toNat - 57896044618658097711785492504343953926634992332820282019728792003956564819949 < 19 := by omega
  rw [hP]
  have e0 : t.getD 0 0 - 65517 = (((D t).toNat - 57896044618658097711785492504343953926634992332820282019728792003956564819949 : Nat) : Int) := by rw [h0]; omega
  rw [e0]
  have : ∀ m : Nat, m < 19 → dg m = (m : Int) :: List.replicate 15 0 := by decide
  exact this _ hsm
end Go.Fld
