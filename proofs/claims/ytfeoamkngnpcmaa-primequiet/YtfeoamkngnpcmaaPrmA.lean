import Init
import Derived.Laws.BitsAllLaws
namespace Go.Prm
open Go
/-- the prime -/
def P : Nat := 1361129467683753853853498429727072845819
theorem P_eq : P = 2 ^ 130 - 5 := by decide
theorem P_PI : (P : Int) = (1361129467683753853853498429727072845819 : Int) := by decide
/-- the number of limbs -/
def V : List Int → Int
  | [] => 0
  | x :: l => x + 67108864 * V l
theorem V_cons (x : Int) (l : List Int) : V (x :: l) = x + 67108864 * V l := rfl
theorem V_nil : V [] = 0 := rfl
/-- carry -/
def cy : Int → List Int → List Int
  | _, [] => []
  | o, x :: l => (x + o) % 67108864 :: cy ((x + o) / 67108864) l
def co : Int → List Int → Int
  | o, [] => o
  | o, x :: l => co ((x + o) / 67108864) l
@[simp] theorem cy_len : ∀ (l : List Int) (o : Int), (cy o l).length = l.length
  | [], _ => rfl
  | _ :: l, _ => by simp [cy, cy_len l]
theorem cy_V : ∀ (l : List Int) (o : Int), V (cy o l) + (67108864 : Int) ^ l.length * co o l = V l + o
  | [], o => by simp [V, cy, co]
  | x :: l, o => by
    have ih := cy_V l ((x + o) / 67108864)
    simp only [cy, co, V, List.length_cons]
    have hd := Int.emod_add_mul_ediv (x + o) 67108864
    rw [Int.pow_succ]
    have e : (x + o) % 67108864 + 67108864 * V (cy ((x + o) / 67108864) l) + (67108864 : Int) ^ l.length * 67108864 * co ((x + o) / 67108864) l = (x + o) % 67108864 + 67108864 * (V (cy ((x + o) / 67108864) l) + (67108864 : Int) ^ l.length * co ((x + o) / 67108864) l) := by grind
    rw [e, ih]
    grind
theorem cy_lt : ∀ (l : List Int) (o : Int), ∀ x ∈ cy o l, 0 ≤ x ∧ x < 67108864
  | [], _ => by simp [cy]
  | y :: l, o => by
    intro x hx
    rw [cy, List.mem_cons] at hx
    rcases hx with rfl | hx
    · omega
    · exact cy_lt l _ x hx
theorem five {l : List Int} (h : l.length = 5) : ∃ a b c d e, l = [a, b, c, d, e] := by
  match l, h with
  | [a, b, c, d, e], _ => exact ⟨a, b, c, d, e, rfl⟩
theorem V_lt : ∀ (l : List Int), (∀ x ∈ l, 0 ≤ x ∧ x < 67108864) → 0 ≤ V l ∧ V l < (67108864 : Int) ^ l.length
  | [], _ => by simp [V]
  | x :: l, h => by
    have ih := V_lt l (fun y hy => h y (by simp [hy]))
    have hx := h x (by simp)
    rw [V, List.length_cons, Int.pow_succ]
    generalize (67108864 : Int) ^ l.length = R at *
    omega
/-- limbs of a number: five, each below 2^52 -/
structure Lim (l : List Int) : Prop where
  len : l.length = 5
  bd : ∀ x ∈ l, 0 ≤ x ∧ x < 134217728
/-- limbs l are the number n -/
structure El (l : List Int) (n : Nat) : Prop extends Lim l where
  val : V l % 1361129467683753853853498429727072845819 = n
theorem El.lt {l : List Int} {n : Nat} (h : El l n) : n < P := by
  have := h.val
  have e := P_PI
  have : V l % 1361129467683753853853498429727072845819 < 1361129467683753853853498429727072845819 := Int.emod_lt_of_pos _ (by decide)
  omega
theorem El.uniq {l : List Int} {n m : Nat} (h : El l n) (h' : El l m) : n = m := by
  have := h.val
  have := h'.val
  omega
theorem modP (n : Nat) : ((n : Int) % 1361129467683753853853498429727072845819) = ((n % P : Nat) : Int) := by rw [← P_PI]; rfl
theorem co_bd : ∀ (l : List Int) (o B : Int), 0 ≤ o → o ≤ B → (∀ x ∈ l, 0 ≤ x ∧ x + B < 67108864 * (B + 1)) → 0 ≤ co o l ∧ co o l ≤ B
  | [], o, B, h0, h1, _ => ⟨h0, h1⟩
  | x :: l, o, B, h0, h1, h => by
    have hx := h x (by simp)
    rw [co]
    refine co_bd l _ B (by omega) ?_ (fun y hy => h y (by simp [hy]))
    have : (x + o) / 67108864 < B + 1 := Int.ediv_lt_of_lt_mul (by decide) (by rw [Int.mul_comm]; omega)
    omega
/-- settle -/
def last (l : List Int) (o : Int) : List Int := [(l.getD 0 0 + 5 * o) % 67108864, l.getD 1 0 + (l.getD 0 0 + 5 * o) / 67108864, l.getD 2 0, l.getD 3 0, l.getD 4 0]
def stl (l : List Int) : List Int := last (cy 0 l) (co 0 l)
theorem stl_lim (l : List Int) (h5 : l.length = 5) (h : ∀ x ∈ l, 0 ≤ x ∧ x < 1152921504606846976) : Lim (stl l) ∧ V (stl l) % 1361129467683753853853498429727072845819 = V l % 1361129467683753853853498429727072845819 ∧ 0 ≤ V (stl l) ∧ V (stl l) < 1361129467683753853853498429727072845824 + 5 * co 0 l ∧ 0 ≤ co 0 l ∧ co 0 l ≤ 34359738368 := by
  have hb := co_bd l 0 34359738368 (by decide) (by decide) (fun x hx => by have := h x hx; omega)
  have hv := cy_V l 0
  have hlt := cy_lt l 0
  have hl := cy_len l 0
  have hV := V_lt _ hlt
  obtain ⟨a, b, c, d, e, hc⟩ := five (hl.trans h5)
  unfold stl
  rw [hc] at hlt hv hV ⊢
  rw [h5] at *
  generalize co 0 l = o at *
  simp only [last, List.getD_cons_zero, List.getD_cons_succ]
  have ev : V [(a + 5 * o) % 67108864, b + (a + 5 * o) / 67108864, c, d, e] = V [a, b, c, d, e] + 5 * o := by simp only [V_cons]; omega
  simp only [List.length_cons, List.length_nil] at hV
  have hr : (67108864 : Int) ^ 5 = 1361129467683753853853498429727072845824 := by decide
  have hr' : (67108864 : Int) ^ (0 + 1 + 1 + 1 + 1 + 1) = 1361129467683753853853498429727072845824 := by decide
  rw [hr] at hv
  rw [hr'] at hV
  simp only [List.mem_cons, List.not_mem_nil, or_false, forall_eq_or_imp, forall_eq] at hlt
  refine ⟨⟨rfl, ?_⟩, ?_, ?_, ?_, hb.1, hb.2⟩
  · intro x hx
    simp only [List.mem_cons, List.not_mem_nil, or_false] at hx
    rcases hx with rfl | rfl | rfl | rfl | rfl <;> omega
  · rw [ev]; omega
  · rw [ev]; omega
  · rw [ev]; omega
/-- 5 times the limbs, and the limbs -/
def rw10 (b : List Int) : List Int := b.map (5 * ·) ++ b
def sm (a R : List Int) (place : Nat) : Nat → Int
  | 0 => 0
  | k + 1 => sm a R place k + a.getD k 0 * R.getD (place + 5 - k) 0
/-- the sums of the five places -/
def sums (a b : List Int) : List Int := [sm a (rw10 b) 0 5, sm a (rw10 b) 1 5, sm a (rw10 b) 2 5, sm a (rw10 b) 3 5, sm a (rw10 b) 4 5]
theorem bdp {x y : Int} (x0 : 0 ≤ x) (x1 : x < 134217728) (y0 : 0 ≤ y) (y1 : y < 134217728) : 0 ≤ x * y ∧ x * y < 18014398509481984 :=
  ⟨Int.mul_nonneg x0 y0, by
    have h1 : x * y ≤ 134217728 * y := Int.mul_le_mul_of_nonneg_right (by omega) y0
    omega⟩
theorem sums_eq (a0 a1 a2 a3 a4 b0 b1 b2 b3 b4 : Int) : sums [a0, a1, a2, a3, a4] [b0, b1, b2, b3, b4] =
    [a0 * b0 + 5 * (a1 * b4 + a2 * b3 + a3 * b2 + a4 * b1), a0 * b1 + a1 * b0 + 5 * (a2 * b4 + a3 * b3 + a4 * b2), a0 * b2 + a1 * b1 + a2 * b0 + 5 * (a3 * b4 + a4 * b3), a0 * b3 + a1 * b2 + a2 * b1 + a3 * b0 + 5 * (a4 * b4), a0 * b4 + a1 * b3 + a2 * b2 + a3 * b1 + a4 * b0] := by
  simp [sums, sm, rw10]
  grind
theorem V_sums (a0 a1 a2 a3 a4 b0 b1 b2 b3 b4 : Int) : V [a0, a1, a2, a3, a4] * V [b0, b1, b2, b3, b4] =
    V (sums [a0, a1, a2, a3, a4] [b0, b1, b2, b3, b4]) + 1361129467683753853853498429727072845819 * (a1 * b4 + a2 * b3 + a3 * b2 + a4 * b1 + 67108864 * (a2 * b4 + a3 * b3 + a4 * b2) + 67108864 ^ 2 * (a3 * b4 + a4 * b3) + 67108864 ^ 3 * (a4 * b4)) := by
  rw [sums_eq]
  simp only [V_cons, V_nil]
  grind
theorem sums_bd {a b : List Int} (ha : Lim a) (hb : Lim b) : (∀ x ∈ sums a b, 0 ≤ x ∧ x < 1152921504606846976) ∧ (sums a b).length = 5 := by
  obtain ⟨a0, a1, a2, a3, a4, rfl⟩ := five ha.len
  obtain ⟨b0, b1, b2, b3, b4, rfl⟩ := five hb.len
  rw [sums_eq]
  have hA := ha.bd
  have hB := hb.bd
  simp only [List.mem_cons, List.not_mem_nil, or_false, forall_eq_or_imp, forall_eq] at hA hB
  obtain ⟨⟨A0, A0'⟩, ⟨A1, A1'⟩, ⟨A2, A2'⟩, ⟨A3, A3'⟩, ⟨A4, A4'⟩⟩ := hA
  obtain ⟨⟨B0, B0'⟩, ⟨B1, B1'⟩, ⟨B2, B2'⟩, ⟨B3, B3'⟩, ⟨B4, B4'⟩⟩ := hB
  have p00 := bdp A0 A0' B0 B0'
  have p01 := bdp A0 A0' B1 B1'
  have p02 := bdp A0 A0' B2 B2'
  have p03 := bdp A0 A0' B3 B3'
  have p04 := bdp A0 A0' B4 B4'
  have p10 := bdp A1 A1' B0 B0'
  have p11 := bdp A1 A1' B1 B1'
  have p12 := bdp A1 A1' B2 B2'
  have p13 := bdp A1 A1' B3 B3'
  have p14 := bdp A1 A1' B4 B4'
  have p20 := bdp A2 A2' B0 B0'
  have p21 := bdp A2 A2' B1 B1'
  have p22 := bdp A2 A2' B2 B2'
  have p23 := bdp A2 A2' B3 B3'
  have p24 := bdp A2 A2' B4 B4'
  have p30 := bdp A3 A3' B0 B0'
  have p31 := bdp A3 A3' B1 B1'
  have p32 := bdp A3 A3' B2 B2'
  have p33 := bdp A3 A3' B3 B3'
  have p34 := bdp A3 A3' B4 B4'
  have p40 := bdp A4 A4' B0 B0'
  have p41 := bdp A4 A4' B1 B1'
  have p42 := bdp A4 A4' B2 B2'
  have p43 := bdp A4 A4' B3 B3'
  have p44 := bdp A4 A4' B4 B4'
  clear A0 A0' A1 A1' A2 A2' A3 A3' A4 A4' B0 B0' B1 B1' B2 B2' B3 B3' B4 B4' ha hb
  refine ⟨?_, rfl⟩
  intro x hx
  simp only [List.mem_cons, List.not_mem_nil, or_false] at hx
  rcases hx with rfl | rfl | rfl | rfl | rfl <;> omega
def prod (a b : List Int) : List Int := stl (sums a b)
theorem prod_el {a b : List Int} (ha : Lim a) (hb : Lim b) : Lim (prod a b) ∧ V (prod a b) % 1361129467683753853853498429727072845819 = (V a * V b) % 1361129467683753853853498429727072845819 := by
  obtain ⟨s1, s2⟩ := sums_bd ha hb
  obtain ⟨h1, h2, _⟩ := stl_lim _ s2 s1
  refine ⟨h1, h2.trans ?_⟩
  obtain ⟨a0, a1, a2, a3, a4, rfl⟩ := five ha.len
  obtain ⟨b0, b1, b2, b3, b4, rfl⟩ := five hb.len
  rw [V_sums a0 a1 a2 a3 a4 b0 b1 b2 b3 b4, Int.add_mul_emod_self_left]
theorem V_bd52 {l : List Int} (h : Lim l) : 0 ≤ V l := by
  obtain ⟨a, b, c, d, e, rfl⟩ := five h.len
  have hb := h.bd
  simp only [List.mem_cons, List.not_mem_nil, or_false, forall_eq_or_imp, forall_eq] at hb
  simp only [V_cons, V_nil]
  omega
/-- what least leaves -/
def lst (a : List Int) : List Int := cy 0 ((stl a).set 0 ((stl a).getD 0 0 + 5 * co 0 ((stl a).set 0 ((stl a).getD 0 0 + 5))))
theorem lst_facts {a : List Int} (h : Lim a) : ∃ s0 s1 s2 s3 s4 c, stl a = [s0, s1, s2, s3, s4] ∧ 0 ≤ s0 ∧ s0 < 134217728 ∧ 0 ≤ s1 ∧ s1 < 134217728 ∧ 0 ≤ s2 ∧ s2 < 134217728 ∧ 0 ≤ s3 ∧ s3 < 134217728 ∧ 0 ≤ s4 ∧ s4 < 134217728 ∧ co 0 [s0 + 5, s1, s2, s3, s4] = c ∧ 0 ≤ c ∧ c ≤ 1 ∧ lst a = cy 0 [s0 + 5 * c, s1, s2, s3, s4] ∧ V (lst a) = V a % 1361129467683753853853498429727072845819 ∧ (∀ x ∈ lst a, 0 ≤ x ∧ x < 67108864) ∧ (lst a).length = 5 := by
  obtain ⟨hl, hv, v0, v1, o0, o1⟩ := stl_lim a h.len (fun x hx => by have := h.bd x hx; omega)
  have hob := co_bd a 0 2 (by decide) (by decide) (fun x hx => by have := h.bd x hx; omega)
  have hb := hl.bd
  obtain ⟨s0, s1, s2, s3, s4, hs⟩ := five hl.len
  unfold lst
  rw [hs] at hb hv v0 v1 ⊢
  simp only [List.mem_cons, List.not_mem_nil, or_false, forall_eq_or_imp, forall_eq] at hb
  simp only [List.getD_cons_zero, List.set_cons_zero]
  have e1 := cy_V [s0 + 5, s1, s2, s3, s4] 0
  have l1 := cy_lt [s0 + 5, s1, s2, s3, s4] 0
  have k1 := V_lt _ l1
  generalize hc : co 0 [s0 + 5, s1, s2, s3, s4] = c at *
  have e2 := cy_V [s0 + 5 * c, s1, s2, s3, s4] 0
  have l2 := cy_lt [s0 + 5 * c, s1, s2, s3, s4] 0
  have k2 := V_lt _ l2
  simp only [cy_len, List.length_cons, List.length_nil] at e1 e2 k1 k2
  rw [show (67108864 : Int) ^ (0 + 1 + 1 + 1 + 1 + 1) = 1361129467683753853853498429727072845824 by decide] at e1 e2 k1 k2
  have f1 : V [s0 + 5, s1, s2, s3, s4] = V [s0, s1, s2, s3, s4] + 5 := by simp only [V_cons]; omega
  have f2 : V [s0 + 5 * c, s1, s2, s3, s4] = V [s0, s1, s2, s3, s4] + 5 * c := by simp only [V_cons]; omega
  rw [f1] at e1
  rw [f2] at e2
  generalize V (cy 0 [s0 + 5, s1, s2, s3, s4]) = y1 at *
  generalize V (cy 0 [s0 + 5 * c, s1, s2, s3, s4]) = y2 at *
  generalize co 0 [s0 + 5 * c, s1, s2, s3, s4] = c2 at *
  generalize V [s0, s1, s2, s3, s4] = v at *
  have hc01 : 0 ≤ c ∧ c ≤ 1 := by omega
  refine ⟨s0, s1, s2, s3, s4, c, rfl, hb.1.1, hb.1.2, hb.2.1.1, hb.2.1.2, hb.2.2.1.1, hb.2.2.1.2, hb.2.2.2.1.1, hb.2.2.2.1.2, hb.2.2.2.2.1, hb.2.2.2.2.2, hc, hc01.1, hc01.2, rfl, ?_, l2, by simp⟩
  rw [← hv]
  have h01 : c = 0 ∨ c = 1 := by omega
  clear hb l1 l2 hc
  rcases h01 with h | h
  · have : c2 = 0 := by omega
    omega
  · have : c2 = 1 := by omega
    omega

def limb (n j : Nat) : Nat := n >>> (26 * j) % 2 ^ 26
def bts (n : Nat) : List Int := (List.range 17).map fun i => ((n >>> (8 * i) % 256 : Nat) : Int)
@[simp] theorem bts_len (n : Nat) : (bts n).length = 17 := by simp [bts]
theorem bts_at (n i : Nat) (h : i < 17) : (bts n)[i]'(by simpa using h) = ((n >>> (8 * i) % 256 : Nat) : Int) := by simp [bts]
theorem enc_bits (n q r k : Nat) (hk : 8 * k = 26 * q + r) (hr : r < 26) :
    (limb n q >>> r ||| (limb n (q + 1) <<< (26 - r)) % 2 ^ 64) % 2 ^ 8 = n >>> (8 * k) % 2 ^ 8 := by
  apply Nat.eq_of_testBit_eq
  intro i
  simp only [limb, Nat.testBit_mod_two_pow, Nat.testBit_or, Nat.testBit_shiftRight, Nat.testBit_shiftLeft]
  by_cases hi : i < 8
  · by_cases h1 : r + i < 26
    · have e1 : ¬ (26 - r ≤ i) := by omega
      have e2 : 26 * q + (r + i) = 8 * k + i := by omega
      simp [hi, h1, e1, e2]
    · have e1 : 26 - r ≤ i := by omega
      have e2 : 26 * (q + 1) + (i - (26 - r)) = 8 * k + i := by omega
      have e3 : i < 64 := by omega
      have e4 : i - (26 - r) < 26 := by omega
      simp [hi, h1, e1, e2, e3, e4]
  · simp [hi]
theorem limb_lt (n j : Nat) : limb n j < 67108864 := by unfold limb; omega
theorem enc_math (n q r k : Nat) (hk : 8 * k = 26 * q + r) (hr : r < 26) :
    bits .or .u64 ((limb n q : Int) / 2 ^ r) (IntKind.u64.wrap ((limb n (q + 1) : Int) * 2 ^ (26 - r))) % 256 = ((n >>> (8 * k) % 256 : Nat) : Int) := by
  have h1 : ((limb n q : Nat) : Int) / 2 ^ r = ((limb n q >>> r : Nat) : Int) := by
    rw [Nat.shiftRight_eq_div_pow]; simp
  have h2 : IntKind.u64.wrap ((limb n (q + 1) : Int) * 2 ^ (26 - r)) = (((limb n (q + 1) <<< (26 - r)) % 2 ^ 64 : Nat) : Int) := by
    rw [IntKind.wrap_u64, Nat.shiftLeft_eq]; simp
  rw [h1, h2, u64_or_nat _ _ (by have := limb_lt n q; have := Nat.shiftRight_le (limb n q) r; omega) (by omega)]
  have := enc_bits n q r k hk hr
  rw [show (2 : Nat) ^ 8 = 256 by decide] at this
  rw [← this]
  simp
theorem V_limbs {l : List Int} (h5 : l.length = 5) (hb : ∀ x ∈ l, 0 ≤ x ∧ x < 67108864) (j : Nat) (hj : j < 6) : (l ++ [0]).getD j 0 = ((limb (V l).toNat j : Nat) : Int) ∧ (V l).toNat < 1361129467683753853853498429727072845824 := by
  obtain ⟨a, b, c, d, e, rfl⟩ := five h5
  simp only [List.mem_cons, List.not_mem_nil, or_false, forall_eq_or_imp, forall_eq] at hb
  obtain ⟨⟨a0, a1⟩, ⟨b0, b1⟩, ⟨c0, c1⟩, ⟨d0, d1⟩, ⟨e0, e1⟩⟩ := hb
  have hV : V [a, b, c, d, e] = a + 67108864 * (b + 67108864 * (c + 67108864 * (d + 67108864 * (e + 67108864 * 0)))) := rfl
  rw [hV]
  obtain ⟨a, rfl⟩ := Int.eq_ofNat_of_zero_le a0
  obtain ⟨b, rfl⟩ := Int.eq_ofNat_of_zero_le b0
  obtain ⟨c, rfl⟩ := Int.eq_ofNat_of_zero_le c0
  obtain ⟨d, rfl⟩ := Int.eq_ofNat_of_zero_le d0
  obtain ⟨e, rfl⟩ := Int.eq_ofNat_of_zero_le e0
  have hn : ((a : Int) + 67108864 * (b + 67108864 * (c + 67108864 * (d + 67108864 * (e + 67108864 * 0))))).toNat = a + 67108864 * (b + 67108864 * (c + 67108864 * (d + 67108864 * e))) := by omega
  rw [hn]
  unfold limb
  rw [Nat.shiftRight_eq_div_pow]
  refine ⟨?_, by omega⟩
  have h6 : j = 0 ∨ j = 1 ∨ j = 2 ∨ j = 3 ∨ j = 4 ∨ j = 5 := by omega
  rcases h6 with rfl | rfl | rfl | rfl | rfl | rfl
  all_goals simp only [List.cons_append, List.nil_append, List.getD_cons_zero, List.getD_cons_succ]
  all_goals simp only [Nat.reduceMul, Nat.reducePow]
  all_goals omega
/-! the number of 17 bytes -/
def nbk (b : List Int) : Nat → Nat
  | 0 => 0
  | k + 1 => nbk b k ||| (b.getD k 0).toNat <<< (8 * k)
def nb (b : List Int) : Nat := nbk b 17
theorem nbk_bit (b : List Int) (hb : ∀ x ∈ b, 0 ≤ x ∧ x < 256) : ∀ k i, (nbk b k).testBit i = (decide (i < 8 * k) && (b.getD (i / 8) 0).toNat.testBit (i % 8))
  | 0, i => by simp [nbk]
  | k + 1, i => by
    have ih := nbk_bit b hb k i
    have hx : (b.getD k 0).toNat < 2 ^ 8 := by
      by_cases h : k < b.length
      · have := hb _ (List.getElem_mem h)
        rw [List.getD_eq_getElem?_getD, List.getElem?_eq_getElem h]
        simp only [Option.getD_some]
        omega
      · rw [List.getD_eq_getElem?_getD, List.getElem?_eq_none (by omega)]; simp
    rw [nbk, Nat.testBit_or, ih, Nat.testBit_shiftLeft]
    by_cases h1 : i < 8 * k
    · have e1 : ¬ (8 * k ≤ i) := by omega
      have e2 : i < 8 * (k + 1) := by omega
      simp [h1, e1, e2]
    · by_cases h2 : i < 8 * (k + 1)
      · have e1 : 8 * k ≤ i := by omega
        have e3 : i / 8 = k := by omega
        have e4 : i - 8 * k = i % 8 := by omega
        simp [h1, h2, e1, e3, e4]
      · have e1 : 8 * k ≤ i := by omega
        have e5 : (b.getD k 0).toNat.testBit (i - 8 * k) = false := by
          apply Nat.testBit_lt_two_pow
          exact Nat.lt_of_lt_of_le hx (Nat.pow_le_pow_right (by decide) (by omega))
        rw [List.getD_eq_getElem?_getD] at e5
        simp [h1, h2, e1, e5]
theorem bts_nb (b : List Int) (h17 : b.length = 17) (hb : ∀ x ∈ b, 0 ≤ x ∧ x < 256) : bts (nb b) = b := by
  apply List.ext_getElem
  · simp [h17]
  · intro i h1 h2
    rw [bts_at _ _ (by omega)]
    have hx := hb _ (List.getElem_mem h2)
    have : nb b >>> (8 * i) % 256 = (b[i]).toNat := by
      apply Nat.eq_of_testBit_eq
      intro t
      rw [show 256 = 2 ^ 8 by decide, Nat.testBit_mod_two_pow, Nat.testBit_shiftRight, nb, nbk_bit b hb]
      by_cases ht : t < 8
      · have e1 : (8 * i + t) / 8 = i := by omega
        have e2 : (8 * i + t) % 8 = t := by omega
        have e3 : 8 * i + t < 8 * 17 := by omega
        rw [e1, e2, List.getD_eq_getElem?_getD, List.getElem?_eq_getElem h2]
        simp [ht, e3]
      · have e5 : (b[i]).toNat.testBit t = false := by
          apply Nat.testBit_lt_two_pow
          exact Nat.lt_of_lt_of_le (show (b[i]).toNat < 2 ^ 8 by omega) (Nat.pow_le_pow_right (by decide) (by omega))
        simp [ht, e5]
    rw [this]
    omega
theorem nb_lt (b : List Int) (hb : ∀ x ∈ b, 0 ≤ x ∧ x < 256) : nb b < 2 ^ 136 := by
  apply Nat.lt_pow_two_of_testBit
  intro i hi
  rw [nb, nbk_bit b hb]
  have : ¬ (i < 8 * 17) := by omega
  simp [this]
theorem bts_bd (n : Nat) : ∀ x ∈ bts n, 0 ≤ x ∧ x < 256 := by
  intro x hx
  simp only [bts, List.mem_map] at hx
  obtain ⟨i, _, rfl⟩ := hx
  omega
theorem nb_bts (n : Nat) (hn : n < 2 ^ 136) : nb (bts n) = n := by
  apply Nat.eq_of_testBit_eq
  intro i
  rw [nb, nbk_bit _ (bts_bd n)]
  by_cases hi : i < 8 * 17
  · have h8 : i / 8 < 17 := by omega
    have e0 : (bts n).getD (i / 8) 0 = ((n >>> (8 * (i / 8)) % 256 : Nat) : Int) := by
      rw [List.getD_eq_getElem?_getD, List.getElem?_eq_getElem (by simpa using h8), Option.getD_some, bts_at _ _ h8]
    have e1 : 8 * (i / 8) + i % 8 = i := by omega
    have e2 : i % 8 < 8 := by omega
    rw [e0, Int.toNat_natCast, show 256 = 2 ^ 8 by decide, Nat.testBit_mod_two_pow, Nat.testBit_shiftRight, e1]
    simp [hi, e2]
  · have : n.testBit i = false := Nat.testBit_lt_two_pow (Nat.lt_of_lt_of_le hn (Nat.pow_le_pow_right (by decide) (by omega)))
    simp [hi, this]
/-- six limbs -/
def LL (n : Nat) : List Int := (List.range 6).map fun j => ((limb n j : Nat) : Int)
theorem limb_or (m n j : Nat) : limb (m ||| n) j = limb m j ||| limb n j := by
  unfold limb
  rw [Nat.shiftRight_or_distrib, Nat.or_mod_two_pow]
theorem limb_shl (x q r k j : Nat) (hx : x < 256) (hk : 8 * k = 26 * q + r) (hr : r < 26) :
    limb (x <<< (8 * k)) j = if j = q then (x <<< r) % 2 ^ 26 else if j = q + 1 then x >>> (26 - r) else 0 := by
  have hx0 : ∀ t, 8 ≤ t → x.testBit t = false := fun t ht => Nat.testBit_lt_two_pow (Nat.lt_of_lt_of_le hx (Nat.pow_le_pow_right (by decide) ht : 2 ^ 8 ≤ 2 ^ t))
  apply Nat.eq_of_testBit_eq
  intro i
  rw [limb, Nat.testBit_mod_two_pow, Nat.testBit_shiftRight, Nat.testBit_shiftLeft]
  by_cases h1 : j = q
  · subst h1
    rw [if_pos rfl, Nat.testBit_mod_two_pow, Nat.testBit_shiftLeft, hk]
    by_cases h : r ≤ i
    · have e1 : 26 * j + r ≤ 26 * j + i := by omega
      have e2 : 26 * j + i - (26 * j + r) = i - r := by omega
      simp [h, e2]
    · have e1 : ¬ (26 * j + r ≤ 26 * j + i) := by omega
      simp [h]
  · rw [if_neg h1]
    by_cases h2 : j = q + 1
    · subst h2
      rw [if_pos rfl, Nat.testBit_shiftRight, hk]
      have e1 : 26 * q + r ≤ 26 * (q + 1) + i := by omega
      have e2 : 26 * (q + 1) + i - (26 * q + r) = 26 - r + i := by omega
      rw [e2]
      by_cases hi : i < 26
      · simp [hi, e1]
      · rw [hx0 (26 - r + i) (by omega)]; simp [hi]
    · rw [if_neg h2, hk]
      by_cases h3 : j < q
      · by_cases hi : i < 26
        · have e1 : ¬ (26 * q + r ≤ 26 * j + i) := by omega
          simp [e1]
        · simp [hi]
      · have e2 : 8 ≤ 26 * j + i - (26 * q + r) := by omega
        rw [hx0 _ e2]; simp
theorem dec_step (m x q r k : Nat) (hx : x < 256) (hk : 8 * k = 26 * q + r) (hr : r < 26) (hq : q < 5) :
    ((LL m).set q (bits .or .u64 ((LL m).getD q 0) (bits .and .u64 (IntKind.u64.wrap ((x : Int) * 2 ^ r)) 67108863))).set (q + 1) (bits .or .u64 ((LL m).getD (q + 1) 0) ((x : Int) / 2 ^ (26 - r))) = LL (m ||| x <<< (8 * k)) := by
  have hg : ∀ j, j < 6 → (LL m).getD j 0 = ((limb m j : Nat) : Int) := fun j hj => by
    rw [List.getD_eq_getElem?_getD, List.getElem?_eq_getElem (by simpa [LL] using hj)]; simp [LL]
  have p1 : x * 2 ^ r < 18446744073709551616 := by
    have h1 : 2 ^ r ≤ 2 ^ 25 := Nat.pow_le_pow_right (by decide) (by omega)
    have h2 : x * 2 ^ r ≤ 255 * 2 ^ 25 := Nat.mul_le_mul (by omega) h1
    omega
  have e1 : bits .and .u64 (IntKind.u64.wrap ((x : Int) * 2 ^ r)) 67108863 = (((x <<< r) % 2 ^ 26 : Nat) : Int) := by
    have h0 : IntKind.u64.wrap ((x : Int) * 2 ^ r) = ((x * 2 ^ r : Nat) : Int) := by
      rw [IntKind.wrap_u64]
      have : ((x : Int) * 2 ^ r) = ((x * 2 ^ r : Nat) : Int) := by simp
      rw [this]
      omega
    rw [h0, show (67108863 : Int) = ((67108863 : Nat) : Int) from rfl, u64_and_nat _ _ p1 (by decide), show (67108863 : Nat) = 2 ^ 26 - 1 by decide, Nat.and_two_pow_sub_one_eq_mod, Nat.shiftLeft_eq]
  have e2 : (x : Int) / 2 ^ (26 - r) = ((x >>> (26 - r) : Nat) : Int) := by rw [Nat.shiftRight_eq_div_pow]; simp
  have l1 := limb_lt m q
  have l2 := limb_lt m (q + 1)
  rw [e1, e2, hg q (by omega), hg (q + 1) (by omega), u64_or_nat _ _ (by omega) (by omega), u64_or_nat _ _ (by omega) (by have := Nat.shiftRight_le x (26 - r); omega)]
  apply List.ext_getElem
  · simp [LL]
  · intro j h1 h2
    have hj : j < 6 := by simpa [LL] using h2
    have hL := limb_or m (x <<< (8 * k)) j
    rw [limb_shl x q r k j hx hk hr] at hL
    simp only [LL, List.getElem_set, List.getElem_map, List.getElem_range]
    rw [hL]
    by_cases a1 : j = q
    · subst a1
      rw [if_neg (by omega), if_pos rfl, if_pos rfl]
    · by_cases a2 : j = q + 1
      · subst a2
        rw [if_pos rfl, if_neg (by omega), if_pos rfl]
      · rw [if_neg (by omega), if_neg (by omega), if_neg a1, if_neg a2]; simp
theorem LL_V (m : Nat) : V ((LL m).take 5) = ((m % 2 ^ 130 : Nat) : Int) ∧ (∀ x ∈ (LL m).take 5, 0 ≤ x ∧ x < 67108864) ∧ ((LL m).take 5).length = 5 := by
  have e : (LL m).take 5 = [((limb m 0 : Nat) : Int), ((limb m 1 : Nat) : Int), ((limb m 2 : Nat) : Int), ((limb m 3 : Nat) : Int), ((limb m 4 : Nat) : Int)] := rfl
  rw [e]
  refine ⟨?_, ?_, rfl⟩
  · simp only [V_cons, V_nil, limb, Nat.shiftRight_eq_div_pow, Nat.reduceMul, Nat.reducePow]
    omega
  · simp only [List.mem_cons, List.not_mem_nil, or_false, forall_eq_or_imp, forall_eq]
    have := limb_lt m 0
    have := limb_lt m 1
    have := limb_lt m 2
    have := limb_lt m 3
    have := limb_lt m 4
    omega
theorem LL_len (m : Nat) : (LL m).length = 6 := by simp [LL]
theorem LL_zero : LL 0 = List.replicate 6 0 := by decide
end Go.Prm
