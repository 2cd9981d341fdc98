import Init
namespace Go.Fld
/-- the prime -/
def P : Nat := 57896044618658097711785492504343953926634992332820282019728792003956564819949
theorem P_eq : P = 2 ^ 255 - 19 := by decide
theorem P_PI : (P : Int) = (57896044618658097711785492504343953926634992332820282019728792003956564819949 : Int) := by decide
/-- the number of limbs -/
def V : List Int → Int
  | [] => 0
  | x :: l => x + 2251799813685248 * V l
theorem V_cons (x : Int) (l : List Int) : V (x :: l) = x + 2251799813685248 * V l := rfl
theorem V_nil : V [] = 0 := rfl
/-- carry -/
def cy : Int → List Int → List Int
  | _, [] => []
  | o, x :: l => (x + o) % 2251799813685248 :: cy ((x + o) / 2251799813685248) l
def co : Int → List Int → Int
  | o, [] => o
  | o, x :: l => co ((x + o) / 2251799813685248) l
@[simp] theorem cy_len : ∀ (l : List Int) (o : Int), (cy o l).length = l.length
  | [], _ => rfl
  | _ :: l, _ => by simp [cy, cy_len l]
theorem cy_V : ∀ (l : List Int) (o : Int), V (cy o l) + (2251799813685248 : Int) ^ l.length * co o l = V l + o
  | [], o => by simp [V, cy, co]
  | x :: l, o => by
    have ih := cy_V l ((x + o) / 2251799813685248)
    simp only [cy, co, V, List.length_cons]
    have hd := Int.emod_add_mul_ediv (x + o) 2251799813685248
    rw [Int.pow_succ]
    have e : (x + o) % 2251799813685248 + 2251799813685248 * V (cy ((x + o) / 2251799813685248) l) + (2251799813685248 : Int) ^ l.length * 2251799813685248 * co ((x + o) / 2251799813685248) l = (x + o) % 2251799813685248 + 2251799813685248 * (V (cy ((x + o) / 2251799813685248) l) + (2251799813685248 : Int) ^ l.length * co ((x + o) / 2251799813685248) l) := by grind
    rw [e, ih]
    grind
theorem cy_lt : ∀ (l : List Int) (o : Int), ∀ x ∈ cy o l, 0 ≤ x ∧ x < 2251799813685248
  | [], _ => by simp [cy]
  | y :: l, o => by
    intro x hx
    rw [cy, List.mem_cons] at hx
    rcases hx with rfl | hx
    · omega
    · exact cy_lt l _ x hx
theorem five {l : List Int} (h : l.length = 5) : ∃ a b c d e, l = [a, b, c, d, e] := by
  match l, h with
  | [a, b, c, d, e], _ => exact ⟨a, b, c, d, e, rfl⟩
theorem V_lt : ∀ (l : List Int), (∀ x ∈ l, 0 ≤ x ∧ x < 2251799813685248) → 0 ≤ V l ∧ V l < (2251799813685248 : Int) ^ l.length
  | [], _ => by simp [V]
  | x :: l, h => by
    have ih := V_lt l (fun y hy => h y (by simp [hy]))
    have hx := h x (by simp)
    rw [V, List.length_cons, Int.pow_succ]
    generalize (2251799813685248 : Int) ^ l.length = R at *
    omega
/-- limbs of a number: five, each below 2^52 -/
structure Lim (l : List Int) : Prop where
  len : l.length = 5
  bd : ∀ x ∈ l, 0 ≤ x ∧ x < 4503599627370496
/-- limbs l are the number n -/
structure El (l : List Int) (n : Nat) : Prop extends Lim l where
  val : V l % 57896044618658097711785492504343953926634992332820282019728792003956564819949 = n
theorem El.lt {l : List Int} {n : Nat} (h : El l n) : n < P := by
  have := h.val
  have e := P_PI
  have : V l % 57896044618658097711785492504343953926634992332820282019728792003956564819949 < 57896044618658097711785492504343953926634992332820282019728792003956564819949 := Int.emod_lt_of_pos _ (by decide)
  omega
theorem El.uniq {l : List Int} {n m : Nat} (h : El l n) (h' : El l m) : n = m := by
  have := h.val
  have := h'.val
  omega
theorem modP (n : Nat) : ((n : Int) % 57896044618658097711785492504343953926634992332820282019728792003956564819949) = ((n % P : Nat) : Int) := by rw [← P_PI]; rfl
/-- settle -/
def stl (l : List Int) : List Int := (cy 0 l).set 0 ((cy 0 l).getD 0 0 + 19 * co 0 l)
theorem co_bd : ∀ (l : List Int) (o B : Int), 0 ≤ o → o ≤ B → (∀ x ∈ l, 0 ≤ x ∧ x + B < 2251799813685248 * (B + 1)) → 0 ≤ co o l ∧ co o l ≤ B
  | [], o, B, h0, h1, _ => ⟨h0, h1⟩
  | x :: l, o, B, h0, h1, h => by
    have hx := h x (by simp)
    rw [co]
    refine co_bd l _ B (by omega) ?_ (fun y hy => h y (by simp [hy]))
    have : (x + o) / 2251799813685248 < B + 1 := Int.ediv_lt_of_lt_mul (by decide) (by rw [Int.mul_comm]; omega)
    omega
theorem stl_lim (l : List Int) (h5 : l.length = 5) (h : ∀ x ∈ l, 0 ≤ x ∧ x < 1152921504606846976) : Lim (stl l) ∧ V (stl l) % 57896044618658097711785492504343953926634992332820282019728792003956564819949 = V l % 57896044618658097711785492504343953926634992332820282019728792003956564819949 ∧ 0 ≤ V (stl l) ∧ V (stl l) < 57896044618658097711785492504343953926634992332820282019728792003956564819968 + 19 * co 0 l ∧ 0 ≤ co 0 l ∧ co 0 l ≤ 1024 := by
  have hb := co_bd l 0 1024 (by decide) (by decide) (fun x hx => by have := h x hx; omega)
  have hv := cy_V l 0
  have hlt := cy_lt l 0
  have hl := cy_len l 0
  have hV := V_lt _ hlt
  obtain ⟨a, b, c, d, e, hc⟩ := five (hl.trans h5)
  have es : stl l = [a + 19 * co 0 l, b, c, d, e] := by simp [stl, hc]
  rw [hc] at hlt hv hV
  rw [es, h5] at *
  have ev : V [a + 19 * co 0 l, b, c, d, e] = V [a, b, c, d, e] + 19 * co 0 l := by simp only [V_cons]; omega
  simp only [List.length_cons, List.length_nil] at hV
  have hr : (2251799813685248 : Int) ^ 5 = 57896044618658097711785492504343953926634992332820282019728792003956564819968 := by decide
  have hr' : (2251799813685248 : Int) ^ (0 + 1 + 1 + 1 + 1 + 1) = 57896044618658097711785492504343953926634992332820282019728792003956564819968 := by decide
  rw [hr] at hv
  rw [hr'] at hV
  refine ⟨⟨rfl, ?_⟩, ?_, ?_, ?_, hb.1, hb.2⟩
  · intro x hx
    simp only [List.mem_cons, List.not_mem_nil, or_false] at hx hlt
    rcases hx with rfl | rfl | rfl | rfl | rfl
    · have := hlt a (by simp); omega
    all_goals (have := hlt x (by simp); omega)
  · rw [ev]; omega
  · rw [ev]; omega
  · rw [ev]; omega
end Go.Fld
