import Derived.Test.YtacofgmnmofkpaaMfaf
import Derived.Test.YtacofgmnmofkpaaMfae
namespace Go.Proofs.Ytacofgmnmofkpaa
set_option linter.unusedSimpArgs false
open Go.ChangeShapes Go.WideShapes Go.ChangeAt Go.RowKit Go.Pin Go.Fld
/-- boxes of keys and of Elements -/
structure Bs (w0 : World) (ks bx : List (Nat × List Int)) (W : World) : Prop where
  old : Below w0.heap.size w0 W
  keys : ∀ p ∈ ks, rowB W p.1 p.2 57
  rows : ∀ p ∈ bx, rowAt W p.1 p.2 47
theorem Bs.refl (w : World) : Bs w [] [] w := ⟨Below.refl _ _, by simp, by simp⟩
theorem Bs.below {w0 W W' : World} {ks bx : List (Nat × List Int)} (h : Bs w0 ks bx W) (hb : Below W.heap.size W W') : Bs w0 ks bx W' :=
  ⟨h.old.trans (hb.mono h.old.size), fun p hp => (hb.block _ (Array.getElem?_eq_some_iff.1 (h.keys p hp)).1).trans (h.keys p hp), fun p hp => row_below (h.rows p hp) hb⟩
theorem Bs.new {w0 W : World} {ks bx : List (Nat × List Int)} (h : Bs w0 ks bx W) (x : List Int) : Bs w0 ks ((W.heap.size, x) :: bx) (W.alloc (.cells (VI .u64 x) 47)) := by
  have hb := h.below ((Below.refl _ _).alloc (Nat.le_refl _) (.cells (VI .u64 x) 47))
  refine ⟨hb.old, hb.keys, fun p hp => ?_⟩
  rcases List.mem_cons.1 hp with rfl | hp
  · simp only [rowAt, heap_alloc_any, if_true]
  · exact hb.rows p hp
theorem Bs.newk {w0 W : World} {ks bx : List (Nat × List Int)} (h : Bs w0 ks bx W) (x : List Int) : Bs w0 ((W.heap.size, x) :: ks) bx (W.alloc (.cells (VI .u8 x) 57)) := by
  have hb := h.below ((Below.refl _ _).alloc (Nat.le_refl _) (.cells (VI .u8 x) 57))
  refine ⟨hb.old, fun p hp => ?_, hb.rows⟩
  rcases List.mem_cons.1 hp with rfl | hp
  · simp only [rowB, heap_alloc_any, if_true]
  · exact hb.keys p hp
theorem Bs.row {w0 W : World} {ks bx : List (Nat × List Int)} (h : Bs w0 ks bx W) {g : Nat} {x : List Int} (hp : (g, x) ∈ bx) : rowAt W g x 47 := h.rows _ hp
theorem Bs.key {w0 W : World} {ks bx : List (Nat × List Int)} (h : Bs w0 ks bx W) {g : Nat} {x : List Int} (hp : (g, x) ∈ ks) : rowB W g x 57 := h.keys _ hp
theorem Bs.lt {w0 W : World} {ks bx : List (Nat × List Int)} (h : Bs w0 ks bx W) {g : Nat} {x : List Int} (hp : (g, x) ∈ bx) : g < W.heap.size := (Array.getElem?_eq_some_iff.1 (h.row hp)).1
theorem Bs.ltk {w0 W : World} {ks bx : List (Nat × List Int)} (h : Bs w0 ks bx W) {g : Nat} {x : List Int} (hp : (g, x) ∈ ks) : g < W.heap.size := (Array.getElem?_eq_some_iff.1 (h.key hp)).1
theorem bs_start2 (w : World) (x y : List Int) : Bs w [(w.heap.size + 1, y), (w.heap.size, x)] [] ((w.alloc (.cells (VI .u8 x) 57)).alloc (.cells (VI .u8 y) 57)) := by
  have := ((Bs.refl w).newk x).newk y
  rw [size_alloc] at this
  exact this
theorem bs_start3 (w : World) (x y z : List Int) : Bs w [(w.heap.size + 2, z), (w.heap.size + 1, y), (w.heap.size, x)] [] (((w.alloc (.cells (VI .u8 x) 57)).alloc (.cells (VI .u8 y) 57)).alloc (.cells (VI .u8 z) 57)) := by
  have := (((Bs.refl w).newk x).newk y).newk z
  rw [size_alloc, size_alloc] at this
  exact this
theorem quietAt_load_row {P : Program} {C : World → Prop} {o : Oper} {a : Act} {Y : World} (ty : TypeId) (x : Operand) (ho : o.op = .load ty x) (g : Nat) (hx : a.eval x = .pointer (some ⟨g, 0, none⟩)) (t : TypeId) (cs : Array Value) (fr : Nat × Nat) (d : TypeDesc) (hg : Y.heap[g]? = some (.cells cs t fr))
    (hu : P.underlying ty = some d) (hd : (match d with | .struct _ | .array _ _ => true | _ => false) = true) (hi : (P.info? ty).map (·.size) = some cs.size) : o.quietAt P a C Y (.agg cs) := by
  unfold Oper.quietAt execOp
  simp only [ho, hx, Instr.loadAt, Instr.sureAddr, Sem.run_bind, Sem.run_pure, Result.andThen_ok, run_loadVar_row Y g t ty cs fr d hg hu hd hi]
  exact ⟨rfl, rfl⟩
/-! sums and products modulo P -/
theorem r_comm (a b : Nat) : (a + b) % P = (b + a) % P := by rw [Nat.add_comm]
theorem r_assoc (a b c : Nat) : ((a + b) % P + c) % P = (a + (b + c) % P) % P := by simp [Nat.add_assoc]
theorem r_sub (a b : Nat) (ha : a < P) (hb : b < P) : ((a + b) % P + (P - b)) % P = a := by unfold P at *; omega
theorem r_subadd (a b : Nat) (ha : a < P) (hb : b < P) : ((a + (P - b)) % P + b) % P = a := by unfold P at *; omega
theorem m_comm (a b : Nat) : a * b % P = b * a % P := by rw [Nat.mul_comm]
theorem m_assoc (a b c : Nat) : a * b % P * c % P = a * (b * c % P) % P := by simp [Nat.mul_assoc]
theorem m_dist (a b c : Nat) : a * ((b + c) % P) % P = (a * b % P + a * c % P) % P := by simp [Nat.mul_add]
theorem r_zero (a : Nat) (ha : a < P) : (a + 0) % P = a := Nat.mod_eq_of_lt ha
theorem m_one (a : Nat) (ha : a < P) : a * 1 % P = a := by rw [Nat.mul_one]; exact Nat.mod_eq_of_lt ha
theorem m_zero (a : Nat) : a * 0 % P = 0 := by simp
theorem r_self (a : Nat) (ha : a < P) : (a + (P - a)) % P = 0 := by unfold P at *; omega
theorem num_zero : num [0, 0, 0, 0, 0] = 0 := by decide
theorem nb_one : nb (kk 1) % 2 ^ 255 % P = 1 := by decide
/-- the four bytes of a number -/
def b4 (n : Int) : List Int := [n % 256, n / 256 % 256, n / 65536 % 256, n / 16777216, 0, 0, 0, 0, 0, 0, 0, 0, 0, 0, 0, 0, 0, 0, 0, 0, 0, 0, 0, 0, 0, 0, 0, 0, 0, 0, 0, 0]
theorem b4_bts (n : Nat) (hn : n < 4294967296) : b4 (n : Int) = bts n := by
  have h : ∀ i, 4 ≤ i → n >>> (8 * i) % 256 = 0 := fun i hi => by
    rw [Nat.shiftRight_eq_div_pow, Nat.div_eq_of_lt]
    exact Nat.lt_of_lt_of_le (show n < 2 ^ 32 from hn) (Nat.pow_le_pow_right (by decide) (by omega))
  apply List.ext_getElem
  · simp [b4]
  · intro i h1 h2
    rw [bts_at _ _ (by simpa using h2)]
    by_cases hi : 4 ≤ i
    · rw [h i hi]
      have h3 : i < 32 := by simpa using h2
      have hs : b4 (n : Int) = [(n : Int) % 256, (n : Int) / 256 % 256, (n : Int) / 65536 % 256, (n : Int) / 16777216] ++ List.replicate 28 0 := rfl
      simp only [hs]
      rw [List.getElem_append_right (by simpa using hi), List.getElem_replicate]
      rfl
    · have h4 : i = 0 ∨ i = 1 ∨ i = 2 ∨ i = 3 := by omega
      rcases h4 with rfl | rfl | rfl | rfl
      · show (n : Int) % 256 = _; rw [Nat.shiftRight_eq_div_pow]; omega
      · show (n : Int) / 256 % 256 = _; rw [Nat.shiftRight_eq_div_pow]; omega
      · show (n : Int) / 65536 % 256 = _; rw [Nat.shiftRight_eq_div_pow]; omega
      · show (n : Int) / 16777216 = _; rw [Nat.shiftRight_eq_div_pow]; omega
theorem b4_key (n : Nat) (hn : n < 4294967296) : Key32 (b4 n) := by rw [b4_bts n hn]; exact ⟨bts_len n, bts_bd n⟩
theorem nb_b4 (n : Nat) (hn : n < 4294967296) : nb (b4 n) % 2 ^ 255 % P = n := by
  rw [b4_bts n hn, nb_bts n (Nat.lt_trans hn (by decide)), Nat.mod_eq_of_lt (Nat.lt_trans hn (by decide)), Nat.mod_eq_of_lt (Nat.lt_trans hn (by decide))]
end Go.Proofs.Ytacofgmnmofkpaa
namespace Go.Fld
/-! the document's numbers: sixteen digits of 16 binary digits -/
def D : List Int → Int
  | [] => 0
  | x :: l => x + 65536 * D l
theorem D_cons (x : Int) (l : List Int) : D (x :: l) = x + 65536 * D l := rfl
def cz : Int → List Int → List Int
  | _, [] => []
  | o, x :: l => (x + o) % 65536 :: cz ((x + o) / 65536) l
def zo : Int → List Int → Int
  | o, [] => o
  | o, x :: l => zo ((x + o) / 65536) l
@[simp] theorem cz_len : ∀ (l : List Int) (o : Int), (cz o l).length = l.length
  | [], _ => rfl
  | _ :: l, _ => by simp [cz, cz_len l]
theorem cz_D : ∀ (l : List Int) (o : Int), D (cz o l) + 65536 ^ l.length * zo o l = D l + o
  | [], o => by simp [D, cz, zo]
  | x :: l, o => by
    have ih := cz_D l ((x + o) / 65536)
    simp only [cz, zo, D, List.length_cons]
    have hd := Int.emod_add_mul_ediv (x + o) 65536
    rw [Int.pow_succ]
    have e : (x + o) % 65536 + 65536 * D (cz ((x + o) / 65536) l) + 65536 ^ l.length * 65536 * zo ((x + o) / 65536) l = (x + o) % 65536 + 65536 * (D (cz ((x + o) / 65536) l) + 65536 ^ l.length * zo ((x + o) / 65536) l) := by grind
    rw [e, ih]
    grind
theorem cz_lt : ∀ (l : List Int) (o : Int), ∀ x ∈ cz o l, 0 ≤ x ∧ x < 65536
  | [], _ => by simp [cz]
  | y :: l, o => by
    intro x hx
    rw [cz, List.mem_cons] at hx
    rcases hx with rfl | hx
    · omega
    · exact cz_lt l _ x hx
theorem zo_bd : ∀ (l : List Int) (o B : Int), 0 ≤ o → o ≤ B → (∀ x ∈ l, 0 ≤ x ∧ x + B < 65536 * (B + 1)) → 0 ≤ zo o l ∧ zo o l ≤ B
  | [], o, B, h0, h1, _ => ⟨h0, h1⟩
  | x :: l, o, B, h0, h1, h => by
    have hx := h x (by simp)
    rw [zo]
    refine zo_bd l _ B (by omega) ?_ (fun y hy => h y (by simp [hy]))
    have : (x + o) / 65536 < B + 1 := Int.ediv_lt_of_lt_mul (by decide) (by rw [Int.mul_comm]; omega)
    omega
theorem D_app : ∀ (a b : List Int), D (a ++ b) = D a + 65536 ^ a.length * D b
  | [], b => by simp [D]
  | x :: a, b => by
    have := D_app a b
    simp only [List.cons_append, D, this, List.length_cons, Int.pow_succ]
    grind
theorem D_lt : ∀ (l : List Int), (∀ x ∈ l, 0 ≤ x ∧ x < 65536) → 0 ≤ D l ∧ D l < 65536 ^ l.length
  | [], _ => by simp [D]
  | x :: l, h => by
    have ih := D_lt l (fun y hy => h y (by simp [hy]))
    have hx := h x (by simp)
    rw [D, List.length_cons, Int.pow_succ]
    generalize (65536 : Int) ^ l.length = R at *
    omega
/-- carried -/
def car (t : List Int) : List Int := cz 0 (t.take 15) ++ [(t.getD 15 0 + zo 0 (t.take 15)) % 32768]
def cout (t : List Int) : Int := (t.getD 15 0 + zo 0 (t.take 15)) / 32768
/-- digits in their bounds -/
structure Dig (t : List Int) : Prop where
  len : t.length = 16
  bd : ∀ x ∈ t, 0 ≤ x ∧ x < 65536
  top : t.getD 15 0 < 32768
/-- digits that have grown -/
structure Big (t : List Int) : Prop where
  len : t.length = 16
  bd : ∀ x ∈ t, 0 ≤ x ∧ x < 1125899906842624
theorem split16 {t : List Int} (h : t.length = 16) : t = t.take 15 ++ [t.getD 15 0] := by
  conv => lhs; rw [← List.take_append_drop 15 t]
  congr 1
  rw [List.drop_eq_getElem_cons (by omega), List.drop_of_length_le (by omega), List.getD_eq_getElem?_getD, List.getElem?_eq_getElem (by omega)]
  rfl
theorem getD_mem {t : List Int} {i : Nat} (h : i < t.length) : t.getD i 0 ∈ t := by
  rw [List.getD_eq_getElem?_getD, List.getElem?_eq_getElem h]; exact List.getElem_mem h
theorem car_facts {t : List Int} (h : Big t) : Dig (car t) ∧ D (car t) + 57896044618658097711785492504343953926634992332820282019728792003956564819968 * cout t = D t ∧ 0 ≤ cout t ∧ cout t ≤ 1099511627776 ∧ 0 ≤ zo 0 (t.take 15) ∧ zo 0 (t.take 15) ≤ 1099511627776 := by
  have hl : (t.take 15).length = 15 := by simp [h.len]
  have hz := zo_bd (t.take 15) 0 1099511627776 (by decide) (by decide) (fun x hx => by have := h.bd x (List.mem_of_mem_take hx); omega)
  have hv := cz_D (t.take 15) 0
  have ht := h.bd _ (getD_mem (t := t) (i := 15) (by rw [h.len]; decide))
  have hs := split16 h.len
  have hD : D t = D (t.take 15) + 65536 ^ 15 * D [t.getD 15 0] := by
    conv => lhs; rw [hs]
    rw [D_app, hl]
  rw [hl] at hv
  have e1 : D [t.getD 15 0] = t.getD 15 0 := by simp [D]
  rw [e1] at hD
  have hc : D (car t) = D (cz 0 (t.take 15)) + 65536 ^ 15 * ((t.getD 15 0 + zo 0 (t.take 15)) % 32768) := by
    rw [car, D_app, cz_len, hl]; simp [D]
  have e15 : (65536 : Int) ^ 15 = 1766847064778384329583297500742918515827483896875618958121606201292619776 := by decide
  rw [e15] at hv hD hc
  refine ⟨⟨by simp [car, h.len], fun x hx => ?_, ?_⟩, ?_, ?_, ?_, hz.1, hz.2⟩
  · rw [car, List.mem_append] at hx
    rcases hx with hx | hx
    · exact cz_lt _ _ x hx
    · rw [List.mem_singleton] at hx; omega
  · have : (car t).getD 15 0 = (t.getD 15 0 + zo 0 (t.take 15)) % 32768 := by
      rw [car, List.getD_eq_getElem?_getD, List.getElem?_append_right (by simp [h.len])]
      simp [h.len]
    rw [this]; omega
  · rw [hc, cout]; omega
  · rw [cout]; omega
  · rw [cout]; omega
theorem Dig.lt {t : List Int} (h : Dig t) : 0 ≤ D t ∧ D t < 57896044618658097711785492504343953926634992332820282019728792003956564819968 := by
  have hs := split16 h.len
  have hl : (t.take 15).length = 15 := by simp [h.len]
  have h1 := D_lt (t.take 15) (fun x hx => h.bd x (List.mem_of_mem_take hx))
  have ht := h.bd _ (getD_mem (t := t) (i := 15) (by rw [h.len]; decide))
  have htop := h.top
  have hD : D t = D (t.take 15) + 65536 ^ 15 * D [t.getD 15 0] := by
    conv => lhs; rw [hs]
    rw [D_app, hl]
  have e1 : D [t.getD 15 0] = t.getD 15 0 := by simp [D]
  have e15 : (65536 : Int) ^ 15 = 1766847064778384329583297500742918515827483896875618958121606201292619776 := by decide
  rw [e1, e15] at hD
  rw [hl, e15] at h1
  omega
theorem Dig.big {t : List Int} (h : Dig t) {c : Int} (c0 : 0 ≤ c) (c1 : c ≤ 1099511627776) : Big (t.set 0 (t.getD 0 0 + 19 * c)) ∧ D (t.set 0 (t.getD 0 0 + 19 * c)) = D t + 19 * c := by
  have h0 := h.bd _ (getD_mem (t := t) (i := 0) (by rw [h.len]; decide))
  refine ⟨⟨by simp [h.len], fun x hx => ?_⟩, ?_⟩
  · rcases List.mem_or_eq_of_mem_set hx with hx | rfl
    · have := h.bd x hx; omega
    · omega
  · cases t with
    | nil => have := h.len; simp at this
    | cons x t => simp only [List.set_cons_zero, List.getD_cons_zero, D_cons]; omega
/-- the digits of a number -/
def dg (n : Nat) : List Int := (List.range 16).map fun i => ((n >>> (16 * i) % 65536 : Nat) : Int)
@[simp] theorem dg_len (n : Nat) : (dg n).length = 16 := by simp [dg]
theorem dg_at (n i : Nat) (h : i < 16) : (dg n).getD i 0 = ((n >>> (16 * i) % 65536 : Nat) : Int) := by
  rw [List.getD_eq_getElem?_getD, List.getElem?_eq_getElem (by simpa using h)]; simp [dg]
theorem D_digit : ∀ (t : List Int), (∀ x ∈ t, 0 ≤ x ∧ x < 65536) → ∀ i, i < t.length → t.getD i 0 = D t / 65536 ^ i % 65536
  | [], _, i, hi => by simp at hi
  | x :: t, h, 0, _ => by
    have hx := h x (by simp)
    simp only [List.getD_cons_zero, D_cons, Int.pow_zero]
    omega
  | x :: t, h, i + 1, hi => by
    have hx := h x (by simp)
    have ih := D_digit t (fun y hy => h y (by simp [hy])) i (by simpa using hi)
    rw [List.getD_cons_succ, ih, D_cons, Int.pow_succ, Int.mul_comm (65536 ^ i) 65536, ← Int.ediv_ediv_of_nonneg (by decide)]
    congr 2
    omega
theorem Dig.eq {t : List Int} (h : Dig t) : t = dg (D t).toNat := by
  have hlt := h.lt
  apply List.ext_getElem
  · simp [h.len]
  · intro i h1 h2
    have hd := D_digit t h.bd i h1
    have hg := dg_at (D t).toNat i (by simpa using h2)
    rw [List.getD_eq_getElem?_getD, List.getElem?_eq_getElem h1, Option.getD_some] at hd
    rw [List.getD_eq_getElem?_getD, List.getElem?_eq_getElem h2, Option.getD_some] at hg
    rw [hd, hg, Nat.shiftRight_eq_div_pow, Nat.pow_mul, show (2 : Nat) ^ 16 = 65536 by decide]
    have : ((D t).toNat : Int) = D t := by omega
    rw [Int.natCast_emod, Int.natCast_ediv, this]
    simp
theorem Dig.of {n : Nat} (hn : n < 57896044618658097711785492504343953926634992332820282019728792003956564819968) : Dig (dg n) ∧ D (dg n) = n := by
  have key : ∀ (k m : Nat), m < 65536 ^ k → D ((List.range k).map fun i => ((m >>> (16 * i) % 65536 : Nat) : Int)) = m := by
    intro k
    induction k with
    | zero => intro m hm; simp at hm; simp [D, hm]
    | succ k ih =>
      intro m hm
      have e : ((List.range (k + 1)).map fun i => ((m >>> (16 * i) % 65536 : Nat) : Int)) = ((m % 65536 : Nat) : Int) :: ((List.range k).map fun i => (((m / 65536) >>> (16 * i) % 65536 : Nat) : Int)) := by
        rw [List.range_succ_eq_map, List.map_cons, List.map_map]
        congr 1
        apply List.map_congr_left
        intro i _
        simp only [Function.comp]
        rw [Nat.shiftRight_eq_div_pow, Nat.shiftRight_eq_div_pow, Nat.div_div_eq_div_mul, show 16 * i.succ = 16 + 16 * i by omega, Nat.pow_add]
      rw [e, D_cons, ih (m / 65536) (by rw [Nat.pow_succ] at hm; omega)]
      omega
  refine ⟨⟨dg_len n, fun x hx => ?_, ?_⟩, key 16 n (Nat.lt_trans hn (by decide))⟩
  · simp only [dg, List.mem_map] at hx
    obtain ⟨i, _, rfl⟩ := hx
    omega
  · rw [dg_at n 15 (by decide), Nat.shiftRight_eq_div_pow]
    omega
/-- the digits of the prime -/
def pd : List Int := [65517, 65535, 65535, 65535, 65535, 65535, 65535, 65535, 65535, 65535, 65535, 65535, 65535, 65535, 65535, 32767]
theorem pd_D : D pd = 57896044618658097711785492504343953926634992332820282019728792003956564819949 := by decide
/-- a number of p or above, below 2^255 -/
theorem Dig.less {t : List Int} (h : Dig t) (hp : 57896044618658097711785492504343953926634992332820282019728792003956564819949 ≤ D t) : dg ((D t).toNat % P) = (t.getD 0 0 - 65517) :: List.replicate 15 0 := by
  have hlt := h.lt
  have h0 := D_digit t h.bd 0 (by rw [h.len]; decide)
  rw [Int.pow_zero, Int.ediv_one] at h0
  have hP : (D t).toNat % P = (D t).toNat - 57896044618658097711785492504343953926634992332820282019728792003956564819949 := by
    have e : P = 57896044618658097711785492504343953926634992332820282019728792003956564819949 := rfl
    rw [e]
    omega
  have hsm : (D t).toNat - 57896044618658097711785492504343953926634992332820282019728792003956564819949 < 19 := by omega
  rw [hP]
  have e0 : t.getD 0 0 - 65517 = (((D t).toNat - 57896044618658097711785492504343953926634992332820282019728792003956564819949 : Nat) : Int) := by rw [h0]; omega
  rw [e0]
  have : ∀ m : Nat, m < 19 → dg m = (m : Int) :: List.replicate 15 0 := by decide
  exact this _ hsm
end Go.Fld
namespace Go.Proofs.Ytacofgmnmofkpaa
set_option linter.unusedSimpArgs false
open Go.ChangeShapes Go.WideShapes Go.ChangeAt Go.RowKit Go.Pin Go.Fld
theorem infoN : (Try.prog.info? 50).map (·.size) = some 16 := by kernel_rfl
theorem infoI16 : (Try.prog.info? 49).map (·.size) = some 16 := by kernel_rfl
theorem info16 {t : List Int} (h : t.length = 16) : (Try.prog.info? 49).map (·.size) = some (VI .i64 t).size := by rw [VI_size, h]; exact infoI16
theorem infoN16 {t : List Int} (h : t.length = 16) : (Try.prog.info? 50).map (·.size) = some (VI .i64 t).size := by rw [VI_size, h]; exact infoN
abbrev rowI (w : World) (g : Nat) (l : List Int) (T : TypeId) : Prop := w.heap[g]? = some (.cells (VI .i64 l) T (0, 0))
theorem rowI_cell {w : World} {g : Nat} {l : List Int} {T : TypeId} (h : rowI w g l T) {i : Nat} (hi : i < l.length) : w.cell? ⟨g, i, none⟩ = some (.int .i64 (l.getD i 0)) := by
  rw [cell_of_row w _ _ _ _ _ h, VI_at _ _ _ hi]
theorem rowI_set {w : World} {g : Nat} {l : List Int} {T : TypeId} (h : rowI w g l T) (i : Nat) (v : Int) : rowI (w.setCell ⟨g, i, none⟩ (.int .i64 v)) g (l.set i v) T := by
  unfold rowI
  rw [heap_setCell_same w _ _ _ _ _ h, VI_set]
theorem mask16 (n : Int) : bits .and .i64 n 65535 = n % 65536 := by
  have h127 : (BitVec.ofInt 64 65535).toNat = 2 ^ 16 - 1 := by decide
  have key : (BitVec.ofInt 64 n &&& BitVec.ofInt 64 65535).toNat = (n % ((2 ^ 64 : Nat) : Int)).toNat % 2 ^ 16 := by
    rw [BitVec.toNat_and, BitVec.toNat_ofInt, h127, Nat.and_two_pow_sub_one_eq_mod]
  show IntKind.i64.wrap ((BitVec.ofInt 64 n &&& BitVec.ofInt 64 65535).toNat : Nat) = n % 65536
  rw [key, IntKind.wrap_i64]
  omega
theorem mask15 (n : Int) : bits .and .i64 n 32767 = n % 32768 := by
  have h127 : (BitVec.ofInt 64 32767).toNat = 2 ^ 15 - 1 := by decide
  have key : (BitVec.ofInt 64 n &&& BitVec.ofInt 64 32767).toNat = (n % ((2 ^ 64 : Nat) : Int)).toNat % 2 ^ 15 := by
    rw [BitVec.toNat_and, BitVec.toNat_ofInt, h127, Nat.and_two_pow_sub_one_eq_mod]
  show IntKind.i64.wrap ((BitVec.ofInt 64 n &&& BitVec.ofInt 64 32767).toNat : Nat) = n % 32768
  rw [key, IntKind.wrap_i64]
  omega
set_option maxHeartbeats 400000 in
theorem prime_any (i : Nat) (hi : i < 16) (w : World) : Calls Try.prog 58 #[.int .i64 (i : Int)] w fun e w' => e = .returned (.int .i64 (pd.getD i 0)) ∧ w' = w := by
  have h16 : i = 0 ∨ i = 1 ∨ i = 2 ∨ i = 3 ∨ i = 4 ∨ i = 5 ∨ i = 6 ∨ i = 7 ∨ i = 8 ∨ i = 9 ∨ i = 10 ∨ i = 11 ∨ i = 12 ∨ i = 13 ∨ i = 14 ∨ i = 15 := by omega
  by_cases h0 : i = 0
  · subst h0
    go_enter Try.func58, Try.ntmps58
    go_wp2
    go_ret
    exact ⟨rfl, rfl⟩
  · by_cases h15 : i = 15
    · subst h15
      go_enter Try.func58, Try.ntmps58
      go_wp2
      go_ret
      exact ⟨rfl, rfl⟩
    · have e : pd.getD i 0 = 65535 := by
        rcases h16 with rfl | rfl | rfl | rfl | rfl | rfl | rfl | rfl | rfl | rfl | rfl | rfl | rfl | rfl | rfl | rfl <;> first | rfl | omega
      rw [e]
      have h0' : ¬ ((i : Int) = 0) := by omega
      have h15' : ¬ ((i : Int) = 15) := by omega
      clear h16 e
      go_enter Try.func58, Try.ntmps58
      go_wp2
      go_ret
      exact ⟨rfl, rfl⟩
theorem results_cell_tmp {P : Program} {fn : Func} {p q : Tmp} {ty : TypeId} (h : fn.results = #[.cell p ty, .tmp q]) (tmps : Array Value) (w : World) (g : Nat) (t : TypeId) (cs : Array Value) (fr : Nat × Nat) (d : TypeDesc) (v : Value)
    (hp : tmps.getD p undef = .pointer (some ⟨g, 0, none⟩)) (hq : tmps.getD q undef = v) (hg : w.heap[g]? = some (.cells cs t fr))
    (hu : P.underlying ty = some d) (hd : (match d with | .struct _ | .array _ _ => true | _ => false) = true) (hi : (P.info? ty).map (·.size) = some cs.size) :
    (results fn tmps).run P w = .ok (.tuple #[.agg cs, v]) w := by
  have hp' : tmps[p]?.getD undef = .pointer (some ⟨g, 0, none⟩) := by simpa using hp
  have hq' : tmps[q]?.getD undef = v := by simpa using hq
  simp [results, h, hp', hq', asAddr, run_loadVar_row w g t ty cs fr d hg hu hd hi]
/-- carried's boxes -/
structure CWx (n : Nat) (w : World) (t : List Int) (wr : World) : Prop where
  old : Below n w wr
  ht : rowI wr n t 49
  hr : rowI wr (n + 1) (List.replicate 16 0) 49
theorem CWx.set {n : Nat} {w wr : World} {t : List Int} (h : CWx n w t wr) (i : Nat) (v : Int) : CWx n w (t.set i v) (wr.setCell ⟨n, i, none⟩ (.int .i64 v)) :=
  ⟨h.old.setCell (by simp) _, rowI_set h.ht _ _, row_other h.hr (by simp) _⟩
theorem cwx_start (w : World) (t : List Int) : CWx w.heap.size w t ((w.alloc (.cells (VI .i64 t) 49)).alloc (.cells (VI .i64 (List.replicate 16 0)) 49)) := by
  refine ⟨((Below.refl _ _).alloc (Nat.le_refl _) _).alloc (by simp) _, ?_, ?_⟩
  all_goals simp only [rowI, heap_alloc_any, size_alloc]
  · rw [if_neg (by omega), if_pos trivial]
  · rw [if_pos trivial]
set_option maxRecDepth 100000 in
set_option maxHeartbeats 2000000 in
theorem carried_any (t : List Int) (ht : Big t) (w : World) :
    Calls Try.prog 65 #[.agg (VI .i64 t)] w fun e w' => e = .returned (.tuple #[.agg (VI .i64 (car t)), .int .i64 (cout t)]) ∧ Below w.heap.size w w' := by
  obtain ⟨hdg, _, o0, o1, z0, z1⟩ := car_facts ht
  have hl15 : (t.take 15).length = 15 := by simp [ht.len]
  have HT : Hid (Big t) := ht
  have HDG : Hid (Dig (car t)) := hdg
  have hst := cwx_start w t
  obtain ⟨W, hW⟩ : ∃ W, (w.alloc (.cells (VI .i64 t) 49)).alloc (.cells (VI .i64 (List.replicate 16 0)) 49) = W := ⟨_, rfl⟩
  rw [hW] at hst
  have hW' : (w.alloc (.cells (VI .i64 t) 49)).alloc (.cells #[.int .i64 0, .int .i64 0, .int .i64 0, .int .i64 0, .int .i64 0, .int .i64 0, .int .i64 0, .int .i64 0, .int .i64 0, .int .i64 0, .int .i64 0, .int .i64 0, .int .i64 0, .int .i64 0, .int .i64 0, .int .i64 0] 49) = W := hW
  have HST : Hid (CWx w.heap.size w t W) := hst
  have hsp := split16 ht.len
  have hd15 := ht.bd _ (getD_mem (t := t) (i := 15) (by rw [ht.len]; decide))
  obtain ⟨y, hy⟩ : ∃ y, t.getD 15 0 = y := ⟨_, rfl⟩
  rw [hy] at hsp hd15
  have HSP : Hid (t = t.take 15 ++ [y]) := hsp
  have HY : Hid (t.getD 15 0 = y) := hy
  clear hW hst ht hdg hsp hy
  go_enter Try.func65, Try.ntmps65
  go_wp2
  go_loopw [4, 5] (fun o i w' => ∃ (d r : List Int) (c : Int), i = .int .i64 (d.length : Nat) ∧ o = .int .i64 c ∧ 0 ≤ c ∧ c ≤ 1099511627776 ∧ d.length + r.length = 15 ∧ (∀ x ∈ r, 0 ≤ x ∧ x < 1125899906842624) ∧ cz 0 (t.take 15) = d ++ cz c r ∧ zo 0 (t.take 15) = zo c r ∧ CWx w.heap.size w (d ++ r ++ [y]) w') (fun _ i _ => 15 - (intOf i).toNat)
  case atStart =>
    exact ⟨[], t.take 15, 0, rfl, rfl, by decide, by decide, by simpa using hl15, fun x hx => HT.out.bd x (List.mem_of_mem_take hx), rfl, rfl, by rw [List.nil_append, ← HSP.out]; exact HST.out⟩
  case round =>
    clear HST hW'
    obtain ⟨d, r, c, rfl, rfl, c0, c1, hl, hr, hcz, hzo, hp⟩ := hrel
    cases r with
    | cons x r =>
      obtain ⟨x0, x1⟩ := hr x (by simp)
      have hcell := rowI_cell hp.ht (i := d.length) (by simp)
      rw [show (d ++ x :: r ++ [y]).getD d.length 0 = x by simp] at hcell
      have hfr : wr.frozen? ⟨w.heap.size, d.length, none⟩ = false := frozen_of_row wr _ _ _ _ hp.ht
      have hlt : d.length < 15 := by simp at hl; omega
      have hm := mask16 (x + c)
      have hset := hp.set d.length ((x + c) % 65536)
      rw [show (d ++ x :: r ++ [y]).set d.length ((x + c) % 65536) = d ++ [(x + c) % 65536] ++ r ++ [y] by simp] at hset
      have HS : Hid (CWx w.heap.size w (d ++ [(x + c) % 65536] ++ r ++ [y]) (wr.setCell ⟨w.heap.size, d.length, none⟩ (.int .i64 ((x + c) % 65536)))) := hset
      have HR : Hid (∀ y ∈ x :: r, 0 ≤ y ∧ y < 1125899906842624) := hr
      have H1 : Hid (cz 0 (t.take 15) = d ++ cz c (x :: r)) := hcz
      have H2 : Hid (zo 0 (t.take 15) = zo c (x :: r)) := hzo
      have HL : Hid (d.length + (x :: r).length = 15) := hl
      clear hr hcz hzo hl hp hset
      go_wp2
      go_roundw
      case rel =>
        exact ⟨d ++ [(x + c) % 65536], r, (x + c) / 65536, by simp, rfl, by omega, by omega, by have := HL.out; simp at this ⊢; omega, fun y hy => HR.out y (by simp [hy]), by rw [H1.out]; simp [cz], H2.out, HS.out⟩
      case measure => simp [intOf]; omega
    | nil =>
      have hd : d.length = 15 := by simpa using hl
      have hdi : ((d.length : Nat) : Int) = 15 := by omega
      have e1 : cz 0 (t.take 15) = d := by rw [hcz]; exact List.append_nil d
      have e2 : zo 0 (t.take 15) = c := hzo
      rw [List.append_nil] at hp
      have hcell := rowI_cell hp.ht (i := 15) (by simp [hd])
      rw [show (d ++ [y]).getD 15 0 = y by rw [List.getD_eq_getElem?_getD, List.getElem?_append_right (by omega)]; simp [hd]] at hcell
      have hfr : wr.frozen? ⟨w.heap.size, 15, none⟩ = false := frozen_of_row wr _ _ _ _ hp.ht
      have hm := mask15 (y + c)
      have hset := hp.set 15 ((y + c) % 32768)
      have ec : car t = d ++ [(y + c) % 32768] := by rw [car, e1, e2, HY.out]
      rw [show (d ++ [y]).set 15 ((y + c) % 32768) = d ++ [(y + c) % 32768] by rw [← hd]; simp, ← ec] at hset
      have HS : Hid (CWx w.heap.size w (car t) (wr.setCell ⟨w.heap.size, 15, none⟩ (.int .i64 ((y + c) % 32768)))) := hset
      have HO : Hid (cout t = (y + c) / 32768) := by
        have : cout t = (y + c) / 32768 := by rw [cout, e2, HY.out]
        exact this
      have HSZ : Hid ((VI .i64 (List.replicate 16 0)).size = (VI .i64 (car t)).size) := by
        have : (VI .i64 (List.replicate 16 0)).size = (VI .i64 (car t)).size := by rw [VI_size, VI_size, HDG.out.len, List.length_replicate]
        exact this
      clear hr hcz hzo hl hp hset e1 e2 ec
      go_wp2_with (with_reducible refine at_list ?_; first | (refine wpList_load_row rfl 49 (.tmp 1) rfl w.heap.size rfl 49 (VI .i64 (car t)) (0, 0) _ HS.out.ht Try.underlying49 rfl (info16 HDG.out.len) ?_) | (refine wpList_store_row rfl 49 (.tmp 2) (.tmp 30) rfl (w.heap.size + 1) (VI .i64 (car t)) rfl rfl 49 (VI .i64 (List.replicate 16 0)) HS.out.hr (info16 HDG.out.len) HSZ.out (VI_one _ _) ?_))
      refine bodyPost_ret (v := .tuple #[.agg (VI .i64 (car t)), .int .i64 ((y + c) / 32768)]) ?_ rfl ⟨by rw [HO.out], below_setRow HS.out.old _ (by omega) _⟩
      exact results_cell_tmp (P := Try.prog) (fn := Try.f65) (p := 2) (q := 3) (ty := 49) rfl _ _ (w.heap.size + 1) 49 (VI .i64 (car t)) (0, 0) _ _ rfl rfl (setRow_heap _ _ _ _ 49 _ HS.out.hr) Try.underlying49 rfl (info16 HDG.out.len)
end Go.Proofs.Ytacofgmnmofkpaa
namespace Go.Proofs.Ytacofgmnmofkpaa
set_option linter.unusedSimpArgs false
open Go.ChangeShapes Go.WideShapes Go.ChangeAt Go.RowKit Go.Pin Go.Fld
theorem lex : ∀ (t s : List Int), t.length = s.length → (∀ x ∈ t, 0 ≤ x ∧ x < 65536) → (∀ x ∈ s, 0 ≤ x ∧ x < 65536) → ∀ j, j < t.length → t.drop (j + 1) = s.drop (j + 1) → t.getD j 0 < s.getD j 0 → D t < D s
  | [], _, _, _, _, j, hj, _, _ => by simp at hj
  | _ :: _, [], h, _, _, _, _, _, _ => by simp at h
  | x :: t, y :: s, _, _, _, 0, _, hd, hl => by
    simp only [List.drop_succ_cons, List.drop_zero] at hd
    subst hd
    simp only [List.getD_cons_zero] at hl
    simp only [D_cons]
    omega
  | x :: t, y :: s, h, ht, hs, j + 1, hj, hd, hl => by
    have ih := lex t s (by simpa using h) (fun z hz => ht z (by simp [hz])) (fun z hz => hs z (by simp [hz])) j (by simpa using hj) (by simpa using hd) (by simpa using hl)
    have hx := ht x (by simp)
    have hy := hs y (by simp)
    simp only [D_cons]
    omega
theorem pd_bd : ∀ x ∈ pd, 0 ≤ x ∧ x < 65536 := by decide
theorem bel_of {t : List Int} (h : Dig t) {j : Nat} (hj : j < 16) (hd : t.drop (j + 1) = pd.drop (j + 1)) (hn : t.getD j 0 ≠ pd.getD j 0) : decide (D t < 57896044618658097711785492504343953926634992332820282019728792003956564819949) = decide (t.getD j 0 < pd.getD j 0) := by
  have hl : t.length = pd.length := h.len
  rw [← pd_D]
  by_cases hlt : t.getD j 0 < pd.getD j 0
  · have := lex t pd hl h.bd pd_bd j (by rw [h.len]; exact hj) hd hlt
    simp [this, hlt]
    rw [← List.getD_eq_getElem?_getD, ← List.getD_eq_getElem?_getD]; exact hlt
  · have := lex pd t hl.symm pd_bd h.bd j hj hd.symm (by omega)
    have h2 : ¬ D t < D pd := by omega
    simp [h2]
    rw [← List.getD_eq_getElem?_getD, ← List.getD_eq_getElem?_getD]; omega
theorem drop_step {t : List Int} (hl : t.length = 16) {j : Nat} (hj : j < 16) (hd : t.drop (j + 1) = pd.drop (j + 1)) (he : t.getD j 0 = pd.getD j 0) : t.drop j = pd.drop j := by
  have e1 := List.drop_eq_getElem_cons (l := t) (i := j) (by omega)
  have e2 := List.drop_eq_getElem_cons (l := pd) (i := j) hj
  rw [List.getD_eq_getElem?_getD, List.getElem?_eq_getElem (by omega), List.getD_eq_getElem?_getD, List.getElem?_eq_getElem (show j < pd.length from hj), Option.getD_some, Option.getD_some] at he
  rw [e1, e2, hd, he]
  rfl
set_option maxRecDepth 100000 in
set_option maxHeartbeats 2000000 in
theorem below_any (t : List Int) (ht : Dig t) (w : World) :
    Calls Try.prog 66 #[.agg (VI .i64 t)] w fun e w' => e = .returned (.bool (decide (D t < 57896044618658097711785492504343953926634992332820282019728792003956564819949))) ∧ Below w.heap.size w w' := by
  have HT : Hid (Dig t) := ht
  have hr : rowI (w.alloc (.cells (VI .i64 t) 49)) w.heap.size t 49 := by simp only [rowI, heap_alloc_any, if_true]
  have hbw : Below w.heap.size w (w.alloc (.cells (VI .i64 t) 49)) := (Below.refl _ _).alloc (Nat.le_refl _) _
  obtain ⟨W, hW⟩ : ∃ W, w.alloc (.cells (VI .i64 t) 49) = W := ⟨_, rfl⟩
  rw [hW] at hr hbw
  have HR : Hid (rowI W w.heap.size t 49) := hr
  have HB : Hid (Below w.heap.size w W) := hbw
  have hlW : w.heap.size < W.heap.size := (Array.getElem?_eq_some_iff.1 hr).1
  have HLW : Hid (w.heap.size < W.heap.size) := hlW
  clear hr hbw ht hlW
  go_enter Try.func66, Try.ntmps66
  go_wp2
  go_loopw [3] (fun i w' => ∃ k : Nat, k ≤ 16 ∧ i = .int .i64 ((k : Int) - 1) ∧ t.drop k = pd.drop k ∧ Below W.heap.size W w') (fun i _ => (intOf i + 1).toNat)
  case atStart => exact ⟨16, Nat.le_refl _, rfl, by rw [List.drop_of_length_le (by rw [HT.out.len]; omega)]; rfl, Below.refl _ _⟩
  case round =>
    clear hW
    obtain ⟨k, hk, rfl, hd, hp⟩ := hrel
    have HP : Hid (Below W.heap.size W wr) := hp
    clear hp
    by_cases hk0 : k = 0
    · subst hk0
      have hD : D t = 57896044618658097711785492504343953926634992332820282019728792003956564819949 := by
        have : t = pd := by simpa using hd
        rw [this]; exact pd_D
      have HDD : Hid (decide (D t < 57896044618658097711785492504343953926634992332820282019728792003956564819949) = false) := by
        have : decide (D t < 57896044618658097711785492504343953926634992332820282019728792003956564819949) = false := by rw [hD]; decide
        exact this
      clear hd hD
      go_wp2
      go_ret
      exact ⟨by rw [HDD.out]; rfl, HB.out.trans (HP.out.mono HB.out.size)⟩
    · obtain ⟨j, rfl⟩ : ∃ j, k = j + 1 := ⟨k - 1, by omega⟩
      have hj : j < 16 := by omega
      have hj' : ((j + 1 : Nat) : Int) - 1 = (j : Int) := by omega
      have hjl : j < t.length := by rw [HT.out.len]; exact hj
      rw [hj']
      have hj16 : (j : Int) < 16 := by omega
      have hj0 : (0 : Int) ≤ j := by omega
      have HC : Hid (∀ Y, Below W.heap.size W Y → Y.cell? ⟨w.heap.size, j, none⟩ = some (.int .i64 (t.getD j 0))) := fun Y hY => (hY.cell (p := ⟨w.heap.size, j, none⟩) HLW.out).trans (rowI_cell HR.out hjl)
      have HPR : Hid (∀ w, Calls Try.prog 58 #[.int .i64 (j : Int)] w fun e w' => e = .returned (.int .i64 (pd.getD j 0)) ∧ w' = w) := fun w => prime_any j hj w
      by_cases he : t.getD j 0 = pd.getD j 0
      · have hnx := drop_step HT.out.len hj hd he
        have HNX : Hid (t.drop j = pd.drop j) := hnx
        rw [he] at HC
        clear hnx hd
        generalize pd.getD j 0 = b at *
        go_wp2
        refine wp_region_quiet_in (C := fun Y => Below W.heap.size W Y) (by kernel_rfl) (by kernel_rfl) (HP.out.drew) ?_
        refine wpQuiet_step (fun K hK => ?_)
        go_simp
        first | refine hK _ ?_ | refine ⟨_, fun _ _ => rfl, hK _ ?_⟩
        clear hK K
        refine wpQuiet_step (fun K hK => ?_)
        go_simp
        first | refine hK _ ?_ | refine ⟨_, fun _ _ => rfl, hK _ ?_⟩
        clear hK K
        refine wpQuiet_step (fun K hK => ?_)
        refine if_pos_mpr (by kernel_rfl) ⟨.int .i64 b, fun Y hY => ?_, hK _ ?_⟩
        · have hc := HC.out Y hY
          go_simp
        clear hK K
        try simp only [Act.put, List.setIfInBounds_toArray, List.set_cons_zero, List.set_cons_succ]
        refine wpQuiet_step (fun K hK => ?_)
        go_simp
        first | refine hK _ ?_ | refine ⟨_, fun _ _ => rfl, hK _ ?_⟩
        clear hK K
        refine wpQuiet_step (fun K hK => ?_)
        refine if_pos_mpr (by kernel_rfl) ⟨.int .i64 b, fun Y hY => ?_, hK _ ?_⟩
        · go_simp
          exact (HPR.out Y).mono fun e w' hh => ⟨hh.1, by rw [hh.2]; exact hY⟩
        clear hK K
        try simp only [Act.put, List.setIfInBounds_toArray, List.set_cons_zero, List.set_cons_succ]
        refine wpQuiet_step (fun K hK => ?_)
        go_simp
        first | refine hK _ ?_ | refine ⟨_, fun _ _ => rfl, hK _ ?_⟩
        clear hK K
        refine wpQuiet_nil ?_
        intro wq hq
        have HQ : Hid (Below W.heap.size W wq) := hq
        clear hq
        go_wp2
        go_roundw
        case rel => exact ⟨j, by omega, rfl, HNX.out, HQ.out⟩
        case measure => first | (simp [intOf]; done) | (simp [intOf]; omega)
      · have hbe := bel_of HT.out hj hd he
        have HBE : Hid (decide (D t < 57896044618658097711785492504343953926634992332820282019728792003956564819949) = decide (t.getD j 0 < pd.getD j 0)) := hbe
        clear hbe hd
        generalize pd.getD j 0 = b at *
        generalize t.getD j 0 = a at *
        have hne : decide (a = b) = false := by simpa using he
        go_wp2
        refine wp_region_quiet_in (C := fun Y => Below W.heap.size W Y) (by kernel_rfl) (by kernel_rfl) (HP.out.drew) ?_
        refine wpQuiet_step (fun K hK => ?_)
        go_simp
        first | refine hK _ ?_ | refine ⟨_, fun _ _ => rfl, hK _ ?_⟩
        clear hK K
        refine wpQuiet_step (fun K hK => ?_)
        go_simp
        first | refine hK _ ?_ | refine ⟨_, fun _ _ => rfl, hK _ ?_⟩
        clear hK K
        refine wpQuiet_step (fun K hK => ?_)
        refine if_pos_mpr (by kernel_rfl) ⟨.int .i64 a, fun Y hY => ?_, hK _ ?_⟩
        · have hc := HC.out Y hY
          go_simp
        clear hK K
        try simp only [Act.put, List.setIfInBounds_toArray, List.set_cons_zero, List.set_cons_succ]
        refine wpQuiet_step (fun K hK => ?_)
        go_simp
        first | refine hK _ ?_ | refine ⟨_, fun _ _ => rfl, hK _ ?_⟩
        clear hK K
        refine wpQuiet_step (fun K hK => ?_)
        refine if_pos_mpr (by kernel_rfl) ⟨.int .i64 b, fun Y hY => ?_, hK _ ?_⟩
        · go_simp
          exact (HPR.out Y).mono fun e w' hh => ⟨hh.1, by rw [hh.2]; exact hY⟩
        clear hK K
        try simp only [Act.put, List.setIfInBounds_toArray, List.set_cons_zero, List.set_cons_succ]
        refine wpQuiet_step (fun K hK => ?_)
        go_simp
        first | refine hK _ ?_ | refine ⟨_, fun _ _ => rfl, hK _ ?_⟩
        clear hK K
        refine wpQuiet_nil ?_
        intro wq hq
        have HQ : Hid (Below W.heap.size W wq) := hq
        clear hq
        go_wp2
        refine wp_region_quiet_in (C := fun Y => Below W.heap.size W Y) (by kernel_rfl) (by kernel_rfl) (HQ.out.drew) ?_
        refine wpQuiet_step (fun K hK => ?_)
        go_simp
        first | refine hK _ ?_ | refine ⟨_, fun _ _ => rfl, hK _ ?_⟩
        clear hK K
        refine wpQuiet_step (fun K hK => ?_)
        go_simp
        first | refine hK _ ?_ | refine ⟨_, fun _ _ => rfl, hK _ ?_⟩
        clear hK K
        refine wpQuiet_step (fun K hK => ?_)
        refine if_pos_mpr (by kernel_rfl) ⟨.int .i64 a, fun Y hY => ?_, hK _ ?_⟩
        · have hc := HC.out Y hY
          go_simp
        clear hK K
        try simp only [Act.put, List.setIfInBounds_toArray, List.set_cons_zero, List.set_cons_succ]
        refine wpQuiet_step (fun K hK => ?_)
        go_simp
        first | refine hK _ ?_ | refine ⟨_, fun _ _ => rfl, hK _ ?_⟩
        clear hK K
        refine wpQuiet_step (fun K hK => ?_)
        refine if_pos_mpr (by kernel_rfl) ⟨.int .i64 b, fun Y hY => ?_, hK _ ?_⟩
        · go_simp
          exact (HPR.out Y).mono fun e w' hh => ⟨hh.1, by rw [hh.2]; exact hY⟩
        clear hK K
        try simp only [Act.put, List.setIfInBounds_toArray, List.set_cons_zero, List.set_cons_succ]
        refine wpQuiet_step (fun K hK => ?_)
        go_simp
        first | refine hK _ ?_ | refine ⟨_, fun _ _ => rfl, hK _ ?_⟩
        clear hK K
        refine wpQuiet_step (fun K hK => ?_)
        go_simp
        first | refine hK _ ?_ | refine ⟨_, fun _ _ => rfl, hK _ ?_⟩
        clear hK K
        refine wpQuiet_nil ?_
        intro wz hz
        have HZ : Hid (Below W.heap.size W wz) := hz
        clear hz
        go_wp2
        go_ret
        exact ⟨by rw [HBE.out]; rfl, HB.out.trans (HZ.out.mono HB.out.size)⟩
theorem hw_mod {t s : List Int} (ht : Big t) (hs : Dig s) (hm : (D s + 57896044618658097711785492504343953926634992332820282019728792003956564819968 * 0) % 57896044618658097711785492504343953926634992332820282019728792003956564819949 = D t % 57896044618658097711785492504343953926634992332820282019728792003956564819949) : (D t).toNat % P = (D s).toNat % P := by
  have h1 := hs.lt
  obtain ⟨hd, h2, h3, _⟩ := car_facts ht
  have h4 := hd.lt
  have h5 : 0 ≤ D t := by omega
  have e1 : (((D t).toNat % P : Nat) : Int) = D t % 57896044618658097711785492504343953926634992332820282019728792003956564819949 := by
    rw [Int.natCast_emod, Int.toNat_of_nonneg h5]; rfl
  have e2 : (((D s).toNat % P : Nat) : Int) = D s % 57896044618658097711785492504343953926634992332820282019728792003956564819949 := by
    rw [Int.natCast_emod, Int.toNat_of_nonneg h1.1]; rfl
  rw [Int.mul_zero, Int.add_zero] at hm
  omega
theorem dig_low {t : List Int} (h : Dig t) (hp : 57896044618658097711785492504343953926634992332820282019728792003956564819949 ≤ D t) : 65517 ≤ t.getD 0 0 := by
  have hlt := h.lt
  have h0 := D_digit t h.bd 0 (by rw [h.len]; decide)
  rw [Int.pow_zero, Int.ediv_one] at h0
  rw [h0]
  omega
/-! whole -/
structure HW (n : Nat) (w : World) (t : List Int) (wr : World) : Prop where
  old : Below n w wr
  sz : n + 2 ≤ wr.heap.size
  ht : rowI wr n t 49
  hr : rowI wr (n + 1) (List.replicate 16 0) 50
theorem HW.below {n : Nat} {w wr w' : World} {t : List Int} (h : HW n w t wr) (hb : Below wr.heap.size wr w') : HW n w t w' :=
  have hs := h.sz
  ⟨h.old.trans (hb.mono (by omega)), Nat.le_trans h.sz hb.size, (hb.block _ (by omega)).trans h.ht, (hb.block _ (by omega)).trans h.hr⟩
theorem HW.set {n : Nat} {w wr : World} {t : List Int} (h : HW n w t wr) (i : Nat) (v : Int) : HW n w (t.set i v) (wr.setCell ⟨n, i, none⟩ (.int .i64 v)) :=
  ⟨h.old.setCell (by simp) _, by simpa using h.sz, rowI_set h.ht _ _, row_other h.hr (by simp) _⟩
theorem HW.row {n : Nat} {w wr : World} {t : List Int} (h : HW n w t wr) (y : List Int) : HW n w y (wr.setRow n (VI .i64 y)) :=
  have b := but_setRow wr n (VI .i64 y)
  ⟨h.old.trans (b.below (fun k hk => by omega)), by rw [b.size]; exact h.sz, setRow_heap _ _ _ _ _ _ h.ht, (b.block _ (by omega)).trans h.hr⟩
theorem hw_start (w : World) (t : List Int) : HW w.heap.size w t ((w.alloc (.cells (VI .i64 t) 49)).alloc (.cells (VI .i64 (List.replicate 16 0)) 50)) := by
  refine ⟨((Below.refl _ _).alloc (Nat.le_refl _) _).alloc (by simp) _, by simp [size_alloc], ?_, ?_⟩
  all_goals simp only [rowI, heap_alloc_any, size_alloc]
  · rw [if_neg (by omega), if_pos trivial]
  · rw [if_pos trivial]
/-- the number in a box -/
def Dw (w : World) (g : Nat) : Int := match w.heap[g]? with
  | some (.cells cs _ _) => D (cs.toList.map intOf)
  | _ => 0
theorem Dw_row {w : World} {g : Nat} {t : List Int} {T : TypeId} (h : rowI w g t T) : Dw w g = D t := by
  simp only [Dw, h]
  congr 1
  simp only [VI, List.toList_toArray, List.map_map]
  exact (List.map_congr_left (fun _ _ => rfl)).trans (List.map_id t)
theorem fold_step {t : List Int} (h : Dig t) {c : Int} (c0 : 0 ≤ c) (c1 : c ≤ 1099511627776) {T0 : Int} (hm : (D t + 57896044618658097711785492504343953926634992332820282019728792003956564819968 * c) % 57896044618658097711785492504343953926634992332820282019728792003956564819949 = T0) :
    Big (t.set 0 (t.getD 0 0 + 19 * c)) ∧ Dig (car (t.set 0 (t.getD 0 0 + 19 * c))) ∧ 0 ≤ cout (t.set 0 (t.getD 0 0 + 19 * c)) ∧ cout (t.set 0 (t.getD 0 0 + 19 * c)) ≤ 1099511627776 ∧
    (D (car (t.set 0 (t.getD 0 0 + 19 * c))) + 57896044618658097711785492504343953926634992332820282019728792003956564819968 * cout (t.set 0 (t.getD 0 0 + 19 * c))) % 57896044618658097711785492504343953926634992332820282019728792003956564819949 = T0 ∧
    D (car (t.set 0 (t.getD 0 0 + 19 * c))) + 57896044618658097711785492504343953926634992332820282019728792003956564819968 * cout (t.set 0 (t.getD 0 0 + 19 * c)) = D t + 19 * c := by
  obtain ⟨hb, hD⟩ := h.big c0 c1
  obtain ⟨h1, h2, h3, h4, _, _⟩ := car_facts hb
  refine ⟨hb, h1, h3, h4, ?_, by rw [h2, hD]⟩
  rw [h2, hD, ← hm]
  omega
set_option maxRecDepth 100000 in
set_option maxHeartbeats 4000000 in
theorem whole_any (t : List Int) (ht : Big t) (w : World) :
    Calls Try.prog 56 #[.agg (VI .i64 t)] w fun e w' => e = .returned (.agg (VI .i64 (dg ((D t).toNat % P)))) ∧ Below w.heap.size w w' := by
  obtain ⟨hdg, hDv, o0, o1, _, _⟩ := car_facts ht
  have HT : Hid (Big t) := ht
  have HDG : Hid (Dig (car t)) := hdg
  have hst := hw_start w t
  obtain ⟨W, hW⟩ : ∃ W, (w.alloc (.cells (VI .i64 t) 49)).alloc (.cells (VI .i64 (List.replicate 16 0)) 50) = W := ⟨_, rfl⟩
  rw [hW] at hst
  have hW' : (w.alloc (.cells (VI .i64 t) 49)).alloc (.cells #[.int .i64 0, .int .i64 0, .int .i64 0, .int .i64 0, .int .i64 0, .int .i64 0, .int .i64 0, .int .i64 0, .int .i64 0, .int .i64 0, .int .i64 0, .int .i64 0, .int .i64 0, .int .i64 0, .int .i64 0, .int .i64 0] 50) = W := hW
  have HST : Hid (HW w.heap.size w t W) := hst
  have HM : Hid ((D (car t) + 57896044618658097711785492504343953926634992332820282019728792003956564819968 * cout t) % 57896044618658097711785492504343953926634992332820282019728792003956564819949 = D t % 57896044618658097711785492504343953926634992332820282019728792003956564819949) := by
    have : (D (car t) + 57896044618658097711785492504343953926634992332820282019728792003956564819968 * cout t) % 57896044618658097711785492504343953926634992332820282019728792003956564819949 = D t % 57896044618658097711785492504343953926634992332820282019728792003956564819949 := by rw [hDv]
    exact this
  have HSZ : Hid ((VI .i64 t).size = (VI .i64 (car t)).size) := by
    have : (VI .i64 t).size = (VI .i64 (car t)).size := by rw [VI_size, VI_size, ht.len, hdg.len]
    exact this
  clear hW hst ht hdg hDv
  go_enter Try.func56, Try.ntmps56
  go_wp2_with (first | (go_at_call 65; refine (carried_any t HT.out W).mono ?_; rintro e w2 ⟨rfl, hb⟩; have H2 : Hid (HW w.heap.size w t w2) := HST.out.below hb; clear hb) | (with_reducible refine at_list ?_; first | (refine wpList_load_row rfl 49 (.tmp 1) rfl w.heap.size rfl 49 (VI .i64 t) (0, 0) _ HST.out.ht Try.underlying49 rfl (info16 HT.out.len) ?_) | (refine wpList_store_row rfl 49 (.tmp 1) (.tmp 7) rfl w.heap.size (VI .i64 (car t)) rfl rfl 49 (VI .i64 t) H2.out.ht (info16 HDG.out.len) HSZ.out (VI_one _ _) ?_)))
  have HR0 : Hid (HW w.heap.size w (car t) (w2.setRow w.heap.size (VI .i64 (car t)))) := H2.out.row _
  clear H2 HST hW'
  go_loopw [3] (fun c w' => ∃ (s : List Int) (k : Int), c = .int .i64 k ∧ Dig s ∧ 0 ≤ k ∧ k ≤ 1099511627776 ∧ (D s + 57896044618658097711785492504343953926634992332820282019728792003956564819968 * k) % 57896044618658097711785492504343953926634992332820282019728792003956564819949 = D t % 57896044618658097711785492504343953926634992332820282019728792003956564819949 ∧ HW w.heap.size w s w') (fun c w' => (Dw w' w.heap.size + 57896044618658097711785492504343953926634992332820282019728792003956564819968 * intOf c).toNat)
  case atStart => exact ⟨car t, cout t, rfl, HDG.out, o0, o1, HM.out, HR0.out⟩
  case round =>
    clear HR0 HM HDG HSZ o0 o1
    obtain ⟨s, k, rfl, hsd, k0, k1, hm, hp⟩ := hrel
    by_cases hk : k = 0
    · subst hk
      have hlt := hsd.lt
      have hDs : (D t).toNat % P = (D s).toNat % P := hw_mod HT.out hsd hm
      have hc0 := rowI_cell hp.ht (i := 0) (by rw [hsd.len]; decide)
      have h0 := hsd.bd _ (getD_mem (t := s) (i := 0) (by rw [hsd.len]; decide))
      have HP : Hid (HW w.heap.size w s wr) := hp
      have HSD : Hid (Dig s) := hsd
      have HBL : Hid (∀ w, Calls Try.prog 66 #[.agg (VI .i64 s)] w fun e w' => e = .returned (.bool (decide (D s < 57896044618658097711785492504343953926634992332820282019728792003956564819949))) ∧ Below w.heap.size w w') := fun w => below_any s hsd w
      have hlen : Hid (s.length = 16) := hsd.len
      by_cases hb : D s < 57896044618658097711785492504343953926634992332820282019728792003956564819949
      · have hd : decide (D s < 57896044618658097711785492504343953926634992332820282019728792003956564819949) = true := by simpa using hb
        have HRES : Hid (dg ((D t).toNat % P) = s) := by
          have : dg ((D t).toNat % P) = s := by rw [hDs, Nat.mod_eq_of_lt (by have e : P = 57896044618658097711785492504343953926634992332820282019728792003956564819949 := rfl; omega), ← hsd.eq]
          exact this
        rw [hd] at HBL
        clear hp hsd hm hlt hDs hc0 h0 hb hd
        go_wp2_with (first | (go_at_call 66; refine (HBL.out wr).mono ?_; rintro e w3 ⟨rfl, hb⟩; have H3 : Hid (HW w.heap.size w s w3) := HP.out.below hb; clear hb) | (with_reducible refine at_list ?_; first | (refine wpList_load_row rfl 49 (.tmp 1) rfl w.heap.size rfl 49 (VI .i64 s) (0, 0) _ H3.out.ht Try.underlying49 rfl (info16 hlen.out) ?_) | (refine wpList_load_row rfl 49 (.tmp 1) rfl w.heap.size rfl 49 (VI .i64 s) (0, 0) _ HP.out.ht Try.underlying49 rfl (info16 hlen.out) ?_) | (refine wpList_store_row rfl 50 (.tmp 2) (.tmp 30) rfl (w.heap.size + 1) (VI .i64 s) rfl rfl 50 (VI .i64 (List.replicate 16 0)) H3.out.hr (infoN16 hlen.out) (by rw [VI_size, VI_size, hlen.out, List.length_replicate]) (VI_one _ _) ?_)))
        refine bodyPost_ret (v := .agg (VI .i64 s)) ?_ rfl ⟨by rw [HRES.out], below_setRow H3.out.old _ (by omega) _⟩
        exact results_cell_row (P := Try.prog) (fn := Try.f56) (p := 2) (ty := 50) rfl _ _ (w.heap.size + 1) 50 (VI .i64 s) (0, 0) _ rfl (setRow_heap _ _ _ _ 50 _ H3.out.hr) Try.underlying50 rfl (infoN16 hlen.out)
      · have hd : decide (D s < 57896044618658097711785492504343953926634992332820282019728792003956564819949) = false := by simpa using hb
        have hres : dg ((D t).toNat % P) = (s.getD 0 0 - 65517) :: List.replicate 15 0 := by rw [hDs]; exact hsd.less (by omega)
        rw [hd] at HBL
        have h517 : 65517 ≤ s.getD 0 0 := dig_low hsd (by omega)
        obtain ⟨s0, hs0⟩ : ∃ s0, s.getD 0 0 = s0 := ⟨_, rfl⟩
        have HS0 : Hid (s.getD 0 0 = s0) := hs0
        rw [hs0] at hres h0 h517
        have HRES : Hid (dg ((D t).toNat % P) = (s0 - 65517) :: List.replicate 15 0) := hres
        have HPR : Hid (∀ w, Calls Try.prog 58 #[.int .i64 0] w fun e w' => e = .returned (.int .i64 65517) ∧ w' = w) := fun w => prime_any 0 (by decide) w
        obtain ⟨h00, h01⟩ := h0
        have hwr : IntKind.i64.wrap (s0 - 65517) = s0 - 65517 := by rw [IntKind.wrap_i64]; omega
        clear hp hsd hm hlt hDs hc0 hb hd hres hs0
        go_wp2_with (first | (go_at_call 66; refine (HBL.out wr).mono ?_; rintro e w3 ⟨rfl, hb⟩; have H3 : Hid (HW w.heap.size w s w3) := HP.out.below hb; clear hb) | (with_reducible refine at_list ?_; refine wpList_load_row rfl 49 (.tmp 1) rfl w.heap.size rfl 49 (VI .i64 s) (0, 0) _ HP.out.ht Try.underlying49 rfl (info16 hlen.out) ?_))
        refine wp_region_held_drew (S := fun Y => rowI Y w.heap.size s 49 ∧ Below w.heap.size w Y) (by kernel_rfl) (⟨H3.out.ht, H3.out.old.drew⟩) (fun hH => ?_)
        refine wpAnyH_take (i := 0) (v := .pointer (some ⟨w.heap.size, 0, none⟩)) rfl (by kernel_rfl) (by kernel_rfl) (by kernel_rfl) (fun _ _ _ h => h) (Or.inl ⟨by kernel_rfl, fun W hW => ?_⟩) hH ?_
        · go_simp
        try simp only [Act.put, List.setIfInBounds_toArray, List.set_cons_zero, List.set_cons_succ]
        refine wpAnyH_take (i := 1) (v := .int .i64 s0) rfl (by kernel_rfl) (by kernel_rfl) (by kernel_rfl) (fun _ _ _ h => h) (Or.inl ⟨by kernel_rfl, fun W hW => ?_⟩) hH ?_
        · have hc := rowI_cell hW.1 (i := 0) (by rw [hlen.out]; decide); rw [HS0.out] at hc; go_simp
        try simp only [Act.put, List.setIfInBounds_toArray, List.set_cons_zero, List.set_cons_succ]
        refine wpAnyH_ready (rs := [2]) (by kernel_rfl) (by simp) (AllReadyH.cons rfl (fun K' hK => ?_) AllReadyH.nil)
        go_simp
        refine (HPR.out _).mono ?_
        rintro e w4 ⟨rfl, rfl⟩
        go_wp2_with fail
        refine hK.out _ _ hH (fun hH => ?_)
        clear hK K'
        try simp only [Act.put, List.setIfInBounds_toArray, List.set_cons_zero, List.set_cons_succ]
        refine wpAnyH_take (i := 3) (v := .int .i64 (s0 - 65517)) rfl (by kernel_rfl) (by kernel_rfl) (by kernel_rfl) (fun _ _ _ h => h) (Or.inl ⟨by kernel_rfl, fun W hW => ?_⟩) hH ?_
        · go_simp
        try simp only [Act.put, List.setIfInBounds_toArray, List.set_cons_zero, List.set_cons_succ]
        refine wpAnyH_take (i := 4) (v := .agg (VI .i64 ((s0 - 65517) :: List.replicate 15 0))) rfl (by kernel_rfl) (by kernel_rfl) (by kernel_rfl) (fun _ _ _ h => h) (Or.inl ⟨by kernel_rfl, fun W hW => ?_⟩) hH ?_
        · (go_simp; rfl)
        try simp only [Act.put, List.setIfInBounds_toArray, List.set_cons_zero, List.set_cons_succ]
        refine wpAnyH_ready (rs := [5]) (by kernel_rfl) (by simp) (AllReadyH.cons rfl (fun K' hK => ?_) AllReadyH.nil)
        refine if_pos_mpr (by kernel_rfl) (wp_store_row 50 (.tmp 2) (.tmp 29) rfl (w.heap.size + 1) (VI .i64 ((s0 - 65517) :: List.replicate 15 0)) rfl rfl 50 (VI .i64 (List.replicate 16 0)) H3.out.hr (infoN16 (by simp)) (by rw [VI_size, VI_size]; rfl) (VI_one _ _) ?_)
        refine hK.out _ _ ⟨(setRow_other _ _ _ _ (by omega)).trans hH.1, below_setRow hH.2 _ (by omega) _⟩ (fun hH => ?_)
        clear hK K'
        try simp only [Act.put, List.setIfInBounds_toArray, List.set_cons_zero, List.set_cons_succ]
        refine wpAnyH_done (by kernel_rfl) ?_ _
        try simp only [Act.put, List.getElem_toArray, List.getElem_cons_succ, List.getElem_cons_zero, List.getElem?_toArray, List.getElem?_cons_succ, List.getElem?_cons_zero, List.setIfInBounds_toArray, List.set_cons_zero, List.set_cons_succ]
        have HH : Hid (Below w.heap.size w (w3.drew.setRow (w.heap.size + 1) (VI .i64 ((s0 - 65517) :: List.replicate 15 0)))) := hH.2
        clear hH
        go_wp2
        refine bodyPost_ret (v := .agg (VI .i64 ((s0 - 65517) :: List.replicate 15 0))) ?_ rfl ⟨by rw [HRES.out], HH.out⟩
        exact results_cell_row (P := Try.prog) (fn := Try.f56) (p := 2) (ty := 50) rfl _ _ (w.heap.size + 1) 50 (VI .i64 ((s0 - 65517) :: List.replicate 15 0)) (0, 0) _ rfl (setRow_heap w3.drew _ _ _ 50 _ H3.out.hr) Try.underlying50 rfl (infoN16 (by simp))
    · obtain ⟨hbig, hdig, q0, q1, hm2, hval⟩ := fold_step hsd k0 k1 hm
      have h0 := hsd.bd _ (getD_mem (t := s) (i := 0) (by rw [hsd.len]; decide))
      have hc0 := rowI_cell hp.ht (i := 0) (by rw [hsd.len]; decide)
      have hf0 : wr.frozen? ⟨w.heap.size, 0, none⟩ = false := frozen_of_row wr _ _ _ _ hp.ht
      have hmea : Hid (Dw wr w.heap.size = D s) := Dw_row hp.ht
      have hp2 := hp.set 0 (s.getD 0 0 + 19 * k)
      obtain ⟨s', hs'⟩ : ∃ s', s.set 0 (s.getD 0 0 + 19 * k) = s' := ⟨_, rfl⟩
      rw [hs'] at hbig hdig q0 q1 hm2 hval hp2
      have HP2 : Hid (HW w.heap.size w s' (wr.setCell ⟨w.heap.size, 0, none⟩ (.int .i64 (s.getD 0 0 + 19 * k)))) := hp2
      have HBG : Hid (Big s') := hbig
      have HDG : Hid (Dig (car s')) := hdig
      have HM2 : Hid ((D (car s') + 57896044618658097711785492504343953926634992332820282019728792003956564819968 * cout s') % 57896044618658097711785492504343953926634992332820282019728792003956564819949 = D t % 57896044618658097711785492504343953926634992332820282019728792003956564819949) := hm2
      have HVL : Hid (D (car s') + 57896044618658097711785492504343953926634992332820282019728792003956564819968 * cout s' = D s + 19 * k) := hval
      have HDS : Hid (0 ≤ D s) := hsd.lt.1
      have HDC : Hid (0 ≤ D (car s')) := hdig.lt.1
      have HSZ : Hid ((VI .i64 s').size = (VI .i64 (car s')).size) := by
        have : (VI .i64 s').size = (VI .i64 (car s')).size := by rw [VI_size, VI_size, hbig.len, hdig.len]
        exact this
      obtain ⟨h00, h01⟩ := h0
      clear hm hm2 hval hp hp2 hbig hdig hsd hs'
      generalize s.getD 0 0 = s0 at *
      have hkd : decide (k = 0) = false := by simpa using hk
      obtain ⟨W3, hW3⟩ : ∃ W3, wr.setCell ⟨w.heap.size, 0, none⟩ (.int .i64 (s0 + 19 * k)) = W3 := ⟨_, rfl⟩
      rw [hW3] at HP2
      go_wp2_with (first | (go_at_call 65; refine (carried_any s' HBG.out W3).mono ?_; rintro e w3 ⟨rfl, hb⟩; have H3 : Hid (HW w.heap.size w s' w3) := HP2.out.below hb; clear hb) | (with_reducible refine at_list ?_; first | (refine wpList_load_row rfl 49 (.tmp 1) rfl w.heap.size rfl 49 (VI .i64 s') (0, 0) _ HP2.out.ht Try.underlying49 rfl (info16 HBG.out.len) ?_) | (refine wpList_store_row rfl 49 (.tmp 1) (.tmp 20) rfl w.heap.size (VI .i64 (car s')) rfl rfl 49 (VI .i64 s') H3.out.ht (info16 HDG.out.len) HSZ.out (VI_one _ _) ?_)))
      have HR : Hid (HW w.heap.size w (car s') (w3.setRow w.heap.size (VI .i64 (car s')))) := H3.out.row _
      clear H3
      go_roundw
      case rel => exact ⟨car s', cout s', rfl, HDG.out, q0, q1, HM2.out, HR.out⟩
      case measure =>
        rw [Dw_row HR.out.ht, hmea.out]
        have := HVL.out
        have := HDS.out
        have := HDC.out
        simp only [intOf]
        omega
end Go.Proofs.Ytacofgmnmofkpaa
