import Derived.Test.YtlffamcifahbjabFldR
namespace Go.Proofs.Ytlffamcifahbjab
set_option linter.unusedSimpArgs false
open Go.ChangeShapes Go.WideShapes Go.ChangeAt Go.RowKit Go.Pin Go.Fld
/-- boxes of keys and of Elements -/
structure Bs (w0 : World) (ks bx : List (Nat × List Int)) (W : World) : Prop where
  old : Below w0.heap.size w0 W
  keys : ∀ p ∈ ks, rowB W p.1 p.2 23
  rows : ∀ p ∈ bx, rowAt W p.1 p.2 39
theorem Bs.refl (w : World) : Bs w [] [] w := ⟨Below.refl _ _, by simp, by simp⟩
theorem Bs.below {w0 W W' : World} {ks bx : List (Nat × List Int)} (h : Bs w0 ks bx W) (hb : Below W.heap.size W W') : Bs w0 ks bx W' :=
  ⟨h.old.trans (hb.mono h.old.size), fun p hp => (hb.block _ (Array.getElem?_eq_some_iff.1 (h.keys p hp)).1).trans (h.keys p hp), fun p hp => row_below (h.rows p hp) hb⟩
theorem Bs.new {w0 W : World} {ks bx : List (Nat × List Int)} (h : Bs w0 ks bx W) (x : List Int) : Bs w0 ks ((W.heap.size, x) :: bx) (W.alloc (.cells (VI .u64 x) 39)) := by
  have hb := h.below ((Below.refl _ _).alloc (Nat.le_refl _) (.cells (VI .u64 x) 39))
  refine ⟨hb.old, hb.keys, fun p hp => ?_⟩
  rcases List.mem_cons.1 hp with rfl | hp
  · simp only [rowAt, heap_alloc_any, if_true]
  · exact hb.rows p hp
theorem Bs.newk {w0 W : World} {ks bx : List (Nat × List Int)} (h : Bs w0 ks bx W) (x : List Int) : Bs w0 ((W.heap.size, x) :: ks) bx (W.alloc (.cells (VI .u8 x) 23)) := by
  have hb := h.below ((Below.refl _ _).alloc (Nat.le_refl _) (.cells (VI .u8 x) 23))
  refine ⟨hb.old, fun p hp => ?_, hb.rows⟩
  rcases List.mem_cons.1 hp with rfl | hp
  · simp only [rowB, heap_alloc_any, if_true]
  · exact hb.keys p hp
theorem Bs.row {w0 W : World} {ks bx : List (Nat × List Int)} (h : Bs w0 ks bx W) {g : Nat} {x : List Int} (hp : (g, x) ∈ bx) : rowAt W g x 39 := h.rows _ hp
theorem Bs.key {w0 W : World} {ks bx : List (Nat × List Int)} (h : Bs w0 ks bx W) {g : Nat} {x : List Int} (hp : (g, x) ∈ ks) : rowB W g x 23 := h.keys _ hp
theorem Bs.lt {w0 W : World} {ks bx : List (Nat × List Int)} (h : Bs w0 ks bx W) {g : Nat} {x : List Int} (hp : (g, x) ∈ bx) : g < W.heap.size := (Array.getElem?_eq_some_iff.1 (h.row hp)).1
theorem Bs.ltk {w0 W : World} {ks bx : List (Nat × List Int)} (h : Bs w0 ks bx W) {g : Nat} {x : List Int} (hp : (g, x) ∈ ks) : g < W.heap.size := (Array.getElem?_eq_some_iff.1 (h.key hp)).1
theorem bs_start2 (w : World) (x y : List Int) : Bs w [(w.heap.size + 1, y), (w.heap.size, x)] [] ((w.alloc (.cells (VI .u8 x) 23)).alloc (.cells (VI .u8 y) 23)) := by
  have := ((Bs.refl w).newk x).newk y
  rw [size_alloc] at this
  exact this
theorem bs_start3 (w : World) (x y z : List Int) : Bs w [(w.heap.size + 2, z), (w.heap.size + 1, y), (w.heap.size, x)] [] (((w.alloc (.cells (VI .u8 x) 23)).alloc (.cells (VI .u8 y) 23)).alloc (.cells (VI .u8 z) 23)) := by
  have := (((Bs.refl w).newk x).newk y).newk z
  rw [size_alloc, size_alloc] at this
  exact this
theorem quietAt_load_row {P : Program} {C : World → Prop} {o : Oper} {a : Act} {Y : World} (ty : TypeId) (x : Operand) (ho : o.op = .load ty x) (g : Nat) (hx : a.eval x = .pointer (some ⟨g, 0, none⟩)) (t : TypeId) (cs : Array Value) (fr : Nat × Nat) (d : TypeDesc) (hg : Y.heap[g]? = some (.cells cs t fr))
    (hu : P.underlying ty = some d) (hd : (match d with | .struct _ | .array _ _ => true | _ => false) = true) (hi : (P.info? ty).map (·.size) = some cs.size) : o.quietAt P a C Y (.agg cs) := by
  unfold Oper.quietAt execOp
  simp only [ho, hx, Instr.loadAt, Instr.sureAddr, Sem.run_bind, Sem.run_pure, Result.andThen_ok, run_loadVar_row Y g t ty cs fr d hg hu hd hi]
  exact ⟨rfl, rfl⟩
/-! sums and products modulo P -/
theorem r_comm (a b : Nat) : (a + b) % P = (b + a) % P := by rw [Nat.add_comm]
theorem r_assoc (a b c : Nat) : ((a + b) % P + c) % P = (a + (b + c) % P) % P := by simp [Nat.add_assoc]
theorem r_sub (a b : Nat) (ha : a < P) (hb : b < P) : ((a + b) % P + (P - b)) % P = a := by unfold P at *; omega
theorem r_subadd (a b : Nat) (ha : a < P) (hb : b < P) : ((a + (P - b)) % P + b) % P = a := by unfold P at *; omega
theorem m_comm (a b : Nat) : a * b % P = b * a % P := by rw [Nat.mul_comm]
theorem m_assoc (a b c : Nat) : a * b % P * c % P = a * (b * c % P) % P := by simp [Nat.mul_assoc]
theorem m_dist (a b c : Nat) : a * ((b + c) % P) % P = (a * b % P + a * c % P) % P := by simp [Nat.mul_add]
theorem r_zero (a : Nat) (ha : a < P) : (a + 0) % P = a := Nat.mod_eq_of_lt ha
theorem m_one (a : Nat) (ha : a < P) : a * 1 % P = a := by rw [Nat.mul_one]; exact Nat.mod_eq_of_lt ha
theorem m_zero (a : Nat) : a * 0 % P = 0 := by simp
theorem r_self (a : Nat) (ha : a < P) : (a + (P - a)) % P = 0 := by unfold P at *; omega
theorem num_zero : num [0, 0, 0, 0, 0] = 0 := by decide
theorem nb_one : nb (kk 1) % 2 ^ 255 % P = 1 := by decide
/-- the four bytes of a number -/
def b4 (n : Int) : List Int := [n % 256, n / 256 % 256, n / 65536 % 256, n / 16777216, 0, 0, 0, 0, 0, 0, 0, 0, 0, 0, 0, 0, 0, 0, 0, 0, 0, 0, 0, 0, 0, 0, 0, 0, 0, 0, 0, 0]
theorem b4_bts (n : Nat) (hn : n < 4294967296) : b4 (n : Int) = bts n := by
  have h : ∀ i, 4 ≤ i → n >>> (8 * i) % 256 = 0 := fun i hi => by
    rw [Nat.shiftRight_eq_div_pow, Nat.div_eq_of_lt]
    exact Nat.lt_of_lt_of_le (show n < 2 ^ 32 from hn) (Nat.pow_le_pow_right (by decide) (by omega))
  apply List.ext_getElem
  · simp [b4]
  · intro i h1 h2
    rw [bts_at _ _ (by simpa using h2)]
    by_cases hi : 4 ≤ i
    · rw [h i hi]
      have h3 : i < 32 := by simpa using h2
      have hs : b4 (n : Int) = [(n : Int) % 256, (n : Int) / 256 % 256, (n : Int) / 65536 % 256, (n : Int) / 16777216] ++ List.replicate 28 0 := rfl
      simp only [hs]
      rw [List.getElem_append_right (by simpa using hi), List.getElem_replicate]
      rfl
    · have h4 : i = 0 ∨ i = 1 ∨ i = 2 ∨ i = 3 := by omega
      rcases h4 with rfl | rfl | rfl | rfl
      · show (n : Int) % 256 = _; rw [Nat.shiftRight_eq_div_pow]; omega
      · show (n : Int) / 256 % 256 = _; rw [Nat.shiftRight_eq_div_pow]; omega
      · show (n : Int) / 65536 % 256 = _; rw [Nat.shiftRight_eq_div_pow]; omega
      · show (n : Int) / 16777216 = _; rw [Nat.shiftRight_eq_div_pow]; omega
theorem b4_key (n : Nat) (hn : n < 4294967296) : Key32 (b4 n) := by rw [b4_bts n hn]; exact ⟨bts_len n, bts_bd n⟩
theorem nb_b4 (n : Nat) (hn : n < 4294967296) : nb (b4 n) % 2 ^ 255 % P = n := by
  rw [b4_bts n hn, nb_bts n (Nat.lt_trans hn (by decide)), Nat.mod_eq_of_lt (Nat.lt_trans hn (by decide)), Nat.mod_eq_of_lt (Nat.lt_trans hn (by decide))]
end Go.Proofs.Ytlffamcifahbjab
