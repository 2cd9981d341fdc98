import Derived.Test.YtlffamcifahbjaaRows
import Derived.Laws.Externs
import Derived.Test.YtlffamcifahbjaaMgaa
namespace Go.Proofs.Ytlffamcifahbjaa
set_option linter.unusedSimpArgs false
open Go.ChangeShapes Go.WideShapes Go.ChangeAt Go.RowKit Go.Pin Go.Fld
theorem setRow_setCell {w : World} {g : Nat} {old : Array Value} {T : TypeId} (hg : w.heap[g]? = some (.cells old T (0, 0))) (cs : Array Value) (i : Nat) (v : Value) :
    (w.setRow g cs).setCell ⟨g, i, none⟩ v = w.setRow g (cs.setIfInBounds i v) := by
  rw [setCell_eq_setRow (w.setRow g cs) g i cs T (0, 0) v (setRow_heap w g old cs T (0, 0) hg)]
  simp only [World.setRow]
  congr 1
  apply Array.ext_getElem?
  intro k
  rw [Array.getElem?_modify, Array.getElem?_modify, Array.getElem?_modify]
  by_cases h : g = k
  · subst h
    simp [hg]
  · simp [h]
theorem setRow_self {w : World} {g : Nat} {cs : Array Value} {T : TypeId} {fr : Nat × Nat} (hg : w.heap[g]? = some (.cells cs T fr)) : w.setRow g cs = w := by
  have e : w.heap.modify g (fun | .cells _ elem frozen => .cells cs elem frozen | o => o) = w.heap := by
    apply Array.ext_getElem?
    intro k
    rw [Array.getElem?_modify]
    by_cases h : g = k
    · subst h
      simp [hg]
    · simp [h]
  exact congrArg (fun h => { w with heap := h }) e
theorem mask51 (x : Int) (h0 : 0 ≤ x) (h1 : x < 18446744073709551616) : bits .and .u64 x 2251799813685247 = x % 2251799813685248 := by
  obtain ⟨n, rfl⟩ := Int.eq_ofNat_of_zero_le h0
  have := u64_and_nat n 2251799813685247 (by omega) (by decide)
  rw [show (2251799813685247 : Int) = ((2251799813685247 : Nat) : Int) from rfl, this, show (2251799813685247 : Nat) = 2 ^ 51 - 1 by decide, Nat.and_two_pow_sub_one_eq_mod]
  rfl
theorem ret_int2 {k j : IntKind} {a b c d : Int} (h : a = b) (g : c = d) : Ending.returned (.tuple #[.int k a, .int j c]) = .returned (.tuple #[.int k b, .int j d]) := by rw [h, g]
theorem set_mid (a b : List Int) (x y : Int) : (a ++ x :: b).set a.length y = a ++ y :: b := by simp
theorem get_mid (a b : List Int) (x : Int) : (a ++ x :: b)[a.length]?.getD 0 = x := by simp
set_option maxHeartbeats 400000 in
theorem add64_run (x y c : Int) (hx : 0 ≤ x) (hy : 0 ≤ y) (hc0 : 0 ≤ c) (hc : c ≤ 1) (w : World) :
    (callFunc 66 #[.int .u64 x, .int .u64 y, .int .u64 c]).run Try.prog w = .ok (.value (.tuple #[.int .u64 ((x + y + c) % 18446744073709551616), .int .u64 ((x + y + c) / 18446744073709551616)])) w := by
  rw [run_callFunc_extern Try.func66 (by kernel_rfl) (by kernel_rfl) (by kernel_rfl) (e := add64Entry) (by kernel_rfl), run_add64 x y c hx hy hc0 hc]
  rfl
set_option maxHeartbeats 1000000 in
theorem carry_any (g : Nat) (T : TypeId) (l : List Int) (h5 : l.length = 5) (hb : ∀ x ∈ l, 0 ≤ x ∧ x < 9223372036854775808) (w : World) (hg : w.heap[g]? = some (.cells (VI .u64 l) T (0, 0))) :
    Calls Try.prog 59 #[.pointer (some ⟨g, 0, none⟩)] w fun e w' => e = .returned (.int .u64 (co 0 l)) ∧ w' = w.setRow g (VI .u64 (cy 0 l)) := by
  have HG : Hid (w.heap[g]? = some (.cells (VI .u64 l) T (0, 0))) := hg
  have HB : Hid (∀ x ∈ l, 0 ≤ x ∧ x < 9223372036854775808) := hb
  clear hg hb
  go_enter Try.func59, Try.ntmps59
  go_wp2
  go_loopw [3, 6] (fun o i w' => ∃ (d r : List Int) (c : Int), i = .int .i64 (d.length : Nat) ∧ o = .int .u64 c ∧ 0 ≤ c ∧ c < 8192 ∧ d.length + r.length = 5 ∧ (∀ x ∈ r, 0 ≤ x ∧ x < 9223372036854775808) ∧ cy 0 l = d ++ cy c r ∧ co 0 l = co c r ∧ w' = w.setRow g (VI .u64 (d ++ r))) (fun _ i _ => 5 - (intOf i).toNat)
  case atStart =>
    exact ⟨[], l, 0, rfl, rfl, by decide, by decide, by simpa using h5, HB.out, rfl, rfl, (setRow_self HG.out).symm⟩
  case round =>
    obtain ⟨d, r, c, rfl, rfl, c0, c1, hl, hr, hcy, hco, hw⟩ := hrel
    cases r with
    | cons x r =>
      have hx := hr x (by simp)
      have hcell : wr.cell? ⟨g, d.length, none⟩ = some (.int .u64 x) := by
        rw [hw, cell_of_row _ _ _ _ _ _ (setRow_heap w g _ _ T _ HG.out), VI_at _ _ _ (by simp)]; simp
      have hfr : wr.frozen? ⟨g, d.length, none⟩ = false := by rw [hw]; exact frozen_of_row _ _ _ _ _ (setRow_heap w g _ _ T _ HG.out)
      have hset : Hid (∀ y, wr.setCell ⟨g, d.length, none⟩ (.int .u64 y) = w.setRow g (VI .u64 (d ++ y :: r))) := fun y => by
        rw [hw, setRow_setCell HG.out, VI_set, set_mid]
      obtain ⟨x0, x1⟩ := hx
      have hlt : d.length < 5 := by simp at hl; omega
      have HR : Hid (∀ y ∈ x :: r, 0 ≤ y ∧ y < 9223372036854775808) := hr
      have H1 : Hid (cy 0 l = d ++ cy c (x :: r)) := hcy
      have H2 : Hid (co 0 l = co c (x :: r)) := hco
      have HL : Hid (d.length + (x :: r).length = 5) := hl
      have hm := mask51 (x + c) (by omega) (by omega)
      clear hr hcy hco hl hw HB HG h5
      go_wp2
      go_roundw
      case rel =>
        exact ⟨d ++ [(x + c) % 2251799813685248], r, (x + c) / 2251799813685248, by simp, rfl, by omega, by omega, by have := HL.out; simp at this ⊢; omega, fun y hy => HR.out y (by simp [hy]), by rw [H1.out]; simp [cy], H2.out, by rw [hset.out]; simp⟩
      case measure => simp [intOf]; omega
    | nil =>
      have hlt : d.length = 5 := by simpa using hl
      simp only [hlt]
      have hw2 : wr = w.setRow g (VI .u64 (cy 0 l)) := by rw [hw, show cy 0 l = d by rw [hcy]; exact List.append_nil d, List.append_nil]
      have HW : Hid (wr = w.setRow g (VI .u64 (cy 0 l))) := hw2
      have H2 : Hid (c = co 0 l) := hco.symm
      clear hr hcy hco hl hw hw2 HB HG h5
      go_wp2
      go_ret
      exact ⟨ret_int H2.out, HW.out⟩
theorem mask32 (x : Int) (h0 : 0 ≤ x) (h1 : x < 18446744073709551616) : bits .and .u64 x 4294967295 = x % 4294967296 := by
  obtain ⟨n, rfl⟩ := Int.eq_ofNat_of_zero_le h0
  have := u64_and_nat n 4294967295 (by omega) (by decide)
  rw [show (4294967295 : Int) = ((4294967295 : Nat) : Int) from rfl, this, show (4294967295 : Nat) = 2 ^ 32 - 1 by decide, Nat.and_two_pow_sub_one_eq_mod]
  rfl
theorem prod32 {a b : Int} (a0 : 0 ≤ a) (a1 : a < 4294967296) (b0 : 0 ≤ b) (b1 : b < 4294967296) : 0 ≤ a * b ∧ a * b ≤ 18446744065119617025 :=
  ⟨Int.mul_nonneg a0 b0, by
    have h1 : a * b ≤ 4294967295 * b := Int.mul_le_mul_of_nonneg_right (by omega) b0
    omega⟩
theorem mul_hi (x y : Int) (x0 : 0 ≤ x) (x1 : x < 18446744073709551616) (y0 : 0 ≤ y) (y1 : y < 18446744073709551616) :
    IntKind.u64.wrap (IntKind.u64.wrap (IntKind.u64.wrap (x / 4294967296 * (y / 4294967296)) + IntKind.u64.wrap (IntKind.u64.wrap (x / 4294967296 * bits .and .u64 y 4294967295) + IntKind.u64.wrap (bits .and .u64 x 4294967295 * bits .and .u64 y 4294967295) / 4294967296) / 4294967296) +
      IntKind.u64.wrap (bits .and .u64 (IntKind.u64.wrap (IntKind.u64.wrap (x / 4294967296 * bits .and .u64 y 4294967295) + IntKind.u64.wrap (bits .and .u64 x 4294967295 * bits .and .u64 y 4294967295) / 4294967296)) 4294967295 + IntKind.u64.wrap (bits .and .u64 x 4294967295 * (y / 4294967296))) / 4294967296) = x * y / 18446744073709551616 := by
  rw [mask32 x x0 x1, mask32 y y0 y1]
  simp only [IntKind.wrap_u64]
  rw [mask32 _ (by omega) (by omega)]
  have ex : x = 4294967296 * (x / 4294967296) + x % 4294967296 := by omega
  have ey : y = 4294967296 * (y / 4294967296) + y % 4294967296 := by omega
  have e : x * y = 18446744073709551616 * (x / 4294967296 * (y / 4294967296)) + 4294967296 * (x / 4294967296 * (y % 4294967296)) + 4294967296 * (x % 4294967296 * (y / 4294967296)) + x % 4294967296 * (y % 4294967296) := by
    conv => lhs; rw [ex, ey]
    grind
  rw [e]
  have b1 := prod32 (a := x / 4294967296) (b := y / 4294967296) (by omega) (by omega) (by omega) (by omega)
  have b2 := prod32 (a := x / 4294967296) (b := y % 4294967296) (by omega) (by omega) (by omega) (by omega)
  have b3 := prod32 (a := x % 4294967296) (b := y / 4294967296) (by omega) (by omega) (by omega) (by omega)
  have b4 := prod32 (a := x % 4294967296) (b := y % 4294967296) (by omega) (by omega) (by omega) (by omega)
  clear e ex ey
  generalize x / 4294967296 * (y / 4294967296) = p1 at *
  generalize x / 4294967296 * (y % 4294967296) = p2 at *
  generalize x % 4294967296 * (y / 4294967296) = p3 at *
  generalize x % 4294967296 * (y % 4294967296) = p4 at *
  clear x0 x1 y0 y1
  omega
set_option maxHeartbeats 1000000 in
theorem mul64_any (x y : Int) (w : World) (x0 : 0 ≤ x) (x1 : x < 18446744073709551616) (y0 : 0 ≤ y) (y1 : y < 18446744073709551616) :
    Calls Try.prog 65 #[.int .u64 x, .int .u64 y] w fun e w' => e = .returned (.tuple #[.int .u64 (x * y / 18446744073709551616), .int .u64 (x * y % 18446744073709551616)]) ∧ w' = w := by
  go_enter Try.func65, Try.ntmps65
  go_wp2
  go_ret2
  exact ⟨ret_int2 (mul_hi x y x0 x1 y0 y1) (IntKind.wrap_u64 _), rfl⟩
/-- block g alone has turned, into the limbs l -/
structure Up (g : Nat) (T : TypeId) (l : List Int) (w w' : World) : Prop where
  but : But (fun k => k = g) w w'
  row : w'.heap[g]? = some (.cells (VI .u64 l) T (0, 0))
theorem Up.setRow {g : Nat} {T : TypeId} {w : World} {old : Array Value} (hg : w.heap[g]? = some (.cells old T (0, 0))) (l : List Int) : Up g T l w (w.setRow g (VI .u64 l)) :=
  ⟨⟨rfl, rfl, rfl, size_setRow _ _ _, fun k hk => setRow_other w g k _ hk⟩, setRow_heap w g _ _ T _ hg⟩
theorem Up.drew {g : Nat} {T : TypeId} {l : List Int} {w w' : World} (h : Up g T l w w') : Up g T l w w'.drew := ⟨h.but.drew, h.row⟩
theorem But.trans {S : Nat → Prop} {a b c : World} (h : But S a b) (k : But S b c) : But S a c :=
  ⟨k.os.trans h.os, k.tape.trans h.tape, k.output.trans h.output, k.size.trans h.size, fun i hi => (k.block i hi).trans (h.block i hi)⟩
theorem Up.set {g : Nat} {T : TypeId} {l : List Int} {w w' : World} (h : Up g T l w w') (i : Nat) (v : Int) : Up g T (l.set i v) w (w'.setCell ⟨g, i, none⟩ (.int .u64 v)) :=
  ⟨h.but.setCell rfl _, by rw [heap_setCell_same w' _ _ _ _ _ h.row, VI_set]⟩
theorem Up.cell {g : Nat} {T : TypeId} {l : List Int} {w w' : World} (h : Up g T l w w') {i : Nat} (hi : i < l.length) : w'.cell? ⟨g, i, none⟩ = some (.int .u64 (l.getD i 0)) := by
  rw [cell_of_row w' _ _ _ _ _ h.row, VI_at _ _ _ hi]
theorem Up.frozen {g : Nat} {T : TypeId} {l : List Int} {w w' : World} (h : Up g T l w w') (i : Nat) : w'.frozen? ⟨g, i, none⟩ = false := frozen_of_row w' _ _ _ _ h.row
theorem Up.trans {g : Nat} {T S : TypeId} {l m : List Int} {a b c : World} (h : Up g T l a b) (k : Up g S m b c) : Up g S m a c := ⟨But.trans h.but k.but, k.row⟩
theorem Up.refl {g : Nat} {T : TypeId} {l : List Int} {w : World} (h : w.heap[g]? = some (.cells (VI .u64 l) T (0, 0))) : Up g T l w w := ⟨But.refl _ _, h⟩
set_option maxHeartbeats 1000000 in
theorem settle_any (g : Nat) (T : TypeId) (l : List Int) (h5 : l.length = 5) (hb : ∀ x ∈ l, 0 ≤ x ∧ x < 1152921504606846976) (w : World) (hg : w.heap[g]? = some (.cells (VI .u64 l) T (0, 0))) :
    Calls Try.prog 57 #[.pointer (some ⟨g, 0, none⟩)] w fun e w' => e = .returned (.tuple #[]) ∧ Up g T (stl l) w w' := by
  have HG : Hid (w.heap[g]? = some (.cells (VI .u64 l) T (0, 0))) := hg
  have HB : Hid (∀ x ∈ l, 0 ≤ x ∧ x < 9223372036854775808) := fun x hx => by have := hb x hx; omega
  obtain ⟨_, _, _, _, c0, c1⟩ := stl_lim l h5 (fun x hx => by have := hb x hx; omega)
  have hU := Up.setRow hg (cy 0 l)
  have hcell := hU.cell (i := 0) (by rw [cy_len]; omega)
  have hfr := hU.frozen 0
  have hy := cy_lt l 0 ((cy 0 l).getD 0 0) (by
    have : 0 < (cy 0 l).length := by rw [cy_len]; omega
    rw [List.getD_eq_getElem?_getD, List.getElem?_eq_getElem this]; exact List.getElem_mem this)
  have HS : Hid (∀ W, Up g T (cy 0 l) w W → Up g T (stl l) w (W.setCell ⟨g, 0, none⟩ (.int .u64 ((cy 0 l).getD 0 0 + 19 * co 0 l)))) := fun W h => h.set 0 _
  obtain ⟨W, hW⟩ : ∃ W, w.setRow g (VI .u64 (cy 0 l)) = W := ⟨_, rfl⟩
  rw [hW] at hU hcell hfr
  have HU : Hid (Up g T (cy 0 l) w W) := hU
  obtain ⟨y0, y1⟩ := hy
  clear hg hb hU
  generalize (cy 0 l).getD 0 0 = y at *
  go_enter Try.func57, Try.ntmps57
  go_wp2_with (go_at_call 59; refine (carry_any g T l h5 HB.out w HG.out).mono ?_; rintro e w' ⟨rfl, rfl⟩)
  generalize co 0 l = c at *
  go_region
  go_wp2
  go_end0
  exact ⟨rfl, (HS.out _ HU.out).drew⟩
end Go.Proofs.Ytlffamcifahbjaa
namespace Go.Proofs.Ytlffamcifahbjaa
set_option linter.unusedSimpArgs false
open Go.ChangeShapes Go.WideShapes Go.ChangeAt Go.RowKit Go.Pin Go.Fld
/-- two words -/
abbrev wd (s : Int) : Array Value := #[.int .u64 (s / 18446744073709551616), .int .u64 (s % 18446744073709551616)]
theorem plus_math (s p : Int) (s0 : 0 ≤ s) (p0 : 0 ≤ p) (h : s + p < 340282366920938463463374607431768211456) :
    (p / 18446744073709551616 + s / 18446744073709551616 + (p % 18446744073709551616 + s % 18446744073709551616 + 0) / 18446744073709551616) % 18446744073709551616 = (s + p) / 18446744073709551616 ∧
    (p % 18446744073709551616 + s % 18446744073709551616 + 0) % 18446744073709551616 = (s + p) % 18446744073709551616 := by omega
set_option maxHeartbeats 1000000 in
theorem plus_core (x y sh sl ph pl u v t z : Int) (w : World)
    (HX : Hid (∀ w, Calls Try.prog 65 #[.int .u64 x, .int .u64 y] w fun e w' => e = .returned (.tuple #[.int .u64 ph, .int .u64 pl]) ∧ w' = w))
    (r1 : ∀ w, (callFunc 66 #[.int .u64 pl, .int .u64 sl, .int .u64 0]).run Try.prog w = .ok (.value (.tuple #[.int .u64 u, .int .u64 v])) w)
    (r2 : ∀ w, (callFunc 66 #[.int .u64 ph, .int .u64 sh, .int .u64 v]).run Try.prog w = .ok (.value (.tuple #[.int .u64 t, .int .u64 z])) w) :
    Calls Try.prog 58 #[.agg #[.int .u64 sh, .int .u64 sl], .int .u64 x, .int .u64 y] w fun e w' => e = .returned (.agg #[.int .u64 t, .int .u64 u]) ∧ Below w.heap.size w w' := by
  go_enter Try.func58, Try.ntmps58
  go_wp2_with (go_at_call 65; refine (HX.out _).mono ?_; rintro e w' ⟨rfl, rfl⟩)
  exact bodyPost_ret (v := .agg #[.int .u64 t, .int .u64 u]) (by simp [results, Try.results58, go_sem]) rfl ⟨rfl, ((Below.refl _ _).alloc (Nat.le_refl _) _).alloc (by simp) _⟩
theorem plus_any (s x y : Int) (w : World) (s0 : 0 ≤ s) (x0 : 0 ≤ x) (x1 : x < 18446744073709551616) (y0 : 0 ≤ y) (y1 : y < 18446744073709551616) (h : s + x * y < 340282366920938463463374607431768211456) :
    Calls Try.prog 58 #[.agg (wd s), .int .u64 x, .int .u64 y] w fun e w' => e = .returned (.agg (wd (s + x * y))) ∧ Below w.heap.size w w' := by
  have p0 := Int.mul_nonneg x0 y0
  obtain ⟨m1, m2⟩ := plus_math s (x * y) s0 p0 h
  have hc := plus_core x y (s / 18446744073709551616) (s % 18446744073709551616) (x * y / 18446744073709551616) (x * y % 18446744073709551616) _ _ _ _ w (fun w => mul64_any x y w x0 x1 y0 y1)
    (fun w => add64_run (x * y % 18446744073709551616) (s % 18446744073709551616) 0 (by omega) (by omega) (by omega) (by omega) w)
    (fun w => add64_run (x * y / 18446744073709551616) (s / 18446744073709551616) ((x * y % 18446744073709551616 + s % 18446744073709551616 + 0) / 18446744073709551616) (by omega) (by omega) (by omega) (by omega) w)
  rw [m1, m2] at hc
  exact hc
end Go.Proofs.Ytlffamcifahbjaa
namespace Go.Fld
/-- 19 times the limbs, and the limbs -/
def rw10 (b : List Int) : List Int := b.map (19 * ·) ++ b
def sm (a R : List Int) (place : Nat) : Nat → Int
  | 0 => 0
  | k + 1 => sm a R place k + a.getD k 0 * R.getD (place + 5 - k) 0
/-- the sums of the five places -/
def sums (a b : List Int) : List Int := [sm a (rw10 b) 0 5, sm a (rw10 b) 1 5, sm a (rw10 b) 2 5, sm a (rw10 b) 3 5, sm a (rw10 b) 4 5]
/-- the last carry -/
def last (l : List Int) (o : Int) : List Int := [(l.getD 0 0 + 19 * o) % 2251799813685248, l.getD 1 0 + (l.getD 0 0 + 19 * o) / 2251799813685248, l.getD 2 0, l.getD 3 0, l.getD 4 0]
def prod (a b : List Int) : List Int := last (cy 0 (sums a b)) (co 0 (sums a b))
theorem bdp {x y : Int} (x0 : 0 ≤ x) (x1 : x < 4503599627370496) (y0 : 0 ≤ y) (y1 : y < 4503599627370496) : 0 ≤ x * y ∧ x * y < 20282409603651670423947251286016 :=
  ⟨Int.mul_nonneg x0 y0, by
    have h1 : x * y ≤ 4503599627370496 * y := Int.mul_le_mul_of_nonneg_right (by omega) y0
    omega⟩
theorem sums_eq (a0 a1 a2 a3 a4 b0 b1 b2 b3 b4 : Int) : sums [a0, a1, a2, a3, a4] [b0, b1, b2, b3, b4] =
    [a0 * b0 + 19 * (a1 * b4 + a2 * b3 + a3 * b2 + a4 * b1), a0 * b1 + a1 * b0 + 19 * (a2 * b4 + a3 * b3 + a4 * b2), a0 * b2 + a1 * b1 + a2 * b0 + 19 * (a3 * b4 + a4 * b3), a0 * b3 + a1 * b2 + a2 * b1 + a3 * b0 + 19 * (a4 * b4), a0 * b4 + a1 * b3 + a2 * b2 + a3 * b1 + a4 * b0] := by
  simp [sums, sm, rw10]
  grind
theorem V_sums (a0 a1 a2 a3 a4 b0 b1 b2 b3 b4 : Int) : V [a0, a1, a2, a3, a4] * V [b0, b1, b2, b3, b4] =
    V (sums [a0, a1, a2, a3, a4] [b0, b1, b2, b3, b4]) + 57896044618658097711785492504343953926634992332820282019728792003956564819949 * (a1 * b4 + a2 * b3 + a3 * b2 + a4 * b1 + 2251799813685248 * (a2 * b4 + a3 * b3 + a4 * b2) + 2251799813685248 ^ 2 * (a3 * b4 + a4 * b3) + 2251799813685248 ^ 3 * (a4 * b4)) := by
  rw [sums_eq]
  simp only [V_cons, V_nil]
  grind
theorem sums_bd {a b : List Int} (ha : Lim a) (hb : Lim b) : (∀ x ∈ sums a b, 0 ≤ x ∧ x < 2596148429267413814265248164610048) ∧ (sums a b).length = 5 ∧ (sums a b).getD 4 0 < 101412048018258352119736256430080 := by
  obtain ⟨a0, a1, a2, a3, a4, rfl⟩ := five ha.len
  obtain ⟨b0, b1, b2, b3, b4, rfl⟩ := five hb.len
  rw [sums_eq]
  have hA := ha.bd
  have hB := hb.bd
  simp only [List.mem_cons, List.not_mem_nil, or_false, forall_eq_or_imp, forall_eq] at hA hB
  obtain ⟨⟨A0, A0'⟩, ⟨A1, A1'⟩, ⟨A2, A2'⟩, ⟨A3, A3'⟩, ⟨A4, A4'⟩⟩ := hA
  obtain ⟨⟨B0, B0'⟩, ⟨B1, B1'⟩, ⟨B2, B2'⟩, ⟨B3, B3'⟩, ⟨B4, B4'⟩⟩ := hB
  have p00 := bdp A0 A0' B0 B0'
  have p01 := bdp A0 A0' B1 B1'
  have p02 := bdp A0 A0' B2 B2'
  have p03 := bdp A0 A0' B3 B3'
  have p04 := bdp A0 A0' B4 B4'
  have p10 := bdp A1 A1' B0 B0'
  have p11 := bdp A1 A1' B1 B1'
  have p12 := bdp A1 A1' B2 B2'
  have p13 := bdp A1 A1' B3 B3'
  have p14 := bdp A1 A1' B4 B4'
  have p20 := bdp A2 A2' B0 B0'
  have p21 := bdp A2 A2' B1 B1'
  have p22 := bdp A2 A2' B2 B2'
  have p23 := bdp A2 A2' B3 B3'
  have p24 := bdp A2 A2' B4 B4'
  have p30 := bdp A3 A3' B0 B0'
  have p31 := bdp A3 A3' B1 B1'
  have p32 := bdp A3 A3' B2 B2'
  have p33 := bdp A3 A3' B3 B3'
  have p34 := bdp A3 A3' B4 B4'
  have p40 := bdp A4 A4' B0 B0'
  have p41 := bdp A4 A4' B1 B1'
  have p42 := bdp A4 A4' B2 B2'
  have p43 := bdp A4 A4' B3 B3'
  have p44 := bdp A4 A4' B4 B4'
  clear A0 A0' A1 A1' A2 A2' A3 A3' A4 A4' B0 B0' B1 B1' B2 B2' B3 B3' B4 B4' ha hb
  refine ⟨?_, rfl, ?_⟩
  · intro x hx
    simp only [List.mem_cons, List.not_mem_nil, or_false] at hx
    rcases hx with rfl | rfl | rfl | rfl | rfl <;> omega
  · show a0 * b4 + a1 * b3 + a2 * b2 + a3 * b1 + a4 * b0 < _
    omega
theorem co_split : ∀ (l m : List Int) (o : Int), co o (l ++ m) = co (co o l) m
  | [], _, _ => rfl
  | x :: l, m, o => by simp only [List.cons_append, co]; exact co_split l m _
theorem sums_over {a b : List Int} (ha : Lim a) (hb : Lim b) : 0 ≤ co 0 (sums a b) ∧ co 0 (sums a b) < 72057594037927936 := by
  obtain ⟨h1, h2, h3⟩ := sums_bd ha hb
  obtain ⟨s0, s1, s2, s3, s4, hs⟩ := five h2
  rw [hs] at h1 h3 ⊢
  have e : co 0 [s0, s1, s2, s3, s4] = (s4 + co 0 [s0, s1, s2, s3]) / 2251799813685248 := by
    rw [show [s0, s1, s2, s3, s4] = [s0, s1, s2, s3] ++ [s4] from rfl, co_split]
    rfl
  rw [e]
  have hb := co_bd [s0, s1, s2, s3] 0 2305843009213693952 (by decide) (by decide) (fun x hx => by
    have := h1 x (by simp only [List.mem_cons, List.not_mem_nil, or_false] at hx ⊢; rcases hx with h | h | h | h <;> simp [h])
    omega)
  have h4 : s4 < 101412048018258352119736256430080 := by simpa using h3
  have h5 := h1 s4 (by simp)
  omega
theorem prod_el {a b : List Int} (ha : Lim a) (hb : Lim b) : Lim (prod a b) ∧ V (prod a b) % 57896044618658097711785492504343953926634992332820282019728792003956564819949 = (V a * V b) % 57896044618658097711785492504343953926634992332820282019728792003956564819949 := by
  obtain ⟨o0, o1⟩ := sums_over ha hb
  obtain ⟨s1, s2, _⟩ := sums_bd ha hb
  have hv := cy_V (sums a b) 0
  have hlt := cy_lt (sums a b) 0
  have hl := cy_len (sums a b) 0
  rw [s2] at hl hv
  obtain ⟨a0, a1, a2, a3, a4, rfl⟩ := five ha.len
  obtain ⟨b0, b1, b2, b3, b4, rfl⟩ := five hb.len
  have hV := V_sums a0 a1 a2 a3 a4 b0 b1 b2 b3 b4
  unfold prod
  generalize co 0 (sums [a0, a1, a2, a3, a4] [b0, b1, b2, b3, b4]) = o at *
  obtain ⟨c0, c1, c2, c3, c4, hc⟩ := five hl
  rw [hc] at hlt hv ⊢
  simp only [List.mem_cons, List.not_mem_nil, or_false, forall_eq_or_imp, forall_eq] at hlt
  simp only [last, List.getD_cons_zero, List.getD_cons_succ]
  refine ⟨⟨rfl, ?_⟩, ?_⟩
  · intro x hx
    simp only [List.mem_cons, List.not_mem_nil, or_false] at hx
    rcases hx with rfl | rfl | rfl | rfl | rfl <;> omega
  · rw [hV]
    have hr : (2251799813685248 : Int) ^ 5 = 57896044618658097711785492504343953926634992332820282019728792003956564819968 := by decide
    rw [hr] at hv
    have e2 : V [(c0 + 19 * o) % 2251799813685248, c1 + (c0 + 19 * o) / 2251799813685248, c2, c3, c4] = V [c0, c1, c2, c3, c4] + 19 * o := by
      simp only [V_cons]
      omega
    rw [e2]
    generalize V (sums [a0, a1, a2, a3, a4] [b0, b1, b2, b3, b4]) = z at *
    generalize V [c0, c1, c2, c3, c4] = y at *
    generalize a1 * b4 + a2 * b3 + a3 * b2 + a4 * b1 + 2251799813685248 * (a2 * b4 + a3 * b3 + a4 * b2) + 2251799813685248 ^ 2 * (a3 * b4 + a4 * b3) + 2251799813685248 ^ 3 * (a4 * b4) = q
    omega
end Go.Fld
