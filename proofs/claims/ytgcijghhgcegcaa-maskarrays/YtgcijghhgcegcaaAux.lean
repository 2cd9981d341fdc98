import Derived.WalkKit
import Derived.WalkSpells
import Derived.WalkLawsBesides
import Derived.Laws.BitsAllLaws
import Derived.Laws.StructEq
import Derived.Deep.WholeRow
import Derived.Lib.SliceRun
namespace Go.Pin

/-! Numbers of 64 and of 8 digits as bit vectors -/
theorem ofBv64 {a : Int} (h0 : 0 ≤ a) (h1 : a < 18446744073709551616) : ∃ x : BitVec 64, a = (x.toNat : Int) :=
  ⟨BitVec.ofNat 64 a.toNat, by rw [BitVec.toNat_ofNat, Nat.mod_eq_of_lt (by omega)]; omega⟩
theorem ofBv8 {a : Int} (h0 : 0 ≤ a) (h1 : a < 256) : ∃ x : BitVec 8, a = (x.toNat : Int) :=
  ⟨BitVec.ofNat 8 a.toNat, by rw [BitVec.toNat_ofNat, Nat.mod_eq_of_lt (by omega)]; omega⟩
theorem xor64 (x y : BitVec 64) : bits .xor .u64 (x.toNat : Int) (y.toNat : Int) = ((x ^^^ y).toNat : Int) := by
  rw [u64_xor_nat _ _ x.isLt y.isLt, BitVec.toNat_xor]
theorem or64 (x y : BitVec 64) : bits .or .u64 (x.toNat : Int) (y.toNat : Int) = ((x ||| y).toNat : Int) := by
  rw [u64_or_nat _ _ x.isLt y.isLt, BitVec.toNat_or]
theorem and64 (x y : BitVec 64) : bits .and .u64 (x.toNat : Int) (y.toNat : Int) = ((x &&& y).toNat : Int) := by
  rw [u64_and_nat _ _ x.isLt y.isLt, BitVec.toNat_and]
theorem xor8 (x y : BitVec 8) : bits .xor .u8 (x.toNat : Int) (y.toNat : Int) = ((x ^^^ y).toNat : Int) := by
  rw [u8_xor_nat _ _ x.isLt y.isLt, BitVec.toNat_xor]
theorem or8 (x y : BitVec 8) : bits .or .u8 (x.toNat : Int) (y.toNat : Int) = ((x ||| y).toNat : Int) := by
  rw [u8_or_nat _ _ x.isLt y.isLt, BitVec.toNat_or]
theorem and8 (x y : BitVec 8) : bits .and .u8 (x.toNat : Int) (y.toNat : Int) = ((x &&& y).toNat : Int) := by
  rw [u8_and_nat _ _ x.isLt y.isLt, BitVec.toNat_and]
theorem neg64 (x : BitVec 64) : IntKind.u64.wrap (-(x.toNat : Int)) = ((-x).toNat : Int) := by
  rw [IntKind.wrap_u64, BitVec.toNat_neg]
  have := x.isLt
  omega
theorem sub64 (x y : BitVec 64) : IntKind.u64.wrap ((x.toNat : Int) - (y.toNat : Int)) = ((x - y).toNat : Int) := by
  rw [IntKind.wrap_u64, BitVec.toNat_sub]
  have := x.isLt
  have := y.isLt
  omega
theorem max64 : IntKind.u64.max = ((BitVec.allOnes 64).toNat : Int) := by decide
theorem one64 : (1 : Int) = ((1#64 : BitVec 64).toNat : Int) := by decide
theorem top64 (x : BitVec 64) : (x.toNat : Int) / 9223372036854775808 = if x.msb then 1 else 0 := by
  rw [BitVec.msb_eq_decide]
  have := x.isLt
  by_cases h : 2 ^ (64 - 1) ≤ x.toNat
  · simp [h]; omega
  · simp [h]; omega

/-! The document's bits -/
def eqB (a b : Int) : Int := if a = b then 1 else 0
def ltB (a b : Int) : Int := if a < b then 1 else 0
def pickI (s a b : Int) : Int := if s % 2 = 1 then a else b

theorem equal_math (a b : Int) (a0 : 0 ≤ a) (a1 : a < 18446744073709551616) (b0 : 0 ≤ b) (b1 : b < 18446744073709551616) :
    bits .xor .u64 (bits .or .u64 (bits .xor .u64 a b) (IntKind.u64.wrap (-bits .xor .u64 a b)) / 9223372036854775808) 1 = eqB a b := by
  obtain ⟨x, rfl⟩ := ofBv64 a0 a1
  obtain ⟨y, rfl⟩ := ofBv64 b0 b1
  rw [xor64, neg64, or64, top64]
  unfold eqB
  by_cases h : x = y
  · subst h
    simp
    decide
  · have hd : x ^^^ y ≠ 0#64 := by simpa using h
    have hm : ((x ^^^ y) ||| -(x ^^^ y)).msb = true := by
      rw [BitVec.msb_or, BitVec.msb_neg]
      by_cases h2 : x ^^^ y = BitVec.intMin 64
      · rw [h2]; decide
      · generalize x ^^^ y = d at *
        cases hb : d.msb <;> simp [hd, h2]
    have hne : ¬ ((x.toNat : Int) = (y.toNat : Int)) := by
      intro e
      exact h (BitVec.eq_of_toNat_eq (by omega))
    rw [hm, if_neg hne]
    decide

theorem less_math (a b : Int) (a0 : 0 ≤ a) (a1 : a < 18446744073709551616) (b0 : 0 ≤ b) (b1 : b < 18446744073709551616) :
    bits .or .u64 (bits .and .u64 (bits .xor .u64 IntKind.u64.max a) b) (bits .and .u64 (bits .xor .u64 IntKind.u64.max (bits .xor .u64 a b)) (IntKind.u64.wrap (a - b))) / 9223372036854775808 = ltB a b := by
  obtain ⟨x, rfl⟩ := ofBv64 a0 a1
  obtain ⟨y, rfl⟩ := ofBv64 b0 b1
  rw [max64, xor64, xor64, xor64, sub64, and64, and64, or64, top64]
  unfold ltB
  have hx := x.isLt
  have hy := y.isLt
  have h1 : ((BitVec.allOnes 64 ^^^ x) &&& y ||| (BitVec.allOnes 64 ^^^ (x ^^^ y)) &&& (x - y)).msb = ((!x.msb && y.msb) || (!(x.msb ^^ y.msb) && (x - y).msb)) := by
    have ho : (BitVec.allOnes 64).msb = true := by decide
    rw [BitVec.msb_or, BitVec.msb_and, BitVec.msb_and, BitVec.msb_xor, BitVec.msb_xor, BitVec.msb_xor, ho]
    simp
  rw [h1, BitVec.msb_eq_decide, BitVec.msb_eq_decide, BitVec.msb_eq_decide, BitVec.toNat_sub]
  by_cases hx1 : 2 ^ (64 - 1) ≤ x.toNat <;> by_cases hy1 : 2 ^ (64 - 1) ≤ y.toNat <;> by_cases hlt : x.toNat < y.toNat
  all_goals (
    have hlt' : ((x.toNat : Int) < (y.toNat : Int)) = (x.toNat < y.toNat) := by simp
    simp only [hlt', hlt, hx1, hy1]
    simp
    try omega)

theorem pick_math (s a b : Int) (s0 : 0 ≤ s) (s1 : s < 18446744073709551616) (a0 : 0 ≤ a) (a1 : a < 18446744073709551616) (b0 : 0 ≤ b) (b1 : b < 18446744073709551616) :
    bits .xor .u64 b (bits .and .u64 (IntKind.u64.wrap (-bits .and .u64 s 1)) (bits .xor .u64 a b)) = pickI s a b := by
  obtain ⟨x, rfl⟩ := ofBv64 a0 a1
  obtain ⟨y, rfl⟩ := ofBv64 b0 b1
  obtain ⟨z, rfl⟩ := ofBv64 s0 s1
  have hz : bits .and .u64 (z.toNat : Int) 1 = ((z.toNat % 2 : Nat) : Int) := by
    have := u64_and_nat z.toNat 1 z.isLt (by decide)
    rw [nat_mask1] at this
    exact this
  unfold pickI
  rcases Nat.mod_two_eq_zero_or_one z.toNat with h | h
  · have h' : ¬ ((z.toNat : Int) % 2 = 1) := by omega
    rw [hz, h, if_neg h', xor64, show IntKind.u64.wrap (-((0 : Nat) : Int)) = ((0#64).toNat : Int) by decide, and64, xor64]
    simp
  · have h' : ((z.toNat : Int) % 2 = 1) := by omega
    rw [hz, h, if_pos h', xor64, show IntKind.u64.wrap (-((1 : Nat) : Int)) = ((BitVec.allOnes 64).toNat : Int) by decide, and64, xor64]
    rw [BitVec.allOnes_and, BitVec.xor_comm x y, ← BitVec.xor_assoc]
    simp

/-! Rows of numbers -/
def VI (k : IntKind) (l : List Int) : Array Value := (l.map (Value.int k)).toArray
@[simp] theorem VI_size (k : IntKind) (l : List Int) : (VI k l).size = l.length := by simp [VI]
theorem VI_at (k : IntKind) (l : List Int) (i : Nat) (h : i < l.length) : (VI k l)[i]? = some (.int k (l.getD i 0)) := by
  simp [VI, h, List.getD]
@[go_sem] theorem VI_get (k : IntKind) (l : List Int) (i : Nat) (h : i < (VI k l).size) : (VI k l)[i] = .int k (l[i]?.getD 0) := by
  have h' : i < l.length := by simpa using h
  simp [VI, h']
theorem heap_alloc_any (w : World) (o : Obj) (i : Nat) : (w.alloc o).heap[i]? = if i = w.heap.size then some o else w.heap[i]? := by
  show (w.heap.push o)[i]? = _
  rw [Array.getElem?_push]
theorem size_alloc (w : World) (o : Obj) : (w.alloc o).heap.size = w.heap.size + 1 := by
  show (w.heap.push o).size = _
  simp
theorem heap3_0 (w : World) (A B C : Obj) : (((w.alloc A).alloc B).alloc C).heap[w.heap.size]? = some A := by
  simp only [heap_alloc_any, size_alloc]
  rw [if_neg (by omega), if_neg (by omega), if_pos trivial]
theorem heap3_1 (w : World) (A B C : Obj) : (((w.alloc A).alloc B).alloc C).heap[w.heap.size + 1]? = some B := by
  simp only [heap_alloc_any, size_alloc]
  rw [if_neg (by omega), if_pos (by trivial)]
theorem heap3_2 (w : World) (A B C : Obj) : (((w.alloc A).alloc B).alloc C).heap[w.heap.size + 2]? = some C := by
  simp only [heap_alloc_any, size_alloc]
  rw [if_pos (by trivial)]
theorem VI_one (k : IntKind) (l : List Int) : (VI k l).all (·.oneCell') = true := by
  apply Array.all_eq_true_iff_forall_mem.2
  intro v hv
  simp only [VI, List.mem_toArray, List.mem_map] at hv
  obtain ⟨n, _, rfl⟩ := hv
  rfl
theorem VI_set (k : IntKind) (l : List Int) (i : Nat) (v : Int) : (VI k l).setIfInBounds i (.int k v) = VI k (l.set i v) := by
  simp [VI, List.map_set]
theorem VI_inj {k : IntKind} {l m : List Int} (h : VI k l = VI k m) : l = m := by
  have h2 : l.map (Value.int k) = m.map (Value.int k) := by simpa [VI] using h
  exact (List.map_inj_right (fun a b e => by injection e)).1 h2

section
variable {P : Program}
theorem run_index_row (w : World) (t e : TypeId) (k kk : IntKind) (n : Nat) (l : List Int) (i : Nat) (hl : l.length = n) (hi : i < n)
    (ht : P.underlying t = some (.array n e)) (he : P.underlying e = some (.int k)) (hs : ∀ w, (sizeOf e).run P w = .ok 1 w) :
    (Instr.index t (.agg (VI k l)) (.int kk (i : Int))).run P w = .ok (.int k (l.getD i 0)) w := by
  subst hl
  have h1 : (0 : Int) ≤ (i : Int) ∧ (i : Int) < ((l.length : Nat) : Int) := by omega
  simp [Instr.index, run_underlying ht, asIntOf, hi, go_sem, hs, part, isAgg, run_underlying he]

theorem run_equalIn_row (w : World) (d : Nat) (t e : TypeId) (k : IntKind) (n : Nat) (xs ys : List Int) (hx : xs.length = n) (hy : ys.length = n)
    (ht : P.underlying t = some (.array n e)) (he : P.underlying e = some (.int k)) (hsz : ∀ w, (sizeOf e).run P w = .ok 1 w) :
    (Op.equalIn (d + 2) t (.agg (VI k xs)) (.agg (VI k ys))).run P w = .ok (xs == ys) w := by
  have hall : ∀ (xs ys : List Int), xs.length = ys.length → ((List.range xs.length).all fun i => xs.getD i 0 == ys.getD i 0) = (xs == ys) := by
    intro xs
    induction xs with
    | nil => intro ys h; cases ys with | nil => rfl | cons _ _ => simp at h
    | cons x xs ih =>
      intro ys h
      cases ys with
      | nil => simp at h
      | cons y ys =>
        have ih' := ih ys (by simpa using h)
        rw [List.length_cons, List.range_succ_eq_map, List.all_cons, List.all_map]
        simp only [List.getD_cons_zero, Function.comp_def, List.getD_cons_succ, ih']
        simp [List.cons_beq_cons]
  rw [← hall xs ys (hx.trans hy.symm), hx, List.range_eq_range', Op.equalIn]
  simp only [Sem.run_bind, run_underlying ht, Result.andThen_ok, hsz, Std.Legacy.Range.forIn_eq_forIn_range', Std.Legacy.Range.size, Nat.sub_zero, Nat.add_sub_cancel, Nat.div_one]
  have hl : ∀ i ∈ List.range' 0 n 1, i < n := fun i hi => by simpa using (List.mem_range'_1.1 hi).2
  generalize List.range' 0 n 1 = l at hl ⊢
  induction l with
  | nil => simp
  | cons i l ih =>
    have hi : i < n := hl i (by simp)
    have px : (part e (VI k xs) (i * 1)).run P w = .ok (.int k (xs.getD i 0)) w := by
      have := VI_at k xs i (by omega)
      simp only [part, isAgg, Sem.run_bind, run_underlying he, Result.andThen_ok, Nat.mul_one, this]
      simp
    have py : (part e (VI k ys) (i * 1)).run P w = .ok (.int k (ys.getD i 0)) w := by
      have := VI_at k ys i (by omega)
      simp only [part, isAgg, Sem.run_bind, run_underlying he, Result.andThen_ok, Nat.mul_one, this]
      simp
    have pe : (Op.equalIn (d + 1) e (.int k (xs.getD i 0)) (.int k (ys.getD i 0))).run P w = .ok (xs.getD i 0 == ys.getD i 0) w :=
      run_equalIn_int w d e k k _ _ he
    simp only [List.forIn_cons, Sem.run_bind, px, py, pe, Result.andThen_ok, List.all_cons]
    cases hb : (xs.getD i 0 == ys.getD i 0)
    · simp
    · simp only [Bool.not_true, Bool.false_eq_true, if_false, Sem.run_pure, Result.andThen_ok, Bool.true_and]
      exact ih fun j hj => hl j (by simp [hj])
end
end Go.Pin
