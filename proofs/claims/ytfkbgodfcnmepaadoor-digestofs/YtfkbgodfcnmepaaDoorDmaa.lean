import Derived.WalkKit
import Derived.WalkSpells
import Derived.WalkLawsBesides
import Derived.Laws.BitsAllLaws
import Derived.Laws.StructEq
import Derived.Laws.BytesString
import Derived.Deep.WholeRow
import Derived.Deep.MidRow
import Derived.Deep.RegionHeld3
import Derived.Deep.DeepCutAuto
import Derived.Deep.QuietTactic
import Derived.BigQuiet
import Derived.BigFrame
import Derived.Lib.SliceRun
import Derived.Lib.SlBytesConst
import Derived.SizedLaws
import Derived.ProofKit
import Derived.OpenShut
import Derived.ShutString
import Derived.ChangeOld
import Derived.Below
import Derived.Test.YtfkbgodfcnmepaaDoorRows
namespace Go.Pin

/-! Numbers of 64 and of 8 digits as bit vectors -/
theorem ofBv64 {a : Int} (h0 : 0 ≤ a) (h1 : a < 18446744073709551616) : ∃ x : BitVec 64, a = (x.toNat : Int) :=
  ⟨BitVec.ofNat 64 a.toNat, by rw [BitVec.toNat_ofNat, Nat.mod_eq_of_lt (by omega)]; omega⟩
theorem ofBv8 {a : Int} (h0 : 0 ≤ a) (h1 : a < 256) : ∃ x : BitVec 8, a = (x.toNat : Int) :=
  ⟨BitVec.ofNat 8 a.toNat, by rw [BitVec.toNat_ofNat, Nat.mod_eq_of_lt (by omega)]; omega⟩
theorem xor64 (x y : BitVec 64) : bits .xor .u64 (x.toNat : Int) (y.toNat : Int) = ((x ^^^ y).toNat : Int) := by
  rw [u64_xor_nat _ _ x.isLt y.isLt, BitVec.toNat_xor]
theorem or64 (x y : BitVec 64) : bits .or .u64 (x.toNat : Int) (y.toNat : Int) = ((x ||| y).toNat : Int) := by
  rw [u64_or_nat _ _ x.isLt y.isLt, BitVec.toNat_or]
theorem and64 (x y : BitVec 64) : bits .and .u64 (x.toNat : Int) (y.toNat : Int) = ((x &&& y).toNat : Int) := by
  rw [u64_and_nat _ _ x.isLt y.isLt, BitVec.toNat_and]
theorem xor8 (x y : BitVec 8) : bits .xor .u8 (x.toNat : Int) (y.toNat : Int) = ((x ^^^ y).toNat : Int) := by
  rw [u8_xor_nat _ _ x.isLt y.isLt, BitVec.toNat_xor]
theorem or8 (x y : BitVec 8) : bits .or .u8 (x.toNat : Int) (y.toNat : Int) = ((x ||| y).toNat : Int) := by
  rw [u8_or_nat _ _ x.isLt y.isLt, BitVec.toNat_or]
theorem and8 (x y : BitVec 8) : bits .and .u8 (x.toNat : Int) (y.toNat : Int) = ((x &&& y).toNat : Int) := by
  rw [u8_and_nat _ _ x.isLt y.isLt, BitVec.toNat_and]
theorem neg64 (x : BitVec 64) : IntKind.u64.wrap (-(x.toNat : Int)) = ((-x).toNat : Int) := by
  rw [IntKind.wrap_u64, BitVec.toNat_neg]
  have := x.isLt
  omega
theorem sub64 (x y : BitVec 64) : IntKind.u64.wrap ((x.toNat : Int) - (y.toNat : Int)) = ((x - y).toNat : Int) := by
  rw [IntKind.wrap_u64, BitVec.toNat_sub]
  have := x.isLt
  have := y.isLt
  omega
theorem max64 : IntKind.u64.max = ((BitVec.allOnes 64).toNat : Int) := by decide
theorem one64 : (1 : Int) = ((1#64 : BitVec 64).toNat : Int) := by decide
theorem top64 (x : BitVec 64) : (x.toNat : Int) / 9223372036854775808 = if x.msb then 1 else 0 := by
  rw [BitVec.msb_eq_decide]
  have := x.isLt
  by_cases h : 2 ^ (64 - 1) ≤ x.toNat
  · simp [h]; omega
  · simp [h]; omega

/-! The document's bits -/
def eqB (a b : Int) : Int := if a = b then 1 else 0
def ltB (a b : Int) : Int := if a < b then 1 else 0
def pickI (s a b : Int) : Int := if s % 2 = 1 then a else b

theorem equal_math (a b : Int) (a0 : 0 ≤ a) (a1 : a < 18446744073709551616) (b0 : 0 ≤ b) (b1 : b < 18446744073709551616) :
    bits .xor .u64 (bits .or .u64 (bits .xor .u64 a b) (IntKind.u64.wrap (-bits .xor .u64 a b)) / 9223372036854775808) 1 = eqB a b := by
  obtain ⟨x, rfl⟩ := ofBv64 a0 a1
  obtain ⟨y, rfl⟩ := ofBv64 b0 b1
  rw [xor64, neg64, or64, top64]
  unfold eqB
  by_cases h : x = y
  · subst h
    simp
    decide
  · have hd : x ^^^ y ≠ 0#64 := by simpa using h
    have hm : ((x ^^^ y) ||| -(x ^^^ y)).msb = true := by
      rw [BitVec.msb_or, BitVec.msb_neg]
      by_cases h2 : x ^^^ y = BitVec.intMin 64
      · rw [h2]; decide
      · generalize x ^^^ y = d at *
        cases hb : d.msb <;> simp [hd, h2]
    have hne : ¬ ((x.toNat : Int) = (y.toNat : Int)) := by
      intro e
      exact h (BitVec.eq_of_toNat_eq (by omega))
    rw [hm, if_neg hne]
    decide

theorem less_math (a b : Int) (a0 : 0 ≤ a) (a1 : a < 18446744073709551616) (b0 : 0 ≤ b) (b1 : b < 18446744073709551616) :
    bits .or .u64 (bits .and .u64 (bits .xor .u64 IntKind.u64.max a) b) (bits .and .u64 (bits .xor .u64 IntKind.u64.max (bits .xor .u64 a b)) (IntKind.u64.wrap (a - b))) / 9223372036854775808 = ltB a b := by
  obtain ⟨x, rfl⟩ := ofBv64 a0 a1
  obtain ⟨y, rfl⟩ := ofBv64 b0 b1
  rw [max64, xor64, xor64, xor64, sub64, and64, and64, or64, top64]
  unfold ltB
  have hx := x.isLt
  have hy := y.isLt
  have h1 : ((BitVec.allOnes 64 ^^^ x) &&& y ||| (BitVec.allOnes 64 ^^^ (x ^^^ y)) &&& (x - y)).msb = ((!x.msb && y.msb) || (!(x.msb ^^ y.msb) && (x - y).msb)) := by
    have ho : (BitVec.allOnes 64).msb = true := by decide
    rw [BitVec.msb_or, BitVec.msb_and, BitVec.msb_and, BitVec.msb_xor, BitVec.msb_xor, BitVec.msb_xor, ho]
    simp
  rw [h1, BitVec.msb_eq_decide, BitVec.msb_eq_decide, BitVec.msb_eq_decide, BitVec.toNat_sub]
  by_cases hx1 : 2 ^ (64 - 1) ≤ x.toNat <;> by_cases hy1 : 2 ^ (64 - 1) ≤ y.toNat <;> by_cases hlt : x.toNat < y.toNat
  all_goals (
    have hlt' : ((x.toNat : Int) < (y.toNat : Int)) = (x.toNat < y.toNat) := by simp
    simp only [hlt', hlt, hx1, hy1]
    simp
    try omega)

theorem pick_math (s a b : Int) (s0 : 0 ≤ s) (s1 : s < 18446744073709551616) (a0 : 0 ≤ a) (a1 : a < 18446744073709551616) (b0 : 0 ≤ b) (b1 : b < 18446744073709551616) :
    bits .xor .u64 b (bits .and .u64 (IntKind.u64.wrap (-bits .and .u64 s 1)) (bits .xor .u64 a b)) = pickI s a b := by
  obtain ⟨x, rfl⟩ := ofBv64 a0 a1
  obtain ⟨y, rfl⟩ := ofBv64 b0 b1
  obtain ⟨z, rfl⟩ := ofBv64 s0 s1
  have hz : bits .and .u64 (z.toNat : Int) 1 = ((z.toNat % 2 : Nat) : Int) := by
    have := u64_and_nat z.toNat 1 z.isLt (by decide)
    rw [nat_mask1] at this
    exact this
  unfold pickI
  rcases Nat.mod_two_eq_zero_or_one z.toNat with h | h
  · have h' : ¬ ((z.toNat : Int) % 2 = 1) := by omega
    rw [hz, h, if_neg h', xor64, show IntKind.u64.wrap (-((0 : Nat) : Int)) = ((0#64).toNat : Int) by decide, and64, xor64]
    simp
  · have h' : ((z.toNat : Int) % 2 = 1) := by omega
    rw [hz, h, if_pos h', xor64, show IntKind.u64.wrap (-((1 : Nat) : Int)) = ((BitVec.allOnes 64).toNat : Int) by decide, and64, xor64]
    rw [BitVec.allOnes_and, BitVec.xor_comm x y, ← BitVec.xor_assoc]
    simp

/-! Rows of numbers -/
def VI (k : IntKind) (l : List Int) : Array Value := (l.map (Value.int k)).toArray
@[simp] theorem VI_size (k : IntKind) (l : List Int) : (VI k l).size = l.length := by simp [VI]
theorem VI_at (k : IntKind) (l : List Int) (i : Nat) (h : i < l.length) : (VI k l)[i]? = some (.int k (l.getD i 0)) := by
  simp [VI, h, List.getD]
@[go_sem] theorem VI_get (k : IntKind) (l : List Int) (i : Nat) (h : i < (VI k l).size) : (VI k l)[i] = .int k (l[i]?.getD 0) := by
  have h' : i < l.length := by simpa using h
  simp [VI, h']
theorem heap_alloc_any (w : World) (o : Obj) (i : Nat) : (w.alloc o).heap[i]? = if i = w.heap.size then some o else w.heap[i]? := by
  show (w.heap.push o)[i]? = _
  rw [Array.getElem?_push]
theorem size_alloc (w : World) (o : Obj) : (w.alloc o).heap.size = w.heap.size + 1 := by
  show (w.heap.push o).size = _
  simp
theorem heap3_0 (w : World) (A B C : Obj) : (((w.alloc A).alloc B).alloc C).heap[w.heap.size]? = some A := by
  simp only [heap_alloc_any, size_alloc]
  rw [if_neg (by omega), if_neg (by omega), if_pos trivial]
theorem heap3_1 (w : World) (A B C : Obj) : (((w.alloc A).alloc B).alloc C).heap[w.heap.size + 1]? = some B := by
  simp only [heap_alloc_any, size_alloc]
  rw [if_neg (by omega), if_pos (by trivial)]
theorem heap3_2 (w : World) (A B C : Obj) : (((w.alloc A).alloc B).alloc C).heap[w.heap.size + 2]? = some C := by
  simp only [heap_alloc_any, size_alloc]
  rw [if_pos (by trivial)]
theorem VI_one (k : IntKind) (l : List Int) : (VI k l).all (·.oneCell') = true := by
  apply Array.all_eq_true_iff_forall_mem.2
  intro v hv
  simp only [VI, List.mem_toArray, List.mem_map] at hv
  obtain ⟨n, _, rfl⟩ := hv
  rfl
theorem VI_set (k : IntKind) (l : List Int) (i : Nat) (v : Int) : (VI k l).setIfInBounds i (.int k v) = VI k (l.set i v) := by
  simp [VI, List.map_set]
theorem VI_inj {k : IntKind} {l m : List Int} (h : VI k l = VI k m) : l = m := by
  have h2 : l.map (Value.int k) = m.map (Value.int k) := by simpa [VI] using h
  exact (List.map_inj_right (fun a b e => by injection e)).1 h2

section
variable {P : Program}
theorem run_index_row (w : World) (t e : TypeId) (k kk : IntKind) (n : Nat) (l : List Int) (i : Nat) (hl : l.length = n) (hi : i < n)
    (ht : P.underlying t = some (.array n e)) (he : P.underlying e = some (.int k)) (hs : ∀ w, (sizeOf e).run P w = .ok 1 w) :
    (Instr.index t (.agg (VI k l)) (.int kk (i : Int))).run P w = .ok (.int k (l.getD i 0)) w := by
  subst hl
  have h1 : (0 : Int) ≤ (i : Int) ∧ (i : Int) < ((l.length : Nat) : Int) := by omega
  simp [Instr.index, run_underlying ht, asIntOf, hi, go_sem, hs, part, isAgg, run_underlying he]

theorem run_equalIn_row (w : World) (d : Nat) (t e : TypeId) (k : IntKind) (n : Nat) (xs ys : List Int) (hx : xs.length = n) (hy : ys.length = n)
    (ht : P.underlying t = some (.array n e)) (he : P.underlying e = some (.int k)) (hsz : ∀ w, (sizeOf e).run P w = .ok 1 w) :
    (Op.equalIn (d + 2) t (.agg (VI k xs)) (.agg (VI k ys))).run P w = .ok (xs == ys) w := by
  have hall : ∀ (xs ys : List Int), xs.length = ys.length → ((List.range xs.length).all fun i => xs.getD i 0 == ys.getD i 0) = (xs == ys) := by
    intro xs
    induction xs with
    | nil => intro ys h; cases ys with | nil => rfl | cons _ _ => simp at h
    | cons x xs ih =>
      intro ys h
      cases ys with
      | nil => simp at h
      | cons y ys =>
        have ih' := ih ys (by simpa using h)
        rw [List.length_cons, List.range_succ_eq_map, List.all_cons, List.all_map]
        simp only [List.getD_cons_zero, Function.comp_def, List.getD_cons_succ, ih']
        simp [List.cons_beq_cons]
  rw [← hall xs ys (hx.trans hy.symm), hx, List.range_eq_range', Op.equalIn]
  simp only [Sem.run_bind, run_underlying ht, Result.andThen_ok, hsz, Std.Legacy.Range.forIn_eq_forIn_range', Std.Legacy.Range.size, Nat.sub_zero, Nat.add_sub_cancel, Nat.div_one]
  have hl : ∀ i ∈ List.range' 0 n 1, i < n := fun i hi => by simpa using (List.mem_range'_1.1 hi).2
  generalize List.range' 0 n 1 = l at hl ⊢
  induction l with
  | nil => simp
  | cons i l ih =>
    have hi : i < n := hl i (by simp)
    have px : (part e (VI k xs) (i * 1)).run P w = .ok (.int k (xs.getD i 0)) w := by
      have := VI_at k xs i (by omega)
      simp only [part, isAgg, Sem.run_bind, run_underlying he, Result.andThen_ok, Nat.mul_one, this]
      simp
    have py : (part e (VI k ys) (i * 1)).run P w = .ok (.int k (ys.getD i 0)) w := by
      have := VI_at k ys i (by omega)
      simp only [part, isAgg, Sem.run_bind, run_underlying he, Result.andThen_ok, Nat.mul_one, this]
      simp
    have pe : (Op.equalIn (d + 1) e (.int k (xs.getD i 0)) (.int k (ys.getD i 0))).run P w = .ok (xs.getD i 0 == ys.getD i 0) w :=
      run_equalIn_int w d e k k _ _ he
    simp only [List.forIn_cons, Sem.run_bind, px, py, pe, Result.andThen_ok, List.all_cons]
    cases hb : (xs.getD i 0 == ys.getD i 0)
    · simp
    · simp only [Bool.not_true, Bool.false_eq_true, if_false, Sem.run_pure, Result.andThen_ok, Bool.true_and]
      exact ih fun j hj => hl j (by simp [hj])
end
open Go.ChangeShapes Go.WideShapes Go.ChangeAt Go.RowKit
theorem ret_int {k : IntKind} {a b : Int} (h : a = b) : Ending.returned (.int k a) = .returned (.int k b) := by rw [h]
theorem set_step (a b : List Int) (k : Nat) (h1 : k < a.length) (h2 : k < b.length) : (a.take k ++ b.drop k).set k a[k] = a.take (k + 1) ++ b.drop (k + 1) := by
  rw [List.take_succ_eq_append_getElem h1, List.set_append_right _ _ (by simp; omega)]
  rw [List.length_take, Nat.min_eq_left (show k ≤ a.length by omega), Nat.sub_self, List.drop_eq_getElem_cons h2, List.set_cons_zero, List.append_assoc]
  rfl
theorem get_step (a b : List Int) (k : Nat) (h1 : k < a.length) (h2 : k < b.length) : (a.take k ++ b.drop k)[k]?.getD 0 = b[k] := by
  rw [List.getElem?_append_right (by simp; omega)]
  simp [Nat.min_eq_left (show k ≤ a.length by omega), h2]
/-- all but the blocks of S is as it was -/
structure But (S : Nat → Prop) (w w' : World) : Prop where
  os : w'.os = w.os
  tape : w'.tape = w.tape
  output : w'.output = w.output
  size : w'.heap.size = w.heap.size
  block : ∀ k, ¬ S k → w'.heap[k]? = w.heap[k]?
theorem But.refl (S : Nat → Prop) (w : World) : But S w w := ⟨rfl, rfl, rfl, rfl, fun _ _ => rfl⟩
theorem But.drew {S : Nat → Prop} {a w : World} (h : But S a w) : But S a w.drew := ⟨h.os, h.tape, h.output, h.size, h.block⟩
theorem But.setCell {S : Nat → Prop} {a w : World} (h : But S a w) {p : Addr} (hp : S p.block) (u : Value) : But S a (w.setCell p u) :=
  ⟨h.os, h.tape, h.output, by rw [← h.size]; simp [World.setCell], fun k hk => by rw [heap_setCell_other _ _ _ _ (fun e => hk (by rw [e]; exact hp))]; exact h.block k hk⟩
theorem But.below {S : Nat → Prop} {w w' : World} (h : But S w w') {B : Nat} (hS : ∀ k, S k → B ≤ k) : Below B w w' :=
  ⟨h.os, h.tape, h.output, by rw [h.size]; exact Nat.le_refl _, fun k hk => h.block k (fun hs => by have := hS k hs; omega)⟩
theorem but_setCells (b : Nat) : ∀ (vs : List Value) (o : Nat) (w : World), But (fun k => k = b) w (w.setCells b o vs)
  | [], _, w => But.refl _ w
  | v :: r, o, w => by
    rw [World.setCells]
    have h1 := (But.refl (fun k => k = b) w).setCell (p := ⟨b, o, none⟩) rfl v
    have h2 := but_setCells b r (o + 1) (w.setCell ⟨b, o, none⟩ v)
    exact ⟨h2.os.trans h1.os, h2.tape.trans h1.tape, h2.output.trans h1.output, h2.size.trans h1.size, fun k hk => (h2.block k hk).trans (h1.block k hk)⟩
theorem below_setRow {B : Nat} {a w : World} (h : Below B a w) (g : Nat) (hg : B ≤ g) (cs : Array Value) : Below B a (w.setRow g cs) :=
  ⟨h.os, h.tape, h.output, by rw [size_setRow]; exact h.size, fun k hk => by rw [setRow_other w g k cs (by omega)]; exact h.block k hk⟩
theorem load_row_w {P : Program} {ops : Array Oper} {rest : List Oper} {o : Oper} {a : Act} {w : World} {Q : Exit → Act → World → Prop} (hw : Region.wanted o (yielded ops a.tmps) = true) (ty : TypeId) (x : Operand) (ho : o.op = .load ty x)
    (g : Nat) (hx : a.eval x = .pointer (some ⟨g, 0, none⟩)) (t : TypeId) (cs : Array Value) (fr : Nat × Nat) (d : TypeDesc) (hg : w.heap[g]? = some (.cells cs t fr))
    (hu : P.underlying ty = some d) (hd : (match d with | .struct _ | .array _ _ => true | _ => false) = true) (hi : (P.info? ty).map (·.size) = some cs.size)
    (h : wpList P ops Q rest (a.put o.dst (.agg cs)) w) : wpList P ops Q (o :: rest) a w :=
  BigFrame.wpList_want hw fun _ hK => wp_load_row ty x ho g hx t cs fr d hg hu hd hi (hK _ _ h)
theorem store_row_new {P : Program} {ops : Array Oper} {rest : List Oper} {o : Oper} {a : Act} {w : World} {Q : Exit → Act → World → Prop} (hgd : o.guard = none) (ty : TypeId) (x y : Operand) (ho : o.op = .store ty x y)
    (g : Nat) (cells : Array Value) (hx : a.eval x = .pointer (some ⟨g, 0, none⟩)) (hg : g = w.heap.size) (hy : a.eval y = .agg cells)
    (t : TypeId) (old : Array Value) (hi : (P.info? ty).map (·.size) = some cells.size)
    (hold : old.size = cells.size) (h1 : cells.all (·.oneCell') = true)
    (h : wpList P ops Q rest (a.put o.dst undef) (w.alloc (.cells cells t))) : wpList P ops Q (o :: rest) a (w.alloc (.cells old t)) := by
  subst hg
  refine wpList_store_row hgd ty x y ho _ cells hx hy t old (heap_alloc_new w _) hi hold h1 ?_
  rw [World.setRow_alloc_new]
  exact h
theorem at_list {P : Program} {ops : Array Oper} {rest : List Oper} {o : Oper} {a : Act} {w : World} {Q : Exit → Act → World → Prop} (h : wpList P ops Q (o :: rest) a w) : wpList P ops Q (o :: rest) a w := h
theorem load_at {P : Program} {ops : Array Oper} {rest : List Oper} {o : Oper} {a : Act} {w : World} {Q : Exit → Act → World → Prop} (ty : TypeId) (x : Operand) (ho : o.op = .load ty x) (hw : Region.wanted o (yielded ops a.tmps) = true)
    (g : Nat) (hx : a.eval x = .pointer (some ⟨g, 0, none⟩)) (t : TypeId) (cs : Array Value) (fr : Nat × Nat) (d : TypeDesc) (hg : w.heap[g]? = some (.cells cs t fr))
    (hu : P.underlying ty = some d) (hd : (match d with | .struct _ | .array _ _ => true | _ => false) = true) (hi : (P.info? ty).map (·.size) = some cs.size)
    (h : wpList P ops Q rest (a.put o.dst (.agg cs)) w) : wpList P ops Q (o :: rest) a w :=
  load_row_w hw ty x ho g hx t cs fr d hg hu hd hi h
theorem hold_store {P : Program} {ops : Array Oper} {rest : List Oper} {o : Oper} {a : Act} {w : World} {Q : Exit → Act → World → Prop} (ty : TypeId) (x y : Operand) (_ : o.op = .store ty x y) (h : Hid (wpList P ops Q (o :: rest) a w)) : wpList P ops Q (o :: rest) a w := h
theorem yieldsIf_load_row {P : Program} {ops : Array Oper} {S : World → Prop} {op : Oper} {a : Act} (hw : Region.wanted op (yielded ops a.tmps) = true) (ty : TypeId) (x : Operand) (ho : op.op = .load ty x)
    (g : Nat) (hx : a.eval x = .pointer (some ⟨g, 0, none⟩)) (t : TypeId) (cs : Array Value) (fr : Nat × Nat) (d : TypeDesc) (hS : ∀ w, S w → w.heap[g]? = some (.cells cs t fr))
    (hu : P.underlying ty = some d) (hd : (match d with | .struct _ | .array _ _ => true | _ => false) = true) (hi : (P.info? ty).map (·.size) = some cs.size) : YieldsIf P ops S op (.agg cs) a :=
  .inl ⟨hw, fun w hw' => by
    unfold execOp
    simp only [ho, hx, Instr.loadAt, Instr.sureAddr, Sem.run_bind, Sem.run_pure, Result.andThen_ok, run_loadVar_row w g t ty cs fr d (hS w hw') hu hd hi]⟩
theorem add_mid (b o j : Nat) : (⟨b, o, none⟩ : Addr).add j = ⟨b, o + j, none⟩ := by unfold Addr.add; split <;> simp_all
theorem below_drewN' {B : Nat} {a w : World} (h : Below B a w) (n : Nat) : Below B a (w.drewN n) := ⟨h.os, h.tape, h.output, h.size, h.block⟩
theorem range_row {W : World} {b : Nat} {cs : Array Value} {t : TypeId} {fr : Nat × Nat} (h : W.heap[b]? = some (.cells cs t fr)) (ks : List Value) (hk : ks.toArray = cs) : W.rangeAt b 0 ks := fun j v hv => by
  rw [cell_of_row W b (0 + j) cs t fr h, ← hk, Nat.zero_add]
  simpa using hv
/-- a slice of numbers that came in -/
def IsRow (k : IntKind) (w : World) (a : Option Addr) (len cap : Nat) (zs : List Int) : Prop :=
  (a = none ∧ len = 0 ∧ cap = 0 ∧ zs = []) ∨
  ∃ x, a = some x ∧ len ≤ cap ∧ cap ≤ maxLen ∧ zs.length = cap ∧ (∀ i, i < zs.length → w.cell? (x.add i) = some (.int k (zs.getD i 0))) ∧ ∀ n ∈ zs, (Lit.int k n).wf = true
theorem open_isRow {H : Type} {enc : TypeId × Value → H} {P : Program} {ts : List TypeId} {ds : List (DataW H)} {W : World} {j : Nat} {t e : TypeId} {k : IntKind} {a : Option Addr} {len cap : Nat} {d : DataW H} {p : List MemPlace}
    (ht : P.underlying t = some (.slice e)) (he : P.underlying e = some (.int k)) (hce : P.cellsOf e = 1) (hsz : (DataW.weightsEach P ts ds).all (· ≤ reachBytes) = true) (htj : ts[j]? = some t) (hdj : ds[j]? = some d)
    (h : DataW.Trod enc P W 0 (fun _ => true) true t (.slice a len cap) d p) : ∃ zs, IsRow k W a len cap zs ∧ cap * P.bytesOf e ≤ reachBytes := by
  obtain ⟨fuel, hf⟩ := h
  rcases open_ints ht he hce hf with ⟨hcs, _⟩ | ⟨x, l, c, zs, hcs, _, hl, hm, hz, hx, hcell, hwz⟩
  · simp [Value.cells] at hcs
    obtain ⟨rfl, rfl, rfl⟩ := hcs
    exact ⟨[], .inl ⟨rfl, rfl, rfl, rfl⟩, by simp⟩
  · simp [Value.cells] at hcs
    obtain ⟨rfl, rfl, rfl⟩ := hcs
    have hz' : zs.length = cap := by simpa using hz
    refine ⟨zs, .inr ⟨_, rfl, hl, hm, hz', hcell, hwz⟩, ?_⟩
    simp only [Prod.mk.injEq] at hx
    obtain ⟨rfl, _⟩ := hx
    have := sized_slice hsz htj hdj ht
    simp only [lits, List.length_map, List.length_take, List.length_drop] at this
    rw [show min len zs.length + (zs.length - len) = cap by omega] at this
    exact this

section
variable {H : Type} {enc : TypeId × Value → H} {P : Program}

/-- Every argument reads behind the call as it read before, where nothing that was there has turned. -/
theorem trodAll_below (hl : laidOutB P = true) {W W' : World} (hb : Below W.heap.size W W') :
    ∀ (ts : List TypeId) (vs : List Value) (ds : List (DataW H)) (p : List MemPlace), (ts.all fun t => P.readableRec t && decide (t < P.types.size)) = true →
      DataW.TrodAll enc P W 0 (fun _ => true) true ts vs ds p → DataW.TrodAll enc P W' 0 (fun b => decide (b < W.heap.size)) true ts vs ds p
  | [], [], [], _, _, h => h
  | t :: ts, v :: vs, d :: ds, _, hok, h => by
    obtain ⟨p, q, h1, h2, h3⟩ := h
    rw [List.all_cons, Bool.and_eq_true, Bool.and_eq_true] at hok
    obtain ⟨⟨a1, a2⟩, a3⟩ := hok
    refine ⟨p, q, Below.trod hl a1 (of_decide_eq_true a2) h1 hb ?_, trodAll_below hl hb ts vs ds q a3 h2, h3⟩
    obtain ⟨m, hm⟩ := h1
    exact DataW.trod_lt m _ _ _ hm
  | [], _ :: _, _, _, _, h => h.elim
  | [], [], _ :: _, _, _, h => h.elim
  | _ :: _, [], _, _, _, h => h.elim
  | _ :: _, _ :: _, [], _, _, h => h.elim

theorem okWide_array {t e : TypeId} {n : Nat} {w : World} {r : Reach} {base : Nat} {v : Value} (ht : P.underlying t = some (.array n e)) (h : Value.okWide P w r base t v) : ∃ cs, v = .agg cs ∧ cs.size = P.cellsOf t := by
  simp only [Value.okWide, ht] at h
  obtain ⟨cs, h1, h2, _⟩ := h
  exact ⟨cs, h1, h2⟩

/-- An argument that is an array of numbers, opened. -/
theorem open_row {w : World} {base b0 : Nat} {spare : Nat → Bool} {held : Bool} {r : Reach} {t e : TypeId} {n : Nat} {k : IntKind} {v : Value} {d : DataW H} {p : List MemPlace} (ht : P.underlying t = some (.array n e)) (he : P.underlying e = some (.int k))
    (hce : P.cellsOf e = 1) (hct : P.cellsOf t = n) (hv : Value.okWide P w r b0 t v) (h : DataW.Trod enc P w base spare held t v d p) :
    ∃ l : List Int, v = .agg (VI k l) ∧ l.length = n ∧ ∀ x ∈ l, (Lit.int k x).wf = true := by
  obtain ⟨cs, rfl, hsz⟩ := okWide_array ht hv
  obtain ⟨fuel, hf⟩ := h
  obtain ⟨xs, m, _, _, hlen, hxl, hall⟩ := DataW.trod_array ht hf
  have key : ∀ i, i < n → ∃ x, cs[i]? = some (.int k x) ∧ (Lit.int k x).wf = true := by
    intro i hi
    have h1 := hall i hi
    rw [List.getElem?_eq_getElem (by omega)] at h1
    obtain ⟨x, hx, _, hw⟩ := DataW.trod_int he h1
    refine ⟨x, ?_, hw⟩
    rw [hce, Nat.mul_one] at hx
    have h3 := congrArg (fun z => z[0]?) hx
    simp [Value.cells] at h3
    exact h3
  have hcs : cs.size = n := hsz.trans hct
  refine ⟨(List.range n).map (fun i : Nat => intOf (cs[i]?.getD .nilIface)), ?_, by simp, ?_⟩
  · congr 1
    apply Array.ext_getElem?
    intro i
    by_cases hi : i < n
    · obtain ⟨x, hx, _⟩ := key i hi
      rw [hx]
      simp [VI, hi, hx, intOf]
    · rw [Array.getElem?_eq_none (by omega), Array.getElem?_eq_none (by simp [VI]; omega)]
  · intro x hx
    rw [List.mem_map] at hx
    obtain ⟨i, hi, rfl⟩ := hx
    obtain ⟨x, hx, hw⟩ := key i (by simpa using hi)
    rw [hx]
    exact hw
end
end Go.Pin
namespace Go.Str
open Go Go.Pin
/-- numbers as cells -/
def VN (k : IntKind) (l : List Nat) : Array Value := VI k (l.map Int.ofNat)
theorem VN_size (k : IntKind) (l : List Nat) : (VN k l).size = l.length := by simp [VN, VI]
theorem VN_at (k : IntKind) (l : List Nat) (i : Nat) (h : i < l.length) : (VN k l)[i]? = some (.int k ((l.getD i 0 : Nat) : Int)) := by
  simp [VN, VI, List.getElem?_eq_getElem h]
theorem VN_set (k : IntKind) (l : List Nat) (i v : Nat) : (VN k l).setIfInBounds i (.int k (v : Int)) = VN k (l.set i v) := by
  unfold VN; rw [VI_set, List.map_set]; rfl
theorem VN_one (k : IntKind) (l : List Nat) : (VN k l).all (·.oneCell') = true := VI_one _ _
/-- + modulo 2^32 -/
def ad (a b : Nat) : Nat := (a + b) % 4294967296
/-- turned by n digits -/
def rot (x n : Nat) : Nat := x * 2 ^ n % 4294967296 + x * 2 ^ n / 4294967296
theorem ad_lt (a b : Nat) : ad a b < 4294967296 := Nat.mod_lt _ (by decide)
theorem rot_eq (x n : Nat) (hn : n ≤ 32) : rot x n = 2 ^ n * (x % 2 ^ (32 - n)) + x / 2 ^ (32 - n) := by
  have h : (4294967296 : Nat) = 2 ^ n * 2 ^ (32 - n) := by rw [← Nat.pow_add, show n + (32 - n) = 32 by omega]
  unfold rot
  rw [h, Nat.mul_comm x, Nat.mul_mod_mul_left, Nat.mul_div_mul_left _ _ (Nat.two_pow_pos n)]
theorem rot_or (x n : Nat) (hn : n ≤ 32) (hx : x < 4294967296) : (x * 2 ^ n % 4294967296) ||| (x / 2 ^ (32 - n)) = rot x n := by
  have h : (4294967296 : Nat) = 2 ^ n * 2 ^ (32 - n) := by rw [← Nat.pow_add, show n + (32 - n) = 32 by omega]
  have hb : x / 2 ^ (32 - n) < 2 ^ n := by
    rw [Nat.div_lt_iff_lt_mul (Nat.two_pow_pos _), ← h]; exact hx
  rw [rot_eq x n hn, Nat.two_pow_add_eq_or_of_lt hb, h, Nat.mul_comm x, Nat.mul_mod_mul_left]
theorem rot_lt (x n : Nat) (hn : n ≤ 32) (hx : x < 4294967296) : rot x n < 4294967296 := by
  rw [← rot_or x n hn hx]
  refine Nat.or_lt_two_pow (n := 32) (Nat.mod_lt _ (by decide)) (Nat.lt_of_le_of_lt (Nat.div_le_self _ _) hx)
theorem xor_lt {a b : Nat} (ha : a < 4294967296) (hb : b < 4294967296) : a ^^^ b < 4294967296 := Nat.xor_lt_two_pow (n := 32) ha hb
/-- a quarter round -/
def qr (a b c d : Nat) : Nat × Nat × Nat × Nat :=
  let a1 := ad a b
  let d1 := rot (d ^^^ a1) 16
  let c1 := ad c d1
  let b1 := rot (b ^^^ c1) 12
  let a2 := ad a1 b1
  let d2 := rot (d1 ^^^ a2) 8
  let c2 := ad c1 d2
  let b2 := rot (b1 ^^^ c2) 7
  (a2, b2, c2, d2)
/-- a quarter round at four places -/
def qat (s : List Nat) (i j k m : Nat) : List Nat :=
  (((s.set i (qr (s.getD i 0) (s.getD j 0) (s.getD k 0) (s.getD m 0)).1).set j (qr (s.getD i 0) (s.getD j 0) (s.getD k 0) (s.getD m 0)).2.1).set k (qr (s.getD i 0) (s.getD j 0) (s.getD k 0) (s.getD m 0)).2.2.1).set m (qr (s.getD i 0) (s.getD j 0) (s.getD k 0) (s.getD m 0)).2.2.2
/-- words: each below 2^32 -/
def W32 (s : List Nat) : Prop := ∀ x ∈ s, x < 4294967296
theorem W32.at {s : List Nat} (h : W32 s) (i : Nat) : s.getD i 0 < 4294967296 := by
  by_cases hi : i < s.length
  · have : s.getD i 0 ∈ s := by simp [List.getD, hi]
    exact h _ this
  · simp [List.getD, List.getElem?_eq_none (Nat.le_of_not_lt hi)]
theorem W32.set {s : List Nat} (h : W32 s) (i v : Nat) (hv : v < 4294967296) : W32 (s.set i v) := fun x hx => by
  rcases List.mem_or_eq_of_mem_set hx with hx | rfl
  · exact h x hx
  · exact hv
theorem qr_lt {a b c d : Nat} (hb : b < 4294967296) (hd : d < 4294967296) :
    (qr a b c d).1 < 4294967296 ∧ (qr a b c d).2.1 < 4294967296 ∧ (qr a b c d).2.2.1 < 4294967296 ∧ (qr a b c d).2.2.2 < 4294967296 := by
  have d1 := rot_lt (d ^^^ ad a b) 16 (by decide) (xor_lt hd (ad_lt _ _))
  have b1 := rot_lt (b ^^^ ad c (rot (d ^^^ ad a b) 16)) 12 (by decide) (xor_lt hb (ad_lt _ _))
  refine ⟨ad_lt _ _, rot_lt _ 7 (by decide) (xor_lt b1 (ad_lt _ _)), ad_lt _ _, rot_lt _ 8 (by decide) (xor_lt d1 (ad_lt _ _))⟩
theorem qat_len (s : List Nat) (i j k m : Nat) : (qat s i j k m).length = s.length := by simp [qat]
theorem qat_w {s : List Nat} (h : W32 s) (i j k m : Nat) : W32 (qat s i j k m) := by
  obtain ⟨h1, h2, h3, h4⟩ := qr_lt (a := s.getD i 0) (c := s.getD k 0) (h.at j) (h.at m)
  exact (((h.set i _ h1).set j _ h2).set k _ h3).set m _ h4
def col (s : List Nat) (i : Nat) : List Nat := qat s i (4 + i) (8 + i) (12 + i)
def dia (s : List Nat) (i : Nat) : List Nat := qat s i (4 + (i + 1) % 4) (8 + (i + 2) % 4) (12 + (i + 3) % 4)
def cols : Nat → List Nat → List Nat
  | 0, s => s
  | n + 1, s => col (cols n s) n
def dias : Nat → List Nat → List Nat
  | 0, s => s
  | n + 1, s => dia (dias n s) n
def rnds : Nat → List Nat → List Nat
  | 0, s => s
  | n + 1, s => dias 4 (cols 4 (rnds n s))
def blk (s : List Nat) : List Nat := List.zipWith ad (rnds 10 s) s
structure St (s : List Nat) : Prop where
  len : s.length = 16
  bd : W32 s
theorem St.cols {s : List Nat} (h : St s) (n : Nat) : St (cols n s) := by
  induction n with
  | zero => exact h
  | succ n ih => exact ⟨(qat_len _ _ _ _ _).trans ih.len, qat_w ih.bd _ _ _ _⟩
theorem St.dias {s : List Nat} (h : St s) (n : Nat) : St (dias n s) := by
  induction n with
  | zero => exact h
  | succ n ih => exact ⟨(qat_len _ _ _ _ _).trans ih.len, qat_w ih.bd _ _ _ _⟩
theorem St.rnds {s : List Nat} (h : St s) (n : Nat) : St (rnds n s) := by
  induction n with
  | zero => exact h
  | succ n ih => exact (ih.cols 4).dias 4
theorem St.blk {s : List Nat} (h : St s) : St (blk s) := by
  refine ⟨by simp [Str.blk, (h.rnds 10).len, h.len], fun x hx => ?_⟩
  unfold Str.blk at hx
  obtain ⟨i, hi, rfl⟩ := List.getElem_of_mem hx
  rw [List.getElem_zipWith]
  exact ad_lt _ _
/-- byte j of the words -/
def bt (ws : List Nat) (j : Nat) : Nat := ws.getD (j / 4) 0 / 256 ^ (j % 4) % 256
theorem bt_lt (ws : List Nat) (j : Nat) : bt ws j < 256 := Nat.mod_lt _ (by decide)
/-- word i of the bytes -/
def wd (b : List Nat) (i : Nat) : Nat := b.getD (4 * i) 0 + 256 * b.getD (4 * i + 1) 0 + 65536 * b.getD (4 * i + 2) 0 + 16777216 * b.getD (4 * i + 3) 0
def st (key : List Nat) (c : Nat) (nonce : List Nat) : List Nat :=
  [1634760805, 857760878, 2036477234, 1797285236] ++ (List.range 8).map (wd key) ++ [c] ++ (List.range 3).map (wd nonce)
/-- bytes -/
structure Bs (n : Nat) (l : List Nat) : Prop where
  len : l.length = n
  bd : ∀ x ∈ l, x < 256
theorem Bs.at {n : Nat} {l : List Nat} (h : Bs n l) (i : Nat) : l.getD i 0 < 256 := by
  by_cases hi : i < l.length
  · have : l.getD i 0 ∈ l := by simp [List.getD, hi]
    exact h.bd _ this
  · simp [List.getD, List.getElem?_eq_none (Nat.le_of_not_lt hi)]
theorem Bs.wd {n : Nat} {l : List Nat} (h : Bs n l) (i : Nat) : wd l i < 4294967296 := by
  have h0 := h.at (4 * i)
  have h1 := h.at (4 * i + 1)
  have h2 := h.at (4 * i + 2)
  have h3 := h.at (4 * i + 3)
  unfold Str.wd; omega
theorem st_st {key nonce : List Nat} {c : Nat} (hk : Bs 32 key) (hn : Bs 12 nonce) (hc : c < 4294967296) : St (st key c nonce) := by
  refine ⟨by simp [st], fun x hx => ?_⟩
  simp only [st, List.mem_append, List.mem_map, List.mem_cons, List.not_mem_nil, or_false] at hx
  rcases hx with ((hx | ⟨i, _, rfl⟩) | rfl) | ⟨i, _, rfl⟩
  · rcases hx with rfl | rfl | rfl | rfl <;> decide
  · exact hk.wd i
  · exact hc
  · exact hn.wd i
theorem st_set (key nonce : List Nat) (c d : Nat) : (st key c nonce).set 12 d = st key d nonce := rfl
theorem st_at (key nonce : List Nat) (c : Nat) : (st key c nonce).getD 12 0 = c := rfl
/-- byte j of the stream -/
def ks (key : List Nat) (c : Nat) (nonce : List Nat) (j : Nat) : Nat := bt (blk (st key ((c + j / 64) % 4294967296) nonce)) (j % 64)
theorem ks_lt (key : List Nat) (c : Nat) (nonce : List Nat) (j : Nat) : ks key c nonce j < 256 := bt_lt _ _
/-- the bytes of L at the places S turned by f -/
def xp (L : List Nat) (S : Nat → Bool) (f : Nat → Nat) : List Nat := L.mapIdx fun j x => if S j then x ^^^ f j else x
theorem xp_len (L : List Nat) (S : Nat → Bool) (f : Nat → Nat) : (xp L S f).length = L.length := by simp [xp]
theorem xp_at (L : List Nat) (S : Nat → Bool) (f : Nat → Nat) (j : Nat) (hj : j < L.length) : (xp L S f).getD j 0 = if S j then L.getD j 0 ^^^ f j else L.getD j 0 := by
  simp [xp, List.getD, List.getElem?_mapIdx, List.getElem?_eq_getElem hj]
theorem list_ext {a b : List Nat} (hl : a.length = b.length) (h : ∀ j, j < a.length → a.getD j 0 = b.getD j 0) : a = b := by
  apply List.ext_getElem hl
  intro j h1 h2
  have := h j h1
  simpa [List.getD, List.getElem?_eq_getElem h1, List.getElem?_eq_getElem h2] using this
theorem xp_comp {L : List Nat} {S S' R : Nat → Bool} {f f' g : Nat → Nat} (h : ∀ j, j < L.length → R j = (S j || S' j)) (hd : ∀ j, j < L.length → S j = true → S' j = false) (h1 : ∀ j, j < L.length → S j = true → g j = f j) (h2 : ∀ j, j < L.length → S' j = true → g j = f' j) :
    xp (xp L S f) S' f' = xp L R g := by
  apply list_ext (by simp [xp_len])
  intro j hj
  rw [xp_len, xp_len] at hj
  rw [xp_at _ _ _ _ (by rw [xp_len]; exact hj), xp_at _ _ _ _ hj, xp_at _ _ _ _ hj, h j hj]
  cases e : S j with
  | true => rw [hd j hj e]; simp [h1 j hj e]
  | false =>
    cases e2 : S' j with
    | true => simp [h2 j hj e2]
    | false => simp
theorem xp_bd {L : List Nat} {S : Nat → Bool} {f : Nat → Nat} (hL : ∀ x ∈ L, x < 256) (hf : ∀ j, f j < 256) : ∀ x ∈ xp L S f, x < 256 := by
  intro x hx
  obtain ⟨i, hi, rfl⟩ := List.getElem_of_mem hx
  simp only [xp, List.getElem_mapIdx]
  have : L[i]'(by rw [xp_len] at hi; exact hi) < 256 := hL _ (List.getElem_mem _)
  split
  · exact Nat.xor_lt_two_pow (n := 8) this (hf _)
  · exact this
theorem xp_congr {L : List Nat} {S R : Nat → Bool} {f g : Nat → Nat} (h : ∀ j, j < L.length → S j = R j) (h1 : ∀ j, j < L.length → R j = true → f j = g j) : xp L S f = xp L R g := by
  apply list_ext (by simp [xp_len])
  intro j hj
  rw [xp_len] at hj
  rw [xp_at _ _ _ _ hj, xp_at _ _ _ _ hj, h j hj]
  cases e : R j with
  | true => simp [h1 j hj e]
  | false => simp
theorem xp_none (L : List Nat) (S : Nat → Bool) (f : Nat → Nat) (h : ∀ j, j < L.length → S j = false) : xp L S f = L := by
  apply list_ext (xp_len _ _ _)
  intro j hj
  rw [xp_len] at hj
  rw [xp_at _ _ _ _ hj, h j hj]; rfl
/-- a place from o on, n of them -/
def seg (o n : Nat) (j : Nat) : Bool := decide (o ≤ j) && decide (j < o + n)
/-- the bytes of L from o on, n of them, turned by f (counted from o) -/
def xr (L : List Nat) (o n : Nat) (f : Nat → Nat) : List Nat := xp L (seg o n) (fun j => f (j - o))
theorem xr_len (L : List Nat) (o n : Nat) (f : Nat → Nat) : (xr L o n f).length = L.length := xp_len _ _ _
theorem xr_app (L : List Nat) (o n m : Nat) (f : Nat → Nat) : xr (xr L o n f) (o + n) m (fun j => f (n + j)) = xr L o (n + m) f := by
  refine xp_comp (fun j hj => ?_) (fun j hj h => ?_) (fun j hj h => rfl) (fun j hj h => ?_)
  · by_cases h1 : o ≤ j <;> by_cases h2 : j < o + n <;> by_cases h3 : o + n ≤ j <;> by_cases h4 : j < o + n + m <;> simp [seg, h1, h2, h3, h4] <;> omega
  · simp [seg] at h ⊢; omega
  · simp [seg] at h; show f (j - o) = f (n + (j - (o + n))); congr 1; omega
theorem xr_zero (L : List Nat) (o : Nat) (f : Nat → Nat) : xr L o 0 f = L := xp_none _ _ _ (fun j _ => by simp [seg])
theorem xr_bd {L : List Nat} {o n : Nat} {f : Nat → Nat} (hL : ∀ x ∈ L, x < 256) (hf : ∀ j, f j < 256) : ∀ x ∈ xr L o n f, x < 256 := xp_bd hL (fun _ => hf _)
theorem xr_congr {L : List Nat} {o n : Nat} {f g : Nat → Nat} (h : ∀ j, j < n → f j = g j) : xr L o n f = xr L o n g := xp_congr (fun _ _ => rfl) (fun j _ hj => by simp [seg] at hj; exact h _ (by omega))
/-- four states in rows of four -/
def wv (f : Nat → List Nat) : List Nat := (List.range 64).map fun p => (f (p % 4)).getD (p / 4) 0
theorem wv_len (f : Nat → List Nat) : (wv f).length = 64 := by simp [wv]
theorem wv_at (f : Nat → List Nat) (p : Nat) (hp : p < 64) : (wv f).getD p 0 = (f (p % 4)).getD (p / 4) 0 := by
  simp [wv, List.getD, hp]
theorem wv_at4 (f : Nat → List Nat) (i l : Nat) (hi : i < 16) (hl : l < 4) : (wv f).getD (4 * i + l) 0 = (f l).getD i 0 := by
  rw [wv_at _ _ (by omega), show (4 * i + l) % 4 = l by omega, show (4 * i + l) / 4 = i by omega]
theorem wv_w {f : Nat → List Nat} (h : ∀ l, l < 4 → W32 (f l)) : W32 (wv f) := fun x hx => by
  simp only [wv, List.mem_map, List.mem_range] at hx
  obtain ⟨p, _, rfl⟩ := hx
  exact (h _ (by omega)).at _
def upd (f : Nat → List Nat) (l : Nat) (v : List Nat) : Nat → List Nat := fun k => if k = l then v else f k
theorem wv_set (f : Nat → List Nat) (i l v : Nat) (hi : i < 16) (hl : l < 4) (hf : (f l).length = 16) : (wv f).set (4 * i + l) v = wv (upd f l ((f l).set i v)) := by
  apply list_ext (by simp [wv_len])
  intro p hp
  simp [wv_len] at hp
  rw [wv_at _ _ hp]
  by_cases e : p = 4 * i + l
  · subst e
    rw [show (4 * i + l) % 4 = l by omega, show (4 * i + l) / 4 = i by omega]
    simp [upd, List.getD, wv_len, hf, hi, show 4 * i + l < 64 by omega]
  · rw [show ((wv f).set (4 * i + l) v).getD p 0 = (wv f).getD p 0 by simp [List.getD, List.getElem?_set_ne (fun h => e h.symm)], wv_at _ _ hp]
    unfold upd
    split
    · rename_i h
      rw [h]
      have : i ≠ p / 4 := by omega
      simp [List.getD, List.getElem?_set_ne this]
    · rfl
theorem upd_upd (f : Nat → List Nat) (l : Nat) (a b : List Nat) : upd (upd f l a) l b = upd f l b := by funext k; simp [upd]; split <;> rfl
theorem upd_self (f : Nat → List Nat) (l : Nat) (a : List Nat) : upd f l a l = a := by simp [upd]
theorem wv_qat (f : Nat → List Nat) (i j k m l : Nat) (hi : i < 16) (hj : j < 16) (hk : k < 16) (hm : m < 16) (hl : l < 4) (hf : (f l).length = 16) :
    qat (wv f) (4 * i + l) (4 * j + l) (4 * k + l) (4 * m + l) = wv (upd f l (qat (f l) i j k m)) := by
  unfold qat
  rw [wv_at4 _ _ _ hi hl, wv_at4 _ _ _ hj hl, wv_at4 _ _ _ hk hl, wv_at4 _ _ _ hm hl]
  rw [wv_set _ _ _ _ hi hl hf, wv_set _ _ _ _ hj hl (by simp [upd, hf]), wv_set _ _ _ _ hk hl (by simp [upd, hf]), wv_set _ _ _ _ hm hl (by simp [upd, hf])]
  simp only [upd_upd, upd_self]
/-- the first n states turned -/
def fst4 (f g : Nat → List Nat) (n : Nat) : Nat → List Nat := fun k => if k < n then g k else f k
theorem fst4_succ (f g : Nat → List Nat) (n : Nat) : upd (fst4 f g n) n (g n) = fst4 f g (n + 1) := by
  funext k
  simp only [upd, fst4]
  by_cases h : k = n
  · subst h; simp
  · by_cases h2 : k < n
    · simp [h, h2, show k < n + 1 by omega]
    · simp [h, h2, show ¬ k < n + 1 by omega]
theorem wv_congr {f g : Nat → List Nat} (h : ∀ l, l < 4 → f l = g l) : wv f = wv g := by
  unfold wv
  apply List.map_congr_left
  intro p _
  rw [h _ (by omega)]
end Go.Str
namespace Go.Dig
open Go Go.Pin Go.Str
/-- a mixing -/
def mx (a b c d x y : Nat) : Nat × Nat × Nat × Nat :=
  let a1 := ad a (ad b x)
  let d1 := rot (d ^^^ a1) 16
  let c1 := ad c d1
  let b1 := rot (b ^^^ c1) 20
  let a2 := ad a1 (ad b1 y)
  let d2 := rot (d1 ^^^ a2) 24
  let c2 := ad c1 d2
  let b2 := rot (b1 ^^^ c2) 25
  (a2, b2, c2, d2)
/-- a mixing at four places -/
def mat (s : List Nat) (i j k m x y : Nat) : List Nat :=
  (((s.set i (mx (s.getD i 0) (s.getD j 0) (s.getD k 0) (s.getD m 0) x y).1).set j (mx (s.getD i 0) (s.getD j 0) (s.getD k 0) (s.getD m 0) x y).2.1).set k (mx (s.getD i 0) (s.getD j 0) (s.getD k 0) (s.getD m 0) x y).2.2.1).set m (mx (s.getD i 0) (s.getD j 0) (s.getD k 0) (s.getD m 0) x y).2.2.2
theorem mx_lt {a b c d x y : Nat} (hb : b < 4294967296) (hd : d < 4294967296) :
    (mx a b c d x y).1 < 4294967296 ∧ (mx a b c d x y).2.1 < 4294967296 ∧ (mx a b c d x y).2.2.1 < 4294967296 ∧ (mx a b c d x y).2.2.2 < 4294967296 := by
  have d1 := rot_lt (d ^^^ ad a (ad b x)) 16 (by decide) (xor_lt hd (ad_lt _ _))
  have b1 := rot_lt (b ^^^ ad c (rot (d ^^^ ad a (ad b x)) 16)) 20 (by decide) (xor_lt hb (ad_lt _ _))
  refine ⟨ad_lt _ _, rot_lt _ 25 (by decide) (xor_lt b1 (ad_lt _ _)), ad_lt _ _, rot_lt _ 24 (by decide) (xor_lt d1 (ad_lt _ _))⟩
theorem mat_len (s : List Nat) (i j k m x y : Nat) : (mat s i j k m x y).length = s.length := by simp [mat]
theorem mat_w {s : List Nat} (h : W32 s) (i j k m x y : Nat) : W32 (mat s i j k m x y) := by
  obtain ⟨h1, h2, h3, h4⟩ := mx_lt (a := s.getD i 0) (c := s.getD k 0) (x := x) (y := y) (h.at j) (h.at m)
  exact (((h.set _ _ h1).set _ _ h2).set _ _ h3).set _ _ h4
/-- the orders -/
def ord : Nat → List Nat
  | 0 => [0, 1, 2, 3, 4, 5, 6, 7, 8, 9, 10, 11, 12, 13, 14, 15]
  | 1 => [14, 10, 4, 8, 9, 15, 13, 6, 1, 12, 0, 2, 11, 7, 5, 3]
  | 2 => [11, 8, 12, 0, 5, 2, 15, 13, 10, 14, 3, 6, 7, 1, 9, 4]
  | 3 => [7, 9, 3, 1, 13, 12, 11, 14, 2, 6, 5, 10, 4, 0, 15, 8]
  | 4 => [9, 0, 5, 7, 2, 4, 10, 15, 14, 1, 11, 12, 6, 8, 3, 13]
  | 5 => [2, 12, 6, 10, 0, 11, 8, 3, 4, 13, 7, 5, 15, 14, 1, 9]
  | 6 => [12, 5, 1, 15, 14, 13, 4, 10, 0, 7, 6, 3, 9, 2, 8, 11]
  | 7 => [13, 11, 7, 14, 12, 1, 3, 9, 5, 0, 15, 4, 8, 6, 2, 10]
  | 8 => [6, 15, 14, 9, 11, 3, 0, 8, 12, 2, 13, 7, 1, 4, 10, 5]
  | 9 => [10, 2, 8, 4, 7, 6, 1, 5, 15, 11, 9, 14, 3, 12, 13, 0]
  | _ => []
/-- the k-th mixing of a round -/
def stp (o m v : List Nat) (k : Nat) : List Nat :=
  if k < 4 then mat v k (4 + k) (8 + k) (12 + k) (m.getD (o.getD (2 * k) 0) 0) (m.getD (o.getD (2 * k + 1) 0) 0)
  else mat v (k - 4) (4 + (k - 3) % 4) (8 + (k - 2) % 4) (12 + (k - 1) % 4) (m.getD (o.getD (2 * k) 0) 0) (m.getD (o.getD (2 * k + 1) 0) 0)
def rnk (o m v : List Nat) : Nat → List Nat
  | 0 => v
  | k + 1 => stp o m (rnk o m v k) k
def rds (m v : List Nat) : Nat → List Nat
  | 0 => v
  | r + 1 => rnk (ord r) m (rds m v r) 8
theorem rnk_len (o m v : List Nat) (k : Nat) : (rnk o m v k).length = v.length := by
  induction k with
  | zero => rfl
  | succ k ih => unfold rnk stp; split <;> rw [mat_len, ih]
theorem rnk_w {v : List Nat} (h : W32 v) (o m : List Nat) (k : Nat) : W32 (rnk o m v k) := by
  induction k with
  | zero => exact h
  | succ k ih => unfold rnk stp; split <;> exact mat_w ih _ _ _ _ _ _
theorem rds_len (m v : List Nat) (r : Nat) : (rds m v r).length = v.length := by
  induction r with
  | zero => rfl
  | succ k ih => unfold rds; rw [rnk_len, ih]
theorem rds_w {v : List Nat} (h : W32 v) (m : List Nat) (k : Nat) : W32 (rds m v k) := by
  induction k with
  | zero => exact h
  | succ k ih => exact rnk_w ih _ _ _
/-- the beginning -/
def iv : List Nat := [1779033703, 3144134277, 1013904242, 2773480762, 1359893119, 2600822924, 528734635, 1541459225]
/-- sixteen words, before the rounds -/
def pv (h : List Nat) (count mark : Nat) : List Nat := h ++ [1779033703, 3144134277, 1013904242, 2773480762, 1359893119 ^^^ (count % 4294967296), 2600822924 ^^^ (count / 4294967296 % 4294967296), 528734635 ^^^ mark, 1541459225]
/-- bytes -/
def Byb (b : List Int) : Prop := ∀ x ∈ b, 0 ≤ x ∧ x < 256
theorem Byb.at {b : List Int} (h : Byb b) (i : Nat) : 0 ≤ b.getD i 0 ∧ b.getD i 0 < 256 := by
  by_cases hi : i < b.length
  · rw [List.getD_eq_getElem?_getD, List.getElem?_eq_getElem hi]; exact h _ (List.getElem_mem _)
  · rw [List.getD_eq_getElem?_getD, List.getElem?_eq_none (Nat.le_of_not_lt hi)]; decide
/-- the words of a block -/
def wdi (b : List Int) (i : Nat) : Nat := (b.getD (4 * i) 0 + 256 * b.getD (4 * i + 1) 0 + 65536 * b.getD (4 * i + 2) 0 + 16777216 * b.getD (4 * i + 3) 0).toNat
theorem wdi_int {b : List Int} (h : Byb b) (i : Nat) : ((wdi b i : Nat) : Int) = b.getD (4 * i) 0 + 256 * b.getD (4 * i + 1) 0 + 65536 * b.getD (4 * i + 2) 0 + 16777216 * b.getD (4 * i + 3) 0 := by
  have h0 := h.at (4 * i)
  have h1 := h.at (4 * i + 1)
  have h2 := h.at (4 * i + 2)
  have h3 := h.at (4 * i + 3)
  unfold wdi
  omega
theorem wdi_lt {b : List Int} (h : Byb b) (i : Nat) : wdi b i < 4294967296 := by
  have h0 := h.at (4 * i)
  have h1 := h.at (4 * i + 1)
  have h2 := h.at (4 * i + 2)
  have h3 := h.at (4 * i + 3)
  unfold wdi
  omega
def wds (b : List Int) : List Nat := (List.range 16).map (wdi b)
theorem wds_len (b : List Int) : (wds b).length = 16 := by simp [wds]
theorem wds_w {b : List Int} (h : Byb b) : W32 (wds b) := fun x hx => by
  obtain ⟨i, _, rfl⟩ := List.mem_map.1 hx
  exact wdi_lt h i
theorem wds_at (b : List Int) {i : Nat} (hi : i < 16) : (wds b).getD i 0 = wdi b i := by simp [wds, List.getD, hi]
/-- to press -/
def prs (h : List Nat) (b : List Int) (count mark : Nat) : List Nat := (List.range 8).map fun i => h.getD i 0 ^^^ ((rds (wds b) (pv h count mark) 10).getD i 0 ^^^ (rds (wds b) (pv h count mark) 10).getD (i + 8) 0)
structure S8 (h : List Nat) : Prop where
  len : h.length = 8
  bd : W32 h
theorem iv_s8 : S8 iv := ⟨rfl, by unfold W32 iv; decide⟩
theorem pv_len {h : List Nat} (hh : S8 h) (count mark : Nat) : (pv h count mark).length = 16 := by simp [pv, hh.len]
theorem pv_w {h : List Nat} (hh : S8 h) (count : Nat) {mark : Nat} (hm : mark < 4294967296) : W32 (pv h count mark) := fun x hx => by
  unfold pv at hx
  rcases List.mem_append.1 hx with hx | hx
  · exact hh.bd x hx
  · simp only [List.mem_cons, List.not_mem_nil, or_false] at hx
    rcases hx with rfl | rfl | rfl | rfl | rfl | rfl | rfl | rfl
    · decide
    · decide
    · decide
    · decide
    · exact xor_lt (by decide) (Nat.mod_lt _ (by decide))
    · exact xor_lt (by decide) (Nat.mod_lt _ (by decide))
    · exact xor_lt (by decide) hm
    · decide
theorem prs_s8 {h : List Nat} (hh : S8 h) (b : List Int) (count : Nat) {mark : Nat} (hm : mark < 4294967296) : S8 (prs h b count mark) := ⟨by simp [prs], fun x hx => by
  obtain ⟨i, _, rfl⟩ := List.mem_map.1 hx
  have hw := rds_w (pv_w hh count hm) (wds b) 10
  exact xor_lt (hh.bd.at _) (xor_lt (hw.at _) (hw.at _))⟩
/-- the key, filled up -/
def fil (key : List Int) : List Int := if key.length = 0 then [] else key ++ List.replicate (64 - key.length) 0
theorem fil_len (key : List Int) (h : key.length ≤ 32) : (fil key).length = if key.length = 0 then 0 else 64 := by
  unfold fil
  split
  · rfl
  · simp; omega
theorem fil_byb {key : List Int} (h : Byb key) : Byb (fil key) := fun x hx => by
  unfold fil at hx
  split at hx
  · cases hx
  · rcases List.mem_append.1 hx with hx | hx
    · exact h x hx
    · rw [(List.mem_replicate.1 hx).2]; decide
/-- the state at the beginning -/
def h0 (size kl : Nat) : List Nat := iv.set 0 (1779033703 ^^^ (16842752 + 256 * kl + size))
theorem h0_s8 {size kl : Nat} (hs : size ≤ 32) (hk : kl ≤ 32) : S8 (h0 size kl) := ⟨rfl, iv_s8.bd.set _ _ (xor_lt (by decide) (by omega))⟩
/-- how many blocks of n bytes are pressed, when no byte comes behind them -/
def nbl (n : Nat) : Nat := (n - 1) / 64
/-- the state when k blocks are pressed -/
def prn (h : List Nat) (A : List Int) : Nat → List Nat
  | 0 => h
  | k + 1 => prs (prn h A k) ((A.drop (64 * k)).take 64) (64 * (k + 1)) 0
theorem prn_s8 {h : List Nat} (hh : S8 h) (A : List Int) (k : Nat) : S8 (prn h A k) := by
  induction k with
  | zero => exact hh
  | succ k ih => exact prs_s8 ih _ _ (by decide)
theorem prn_app (h : List Nat) (A D : List Int) (k : Nat) (hk : 64 * k ≤ A.length) : prn h (A ++ D) k = prn h A k := by
  induction k with
  | zero => rfl
  | succ k ih =>
    unfold prn
    rw [ih (by omega), List.drop_append_of_le_length (by omega), List.take_append_of_le_length (by rw [List.length_drop]; omega)]
/-- what is held -/
def hld (A : List Int) : List Int := A.drop (64 * nbl A.length)
theorem hld_len (A : List Int) : (hld A).length = A.length - 64 * nbl A.length := List.length_drop ..
theorem hld_le (A : List Int) : (hld A).length ≤ 64 := by rw [hld_len]; unfold nbl; omega
theorem nbl_le (n : Nat) : 64 * nbl n ≤ n := by unfold nbl; omega
/-- the digest's words -/
def dgw (h : List Nat) (A : List Int) : List Nat := prs (prn h A (nbl A.length)) (hld A) A.length 4294967295
theorem dgw_s8 {h : List Nat} (hh : S8 h) (A : List Int) : S8 (dgw h A) := prs_s8 (prn_s8 hh _ _) _ _ (by decide)
/-- the first bytes of words -/
def spl (h : List Nat) (n : Nat) : List Int := (List.range n).map fun j => ((bt h j : Nat) : Int)
theorem spl_len (h : List Nat) (n : Nat) : (spl h n).length = n := by simp [spl]
theorem spl_byb (h : List Nat) (n : Nat) : Byb (spl h n) := fun x hx => by
  obtain ⟨i, _, rfl⟩ := List.mem_map.1 hx
  have := bt_lt h i
  omega
theorem spl_take (h : List Nat) {n m : Nat} (hnm : n ≤ m) : (spl h m).take n = spl h n := by
  simp only [spl, ← List.map_take, List.take_range, Nat.min_eq_left hnm]
/-- P8.1 -/
def dig (size : Nat) (key D : List Int) : List Int := spl (dgw (h0 size key.length) (fil key ++ D)) size
theorem dig_len (size : Nat) (key D : List Int) : (dig size key D).length = size := spl_len _ _
/-- P8.7: what Write logs of n bytes, h held -/
def wlg : Nat → Nat → Nat → List (Int × Int)
  | 0, _, _ => []
  | f + 1, h, n => if n = 0 then [(1, 0)] else
    if h = 64 then [(1, 1), (1, 1), (3, 31), (2, 0), (2, ((min 64 n : Nat) : Int))] ++ wlg f (min 64 n) (n - min 64 n)
    else [(1, 1), (1, 0), (2, (h : Int)), (2, ((min (64 - h) n : Nat) : Int))] ++ wlg f (h + min (64 - h) n) (n - min (64 - h) n)
end Go.Dig
