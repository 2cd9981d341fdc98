import Derived.WalkKit
import Derived.WalkSpells
import Derived.WalkLawsBesides
import Derived.Laws.BitsAllLaws
import Derived.Laws.StructEq
import Derived.Laws.BytesString
import Derived.Deep.WholeRow
import Derived.Deep.MidRow
import Derived.Deep.RegionHeld3
import Derived.Deep.DeepCutAuto
import Derived.Deep.QuietTactic
import Derived.BigQuiet
import Derived.BigFrame
import Derived.Lib.SliceRun
import Derived.Lib.SlBytesConst
import Derived.SizedLaws
import Derived.ProofKit
import Derived.OpenShut
import Derived.ShutString
import Derived.ChangeOld
import Derived.Below
import Init
namespace Go.Pin

/-! Numbers of 64 and of 8 digits as bit vectors -/
theorem ofBv64 {a : Int} (h0 : 0 ≤ a) (h1 : a < 18446744073709551616) : ∃ x : BitVec 64, a = (x.toNat : Int) :=
  ⟨BitVec.ofNat 64 a.toNat, by rw [BitVec.toNat_ofNat, Nat.mod_eq_of_lt (by omega)]; omega⟩
theorem ofBv8 {a : Int} (h0 : 0 ≤ a) (h1 : a < 256) : ∃ x : BitVec 8, a = (x.toNat : Int) :=
  ⟨BitVec.ofNat 8 a.toNat, by rw [BitVec.toNat_ofNat, Nat.mod_eq_of_lt (by omega)]; omega⟩
theorem xor64 (x y : BitVec 64) : bits .xor .u64 (x.toNat : Int) (y.toNat : Int) = ((x ^^^ y).toNat : Int) := by
  rw [u64_xor_nat _ _ x.isLt y.isLt, BitVec.toNat_xor]
theorem or64 (x y : BitVec 64) : bits .or .u64 (x.toNat : Int) (y.toNat : Int) = ((x ||| y).toNat : Int) := by
  rw [u64_or_nat _ _ x.isLt y.isLt, BitVec.toNat_or]
theorem and64 (x y : BitVec 64) : bits .and .u64 (x.toNat : Int) (y.toNat : Int) = ((x &&& y).toNat : Int) := by
  rw [u64_and_nat _ _ x.isLt y.isLt, BitVec.toNat_and]
theorem xor8 (x y : BitVec 8) : bits .xor .u8 (x.toNat : Int) (y.toNat : Int) = ((x ^^^ y).toNat : Int) := by
  rw [u8_xor_nat _ _ x.isLt y.isLt, BitVec.toNat_xor]
theorem or8 (x y : BitVec 8) : bits .or .u8 (x.toNat : Int) (y.toNat : Int) = ((x ||| y).toNat : Int) := by
  rw [u8_or_nat _ _ x.isLt y.isLt, BitVec.toNat_or]
theorem and8 (x y : BitVec 8) : bits .and .u8 (x.toNat : Int) (y.toNat : Int) = ((x &&& y).toNat : Int) := by
  rw [u8_and_nat _ _ x.isLt y.isLt, BitVec.toNat_and]
theorem neg64 (x : BitVec 64) : IntKind.u64.wrap (-(x.toNat : Int)) = ((-x).toNat : Int) := by
  rw [IntKind.wrap_u64, BitVec.toNat_neg]
  have := x.isLt
  omega
theorem sub64 (x y : BitVec 64) : IntKind.u64.wrap ((x.toNat : Int) - (y.toNat : Int)) = ((x - y).toNat : Int) := by
  rw [IntKind.wrap_u64, BitVec.toNat_sub]
  have := x.isLt
  have := y.isLt
  omega
theorem max64 : IntKind.u64.max = ((BitVec.allOnes 64).toNat : Int) := by decide
theorem one64 : (1 : Int) = ((1#64 : BitVec 64).toNat : Int) := by decide
theorem top64 (x : BitVec 64) : (x.toNat : Int) / 9223372036854775808 = if x.msb then 1 else 0 := by
  rw [BitVec.msb_eq_decide]
  have := x.isLt
  by_cases h : 2 ^ (64 - 1) ≤ x.toNat
  · simp [h]; omega
  · simp [h]; omega

/-! The document's bits -/
def eqB (a b : Int) : Int := if a = b then 1 else 0
def ltB (a b : Int) : Int := if a < b then 1 else 0
def pickI (s a b : Int) : Int := if s % 2 = 1 then a else b

theorem equal_math (a b : Int) (a0 : 0 ≤ a) (a1 : a < 18446744073709551616) (b0 : 0 ≤ b) (b1 : b < 18446744073709551616) :
    bits .xor .u64 (bits .or .u64 (bits .xor .u64 a b) (IntKind.u64.wrap (-bits .xor .u64 a b)) / 9223372036854775808) 1 = eqB a b := by
  obtain ⟨x, rfl⟩ := ofBv64 a0 a1
  obtain ⟨y, rfl⟩ := ofBv64 b0 b1
  rw [xor64, neg64, or64, top64]
  unfold eqB
  by_cases h : x = y
  · subst h
    simp
    decide
  · have hd : x ^^^ y ≠ 0#64 := by simpa using h
    have hm : ((x ^^^ y) ||| -(x ^^^ y)).msb = true := by
      rw [BitVec.msb_or, BitVec.msb_neg]
      by_cases h2 : x ^^^ y = BitVec.intMin 64
      · rw [h2]; decide
      · generalize x ^^^ y = d at *
        cases hb : d.msb <;> simp [hd, h2]
    have hne : ¬ ((x.toNat : Int) = (y.toNat : Int)) := by
      intro e
      exact h (BitVec.eq_of_toNat_eq (by omega))
    rw [hm, if_neg hne]
    decide

theorem less_math (a b : Int) (a0 : 0 ≤ a) (a1 : a < 18446744073709551616) (b0 : 0 ≤ b) (b1 : b < 18446744073709551616) :
    bits .or .u64 (bits .and .u64 (bits .xor .u64 IntKind.u64.max a) b) (bits .and .u64 (bits .xor .u64 IntKind.u64.max (bits .xor .u64 a b)) (IntKind.u64.wrap (a - b))) / 9223372036854775808 = ltB a b := by
  obtain ⟨x, rfl⟩ := ofBv64 a0 a1
  obtain ⟨y, rfl⟩ := ofBv64 b0 b1
  rw [max64, xor64, xor64, xor64, sub64, and64, and64, or64, top64]
  unfold ltB
  have hx := x.isLt
  have hy := y.isLt
  have h1 : ((BitVec.allOnes 64 ^^^ x) &&& y ||| (BitVec.allOnes 64 ^^^ (x ^^^ y)) &&& (x - y)).msb = ((!x.msb && y.msb) || (!(x.msb ^^ y.msb) && (x - y).msb)) := by
    have ho : (BitVec.allOnes 64).msb = true := by decide
    rw [BitVec.msb_or, BitVec.msb_and, BitVec.msb_and, BitVec.msb_xor, BitVec.msb_xor, BitVec.msb_xor, ho]
    simp
  rw [h1, BitVec.msb_eq_decide, BitVec.msb_eq_decide, BitVec.msb_eq_decide, BitVec.toNat_sub]
  by_cases hx1 : 2 ^ (64 - 1) ≤ x.toNat <;> by_cases hy1 : 2 ^ (64 - 1) ≤ y.toNat <;> by_cases hlt : x.toNat < y.toNat
  all_goals (
    have hlt' : ((x.toNat : Int) < (y.toNat : Int)) = (x.toNat < y.toNat) := by simp
    simp only [hlt', hlt, hx1, hy1]
    simp
    try omega)

theorem pick_math (s a b : Int) (s0 : 0 ≤ s) (s1 : s < 18446744073709551616) (a0 : 0 ≤ a) (a1 : a < 18446744073709551616) (b0 : 0 ≤ b) (b1 : b < 18446744073709551616) :
    bits .xor .u64 b (bits .and .u64 (IntKind.u64.wrap (-bits .and .u64 s 1)) (bits .xor .u64 a b)) = pickI s a b := by
  obtain ⟨x, rfl⟩ := ofBv64 a0 a1
  obtain ⟨y, rfl⟩ := ofBv64 b0 b1
  obtain ⟨z, rfl⟩ := ofBv64 s0 s1
  have hz : bits .and .u64 (z.toNat : Int) 1 = ((z.toNat % 2 : Nat) : Int) := by
    have := u64_and_nat z.toNat 1 z.isLt (by decide)
    rw [nat_mask1] at this
    exact this
  unfold pickI
  rcases Nat.mod_two_eq_zero_or_one z.toNat with h | h
  · have h' : ¬ ((z.toNat : Int) % 2 = 1) := by omega
    rw [hz, h, if_neg h', xor64, show IntKind.u64.wrap (-((0 : Nat) : Int)) = ((0#64).toNat : Int) by decide, and64, xor64]
    simp
  · have h' : ((z.toNat : Int) % 2 = 1) := by omega
    rw [hz, h, if_pos h', xor64, show IntKind.u64.wrap (-((1 : Nat) : Int)) = ((BitVec.allOnes 64).toNat : Int) by decide, and64, xor64]
    rw [BitVec.allOnes_and, BitVec.xor_comm x y, ← BitVec.xor_assoc]
    simp

/-! Rows of numbers -/
def VI (k : IntKind) (l : List Int) : Array Value := (l.map (Value.int k)).toArray
@[simp] theorem VI_size (k : IntKind) (l : List Int) : (VI k l).size = l.length := by simp [VI]
theorem VI_at (k : IntKind) (l : List Int) (i : Nat) (h : i < l.length) : (VI k l)[i]? = some (.int k (l.getD i 0)) := by
  simp [VI, h, List.getD]
@[go_sem] theorem VI_get (k : IntKind) (l : List Int) (i : Nat) (h : i < (VI k l).size) : (VI k l)[i] = .int k (l[i]?.getD 0) := by
  have h' : i < l.length := by simpa using h
  simp [VI, h']
theorem heap_alloc_any (w : World) (o : Obj) (i : Nat) : (w.alloc o).heap[i]? = if i = w.heap.size then some o else w.heap[i]? := by
  show (w.heap.push o)[i]? = _
  rw [Array.getElem?_push]
theorem size_alloc (w : World) (o : Obj) : (w.alloc o).heap.size = w.heap.size + 1 := by
  show (w.heap.push o).size = _
  simp
theorem heap3_0 (w : World) (A B C : Obj) : (((w.alloc A).alloc B).alloc C).heap[w.heap.size]? = some A := by
  simp only [heap_alloc_any, size_alloc]
  rw [if_neg (by omega), if_neg (by omega), if_pos trivial]
theorem heap3_1 (w : World) (A B C : Obj) : (((w.alloc A).alloc B).alloc C).heap[w.heap.size + 1]? = some B := by
  simp only [heap_alloc_any, size_alloc]
  rw [if_neg (by omega), if_pos (by trivial)]
theorem heap3_2 (w : World) (A B C : Obj) : (((w.alloc A).alloc B).alloc C).heap[w.heap.size + 2]? = some C := by
  simp only [heap_alloc_any, size_alloc]
  rw [if_pos (by trivial)]
theorem VI_one (k : IntKind) (l : List Int) : (VI k l).all (·.oneCell') = true := by
  apply Array.all_eq_true_iff_forall_mem.2
  intro v hv
  simp only [VI, List.mem_toArray, List.mem_map] at hv
  obtain ⟨n, _, rfl⟩ := hv
  rfl
theorem VI_set (k : IntKind) (l : List Int) (i : Nat) (v : Int) : (VI k l).setIfInBounds i (.int k v) = VI k (l.set i v) := by
  simp [VI, List.map_set]
theorem VI_inj {k : IntKind} {l m : List Int} (h : VI k l = VI k m) : l = m := by
  have h2 : l.map (Value.int k) = m.map (Value.int k) := by simpa [VI] using h
  exact (List.map_inj_right (fun a b e => by injection e)).1 h2

section
variable {P : Program}
theorem run_index_row (w : World) (t e : TypeId) (k kk : IntKind) (n : Nat) (l : List Int) (i : Nat) (hl : l.length = n) (hi : i < n)
    (ht : P.underlying t = some (.array n e)) (he : P.underlying e = some (.int k)) (hs : ∀ w, (sizeOf e).run P w = .ok 1 w) :
    (Instr.index t (.agg (VI k l)) (.int kk (i : Int))).run P w = .ok (.int k (l.getD i 0)) w := by
  subst hl
  have h1 : (0 : Int) ≤ (i : Int) ∧ (i : Int) < ((l.length : Nat) : Int) := by omega
  simp [Instr.index, run_underlying ht, asIntOf, hi, go_sem, hs, part, isAgg, run_underlying he]

theorem run_equalIn_row (w : World) (d : Nat) (t e : TypeId) (k : IntKind) (n : Nat) (xs ys : List Int) (hx : xs.length = n) (hy : ys.length = n)
    (ht : P.underlying t = some (.array n e)) (he : P.underlying e = some (.int k)) (hsz : ∀ w, (sizeOf e).run P w = .ok 1 w) :
    (Op.equalIn (d + 2) t (.agg (VI k xs)) (.agg (VI k ys))).run P w = .ok (xs == ys) w := by
  have hall : ∀ (xs ys : List Int), xs.length = ys.length → ((List.range xs.length).all fun i => xs.getD i 0 == ys.getD i 0) = (xs == ys) := by
    intro xs
    induction xs with
    | nil => intro ys h; cases ys with | nil => rfl | cons _ _ => simp at h
    | cons x xs ih =>
      intro ys h
      cases ys with
      | nil => simp at h
      | cons y ys =>
        have ih' := ih ys (by simpa using h)
        rw [List.length_cons, List.range_succ_eq_map, List.all_cons, List.all_map]
        simp only [List.getD_cons_zero, Function.comp_def, List.getD_cons_succ, ih']
        simp [List.cons_beq_cons]
  rw [← hall xs ys (hx.trans hy.symm), hx, List.range_eq_range', Op.equalIn]
  simp only [Sem.run_bind, run_underlying ht, Result.andThen_ok, hsz, Std.Legacy.Range.forIn_eq_forIn_range', Std.Legacy.Range.size, Nat.sub_zero, Nat.add_sub_cancel, Nat.div_one]
  have hl : ∀ i ∈ List.range' 0 n 1, i < n := fun i hi => by simpa using (List.mem_range'_1.1 hi).2
  generalize List.range' 0 n 1 = l at hl ⊢
  induction l with
  | nil => simp
  | cons i l ih =>
    have hi : i < n := hl i (by simp)
    have px : (part e (VI k xs) (i * 1)).run P w = .ok (.int k (xs.getD i 0)) w := by
      have := VI_at k xs i (by omega)
      simp only [part, isAgg, Sem.run_bind, run_underlying he, Result.andThen_ok, Nat.mul_one, this]
      simp
    have py : (part e (VI k ys) (i * 1)).run P w = .ok (.int k (ys.getD i 0)) w := by
      have := VI_at k ys i (by omega)
      simp only [part, isAgg, Sem.run_bind, run_underlying he, Result.andThen_ok, Nat.mul_one, this]
      simp
    have pe : (Op.equalIn (d + 1) e (.int k (xs.getD i 0)) (.int k (ys.getD i 0))).run P w = .ok (xs.getD i 0 == ys.getD i 0) w :=
      run_equalIn_int w d e k k _ _ he
    simp only [List.forIn_cons, Sem.run_bind, px, py, pe, Result.andThen_ok, List.all_cons]
    cases hb : (xs.getD i 0 == ys.getD i 0)
    · simp
    · simp only [Bool.not_true, Bool.false_eq_true, if_false, Sem.run_pure, Result.andThen_ok, Bool.true_and]
      exact ih fun j hj => hl j (by simp [hj])
end
open Go.ChangeShapes Go.WideShapes Go.ChangeAt Go.RowKit
theorem ret_int {k : IntKind} {a b : Int} (h : a = b) : Ending.returned (.int k a) = .returned (.int k b) := by rw [h]
theorem set_step (a b : List Int) (k : Nat) (h1 : k < a.length) (h2 : k < b.length) : (a.take k ++ b.drop k).set k a[k] = a.take (k + 1) ++ b.drop (k + 1) := by
  rw [List.take_succ_eq_append_getElem h1, List.set_append_right _ _ (by simp; omega)]
  rw [List.length_take, Nat.min_eq_left (show k ≤ a.length by omega), Nat.sub_self, List.drop_eq_getElem_cons h2, List.set_cons_zero, List.append_assoc]
  rfl
theorem get_step (a b : List Int) (k : Nat) (h1 : k < a.length) (h2 : k < b.length) : (a.take k ++ b.drop k)[k]?.getD 0 = b[k] := by
  rw [List.getElem?_append_right (by simp; omega)]
  simp [Nat.min_eq_left (show k ≤ a.length by omega), h2]
/-- all but the blocks of S is as it was -/
structure But (S : Nat → Prop) (w w' : World) : Prop where
  os : w'.os = w.os
  tape : w'.tape = w.tape
  output : w'.output = w.output
  size : w'.heap.size = w.heap.size
  block : ∀ k, ¬ S k → w'.heap[k]? = w.heap[k]?
theorem But.refl (S : Nat → Prop) (w : World) : But S w w := ⟨rfl, rfl, rfl, rfl, fun _ _ => rfl⟩
theorem But.drew {S : Nat → Prop} {a w : World} (h : But S a w) : But S a w.drew := ⟨h.os, h.tape, h.output, h.size, h.block⟩
theorem But.setCell {S : Nat → Prop} {a w : World} (h : But S a w) {p : Addr} (hp : S p.block) (u : Value) : But S a (w.setCell p u) :=
  ⟨h.os, h.tape, h.output, by rw [← h.size]; simp [World.setCell], fun k hk => by rw [heap_setCell_other _ _ _ _ (fun e => hk (by rw [e]; exact hp))]; exact h.block k hk⟩
theorem But.below {S : Nat → Prop} {w w' : World} (h : But S w w') {B : Nat} (hS : ∀ k, S k → B ≤ k) : Below B w w' :=
  ⟨h.os, h.tape, h.output, by rw [h.size]; exact Nat.le_refl _, fun k hk => h.block k (fun hs => by have := hS k hs; omega)⟩
theorem but_setCells (b : Nat) : ∀ (vs : List Value) (o : Nat) (w : World), But (fun k => k = b) w (w.setCells b o vs)
  | [], _, w => But.refl _ w
  | v :: r, o, w => by
    rw [World.setCells]
    have h1 := (But.refl (fun k => k = b) w).setCell (p := ⟨b, o, none⟩) rfl v
    have h2 := but_setCells b r (o + 1) (w.setCell ⟨b, o, none⟩ v)
    exact ⟨h2.os.trans h1.os, h2.tape.trans h1.tape, h2.output.trans h1.output, h2.size.trans h1.size, fun k hk => (h2.block k hk).trans (h1.block k hk)⟩
theorem below_setRow {B : Nat} {a w : World} (h : Below B a w) (g : Nat) (hg : B ≤ g) (cs : Array Value) : Below B a (w.setRow g cs) :=
  ⟨h.os, h.tape, h.output, by rw [size_setRow]; exact h.size, fun k hk => by rw [setRow_other w g k cs (by omega)]; exact h.block k hk⟩
theorem load_row_w {P : Program} {ops : Array Oper} {rest : List Oper} {o : Oper} {a : Act} {w : World} {Q : Exit → Act → World → Prop} (hw : Region.wanted o (yielded ops a.tmps) = true) (ty : TypeId) (x : Operand) (ho : o.op = .load ty x)
    (g : Nat) (hx : a.eval x = .pointer (some ⟨g, 0, none⟩)) (t : TypeId) (cs : Array Value) (fr : Nat × Nat) (d : TypeDesc) (hg : w.heap[g]? = some (.cells cs t fr))
    (hu : P.underlying ty = some d) (hd : (match d with | .struct _ | .array _ _ => true | _ => false) = true) (hi : (P.info? ty).map (·.size) = some cs.size)
    (h : wpList P ops Q rest (a.put o.dst (.agg cs)) w) : wpList P ops Q (o :: rest) a w :=
  BigFrame.wpList_want hw fun _ hK => wp_load_row ty x ho g hx t cs fr d hg hu hd hi (hK _ _ h)
theorem store_row_new {P : Program} {ops : Array Oper} {rest : List Oper} {o : Oper} {a : Act} {w : World} {Q : Exit → Act → World → Prop} (hgd : o.guard = none) (ty : TypeId) (x y : Operand) (ho : o.op = .store ty x y)
    (g : Nat) (cells : Array Value) (hx : a.eval x = .pointer (some ⟨g, 0, none⟩)) (hg : g = w.heap.size) (hy : a.eval y = .agg cells)
    (t : TypeId) (old : Array Value) (hi : (P.info? ty).map (·.size) = some cells.size)
    (hold : old.size = cells.size) (h1 : cells.all (·.oneCell') = true)
    (h : wpList P ops Q rest (a.put o.dst undef) (w.alloc (.cells cells t))) : wpList P ops Q (o :: rest) a (w.alloc (.cells old t)) := by
  subst hg
  refine wpList_store_row hgd ty x y ho _ cells hx hy t old (heap_alloc_new w _) hi hold h1 ?_
  rw [World.setRow_alloc_new]
  exact h
theorem at_list {P : Program} {ops : Array Oper} {rest : List Oper} {o : Oper} {a : Act} {w : World} {Q : Exit → Act → World → Prop} (h : wpList P ops Q (o :: rest) a w) : wpList P ops Q (o :: rest) a w := h
theorem load_at {P : Program} {ops : Array Oper} {rest : List Oper} {o : Oper} {a : Act} {w : World} {Q : Exit → Act → World → Prop} (ty : TypeId) (x : Operand) (ho : o.op = .load ty x) (hw : Region.wanted o (yielded ops a.tmps) = true)
    (g : Nat) (hx : a.eval x = .pointer (some ⟨g, 0, none⟩)) (t : TypeId) (cs : Array Value) (fr : Nat × Nat) (d : TypeDesc) (hg : w.heap[g]? = some (.cells cs t fr))
    (hu : P.underlying ty = some d) (hd : (match d with | .struct _ | .array _ _ => true | _ => false) = true) (hi : (P.info? ty).map (·.size) = some cs.size)
    (h : wpList P ops Q rest (a.put o.dst (.agg cs)) w) : wpList P ops Q (o :: rest) a w :=
  load_row_w hw ty x ho g hx t cs fr d hg hu hd hi h
theorem hold_store {P : Program} {ops : Array Oper} {rest : List Oper} {o : Oper} {a : Act} {w : World} {Q : Exit → Act → World → Prop} (ty : TypeId) (x y : Operand) (_ : o.op = .store ty x y) (h : Hid (wpList P ops Q (o :: rest) a w)) : wpList P ops Q (o :: rest) a w := h
theorem yieldsIf_load_row {P : Program} {ops : Array Oper} {S : World → Prop} {op : Oper} {a : Act} (hw : Region.wanted op (yielded ops a.tmps) = true) (ty : TypeId) (x : Operand) (ho : op.op = .load ty x)
    (g : Nat) (hx : a.eval x = .pointer (some ⟨g, 0, none⟩)) (t : TypeId) (cs : Array Value) (fr : Nat × Nat) (d : TypeDesc) (hS : ∀ w, S w → w.heap[g]? = some (.cells cs t fr))
    (hu : P.underlying ty = some d) (hd : (match d with | .struct _ | .array _ _ => true | _ => false) = true) (hi : (P.info? ty).map (·.size) = some cs.size) : YieldsIf P ops S op (.agg cs) a :=
  .inl ⟨hw, fun w hw' => by
    unfold execOp
    simp only [ho, hx, Instr.loadAt, Instr.sureAddr, Sem.run_bind, Sem.run_pure, Result.andThen_ok, run_loadVar_row w g t ty cs fr d (hS w hw') hu hd hi]⟩
theorem add_mid (b o j : Nat) : (⟨b, o, none⟩ : Addr).add j = ⟨b, o + j, none⟩ := by unfold Addr.add; split <;> simp_all
theorem below_drewN' {B : Nat} {a w : World} (h : Below B a w) (n : Nat) : Below B a (w.drewN n) := ⟨h.os, h.tape, h.output, h.size, h.block⟩
theorem range_row {W : World} {b : Nat} {cs : Array Value} {t : TypeId} {fr : Nat × Nat} (h : W.heap[b]? = some (.cells cs t fr)) (ks : List Value) (hk : ks.toArray = cs) : W.rangeAt b 0 ks := fun j v hv => by
  rw [cell_of_row W b (0 + j) cs t fr h, ← hk, Nat.zero_add]
  simpa using hv
/-- a slice of numbers that came in -/
def IsRow (k : IntKind) (w : World) (a : Option Addr) (len cap : Nat) (zs : List Int) : Prop :=
  (a = none ∧ len = 0 ∧ cap = 0 ∧ zs = []) ∨
  ∃ x, a = some x ∧ len ≤ cap ∧ cap ≤ maxLen ∧ zs.length = cap ∧ (∀ i, i < zs.length → w.cell? (x.add i) = some (.int k (zs.getD i 0))) ∧ ∀ n ∈ zs, (Lit.int k n).wf = true
theorem open_isRow {H : Type} {enc : TypeId × Value → H} {P : Program} {ts : List TypeId} {ds : List (DataW H)} {W : World} {j : Nat} {t e : TypeId} {k : IntKind} {a : Option Addr} {len cap : Nat} {d : DataW H} {p : List MemPlace}
    (ht : P.underlying t = some (.slice e)) (he : P.underlying e = some (.int k)) (hce : P.cellsOf e = 1) (hsz : (DataW.weightsEach P ts ds).all (· ≤ reachBytes) = true) (htj : ts[j]? = some t) (hdj : ds[j]? = some d)
    (h : DataW.Trod enc P W 0 (fun _ => true) true t (.slice a len cap) d p) : ∃ zs, IsRow k W a len cap zs ∧ cap * P.bytesOf e ≤ reachBytes := by
  obtain ⟨fuel, hf⟩ := h
  rcases open_ints ht he hce hf with ⟨hcs, _⟩ | ⟨x, l, c, zs, hcs, _, hl, hm, hz, hx, hcell, hwz⟩
  · simp [Value.cells] at hcs
    obtain ⟨rfl, rfl, rfl⟩ := hcs
    exact ⟨[], .inl ⟨rfl, rfl, rfl, rfl⟩, by simp⟩
  · simp [Value.cells] at hcs
    obtain ⟨rfl, rfl, rfl⟩ := hcs
    have hz' : zs.length = cap := by simpa using hz
    refine ⟨zs, .inr ⟨_, rfl, hl, hm, hz', hcell, hwz⟩, ?_⟩
    simp only [Prod.mk.injEq] at hx
    obtain ⟨rfl, _⟩ := hx
    have := sized_slice hsz htj hdj ht
    simp only [lits, List.length_map, List.length_take, List.length_drop] at this
    rw [show min len zs.length + (zs.length - len) = cap by omega] at this
    exact this

section
variable {H : Type} {enc : TypeId × Value → H} {P : Program}

/-- Every argument reads behind the call as it read before, where nothing that was there has turned. -/
theorem trodAll_below (hl : laidOutB P = true) {W W' : World} (hb : Below W.heap.size W W') :
    ∀ (ts : List TypeId) (vs : List Value) (ds : List (DataW H)) (p : List MemPlace), (ts.all fun t => P.readableRec t && decide (t < P.types.size)) = true →
      DataW.TrodAll enc P W 0 (fun _ => true) true ts vs ds p → DataW.TrodAll enc P W' 0 (fun b => decide (b < W.heap.size)) true ts vs ds p
  | [], [], [], _, _, h => h
  | t :: ts, v :: vs, d :: ds, _, hok, h => by
    obtain ⟨p, q, h1, h2, h3⟩ := h
    rw [List.all_cons, Bool.and_eq_true, Bool.and_eq_true] at hok
    obtain ⟨⟨a1, a2⟩, a3⟩ := hok
    refine ⟨p, q, Below.trod hl a1 (of_decide_eq_true a2) h1 hb ?_, trodAll_below hl hb ts vs ds q a3 h2, h3⟩
    obtain ⟨m, hm⟩ := h1
    exact DataW.trod_lt m _ _ _ hm
  | [], _ :: _, _, _, _, h => h.elim
  | [], [], _ :: _, _, _, h => h.elim
  | _ :: _, [], _, _, _, h => h.elim
  | _ :: _, _ :: _, [], _, _, h => h.elim

theorem okWide_array {t e : TypeId} {n : Nat} {w : World} {r : Reach} {base : Nat} {v : Value} (ht : P.underlying t = some (.array n e)) (h : Value.okWide P w r base t v) : ∃ cs, v = .agg cs ∧ cs.size = P.cellsOf t := by
  simp only [Value.okWide, ht] at h
  obtain ⟨cs, h1, h2, _⟩ := h
  exact ⟨cs, h1, h2⟩

/-- An argument that is an array of numbers, opened. -/
theorem open_row {w : World} {base b0 : Nat} {spare : Nat → Bool} {held : Bool} {r : Reach} {t e : TypeId} {n : Nat} {k : IntKind} {v : Value} {d : DataW H} {p : List MemPlace} (ht : P.underlying t = some (.array n e)) (he : P.underlying e = some (.int k))
    (hce : P.cellsOf e = 1) (hct : P.cellsOf t = n) (hv : Value.okWide P w r b0 t v) (h : DataW.Trod enc P w base spare held t v d p) :
    ∃ l : List Int, v = .agg (VI k l) ∧ l.length = n ∧ ∀ x ∈ l, (Lit.int k x).wf = true := by
  obtain ⟨cs, rfl, hsz⟩ := okWide_array ht hv
  obtain ⟨fuel, hf⟩ := h
  obtain ⟨xs, m, _, _, hlen, hxl, hall⟩ := DataW.trod_array ht hf
  have key : ∀ i, i < n → ∃ x, cs[i]? = some (.int k x) ∧ (Lit.int k x).wf = true := by
    intro i hi
    have h1 := hall i hi
    rw [List.getElem?_eq_getElem (by omega)] at h1
    obtain ⟨x, hx, _, hw⟩ := DataW.trod_int he h1
    refine ⟨x, ?_, hw⟩
    rw [hce, Nat.mul_one] at hx
    have h3 := congrArg (fun z => z[0]?) hx
    simp [Value.cells] at h3
    exact h3
  have hcs : cs.size = n := hsz.trans hct
  refine ⟨(List.range n).map (fun i : Nat => intOf (cs[i]?.getD .nilIface)), ?_, by simp, ?_⟩
  · congr 1
    apply Array.ext_getElem?
    intro i
    by_cases hi : i < n
    · obtain ⟨x, hx, _⟩ := key i hi
      rw [hx]
      simp [VI, hi, hx, intOf]
    · rw [Array.getElem?_eq_none (by omega), Array.getElem?_eq_none (by simp [VI]; omega)]
  · intro x hx
    rw [List.mem_map] at hx
    obtain ⟨i, hi, rfl⟩ := hx
    obtain ⟨x, hx, hw⟩ := key i (by simpa using hi)
    rw [hx]
    exact hw
end
end Go.Pin
namespace Go.Prm
open Go
/-- the prime -/
def P : Nat := 1361129467683753853853498429727072845819
theorem P_eq : P = 2 ^ 130 - 5 := by decide
theorem P_PI : (P : Int) = (1361129467683753853853498429727072845819 : Int) := by decide
/-- the number of limbs -/
def V : List Int → Int
  | [] => 0
  | x :: l => x + 67108864 * V l
theorem V_cons (x : Int) (l : List Int) : V (x :: l) = x + 67108864 * V l := rfl
theorem V_nil : V [] = 0 := rfl
/-- carry -/
def cy : Int → List Int → List Int
  | _, [] => []
  | o, x :: l => (x + o) % 67108864 :: cy ((x + o) / 67108864) l
def co : Int → List Int → Int
  | o, [] => o
  | o, x :: l => co ((x + o) / 67108864) l
@[simp] theorem cy_len : ∀ (l : List Int) (o : Int), (cy o l).length = l.length
  | [], _ => rfl
  | _ :: l, _ => by simp [cy, cy_len l]
theorem cy_V : ∀ (l : List Int) (o : Int), V (cy o l) + (67108864 : Int) ^ l.length * co o l = V l + o
  | [], o => by simp [V, cy, co]
  | x :: l, o => by
    have ih := cy_V l ((x + o) / 67108864)
    simp only [cy, co, V, List.length_cons]
    have hd := Int.emod_add_mul_ediv (x + o) 67108864
    rw [Int.pow_succ]
    have e : (x + o) % 67108864 + 67108864 * V (cy ((x + o) / 67108864) l) + (67108864 : Int) ^ l.length * 67108864 * co ((x + o) / 67108864) l = (x + o) % 67108864 + 67108864 * (V (cy ((x + o) / 67108864) l) + (67108864 : Int) ^ l.length * co ((x + o) / 67108864) l) := by grind
    rw [e, ih]
    grind
theorem cy_lt : ∀ (l : List Int) (o : Int), ∀ x ∈ cy o l, 0 ≤ x ∧ x < 67108864
  | [], _ => by simp [cy]
  | y :: l, o => by
    intro x hx
    rw [cy, List.mem_cons] at hx
    rcases hx with rfl | hx
    · omega
    · exact cy_lt l _ x hx
theorem five {l : List Int} (h : l.length = 5) : ∃ a b c d e, l = [a, b, c, d, e] := by
  match l, h with
  | [a, b, c, d, e], _ => exact ⟨a, b, c, d, e, rfl⟩
theorem V_lt : ∀ (l : List Int), (∀ x ∈ l, 0 ≤ x ∧ x < 67108864) → 0 ≤ V l ∧ V l < (67108864 : Int) ^ l.length
  | [], _ => by simp [V]
  | x :: l, h => by
    have ih := V_lt l (fun y hy => h y (by simp [hy]))
    have hx := h x (by simp)
    rw [V, List.length_cons, Int.pow_succ]
    generalize (67108864 : Int) ^ l.length = R at *
    omega
/-- limbs of a number: five, each below 2^52 -/
structure Lim (l : List Int) : Prop where
  len : l.length = 5
  bd : ∀ x ∈ l, 0 ≤ x ∧ x < 134217728
/-- limbs l are the number n -/
structure El (l : List Int) (n : Nat) : Prop extends Lim l where
  val : V l % 1361129467683753853853498429727072845819 = n
theorem El.lt {l : List Int} {n : Nat} (h : El l n) : n < P := by
  have := h.val
  have e := P_PI
  have : V l % 1361129467683753853853498429727072845819 < 1361129467683753853853498429727072845819 := Int.emod_lt_of_pos _ (by decide)
  omega
theorem El.uniq {l : List Int} {n m : Nat} (h : El l n) (h' : El l m) : n = m := by
  have := h.val
  have := h'.val
  omega
theorem modP (n : Nat) : ((n : Int) % 1361129467683753853853498429727072845819) = ((n % P : Nat) : Int) := by rw [← P_PI]; rfl
theorem co_bd : ∀ (l : List Int) (o B : Int), 0 ≤ o → o ≤ B → (∀ x ∈ l, 0 ≤ x ∧ x + B < 67108864 * (B + 1)) → 0 ≤ co o l ∧ co o l ≤ B
  | [], o, B, h0, h1, _ => ⟨h0, h1⟩
  | x :: l, o, B, h0, h1, h => by
    have hx := h x (by simp)
    rw [co]
    refine co_bd l _ B (by omega) ?_ (fun y hy => h y (by simp [hy]))
    have : (x + o) / 67108864 < B + 1 := Int.ediv_lt_of_lt_mul (by decide) (by rw [Int.mul_comm]; omega)
    omega
/-- settle -/
def last (l : List Int) (o : Int) : List Int := [(l.getD 0 0 + 5 * o) % 67108864, l.getD 1 0 + (l.getD 0 0 + 5 * o) / 67108864, l.getD 2 0, l.getD 3 0, l.getD 4 0]
def stl (l : List Int) : List Int := last (cy 0 l) (co 0 l)
theorem stl_lim (l : List Int) (h5 : l.length = 5) (h : ∀ x ∈ l, 0 ≤ x ∧ x < 1152921504606846976) : Lim (stl l) ∧ V (stl l) % 1361129467683753853853498429727072845819 = V l % 1361129467683753853853498429727072845819 ∧ 0 ≤ V (stl l) ∧ V (stl l) < 1361129467683753853853498429727072845824 + 5 * co 0 l ∧ 0 ≤ co 0 l ∧ co 0 l ≤ 34359738368 := by
  have hb := co_bd l 0 34359738368 (by decide) (by decide) (fun x hx => by have := h x hx; omega)
  have hv := cy_V l 0
  have hlt := cy_lt l 0
  have hl := cy_len l 0
  have hV := V_lt _ hlt
  obtain ⟨a, b, c, d, e, hc⟩ := five (hl.trans h5)
  unfold stl
  rw [hc] at hlt hv hV ⊢
  rw [h5] at *
  generalize co 0 l = o at *
  simp only [last, List.getD_cons_zero, List.getD_cons_succ]
  have ev : V [(a + 5 * o) % 67108864, b + (a + 5 * o) / 67108864, c, d, e] = V [a, b, c, d, e] + 5 * o := by simp only [V_cons]; omega
  simp only [List.length_cons, List.length_nil] at hV
  have hr : (67108864 : Int) ^ 5 = 1361129467683753853853498429727072845824 := by decide
  have hr' : (67108864 : Int) ^ (0 + 1 + 1 + 1 + 1 + 1) = 1361129467683753853853498429727072845824 := by decide
  rw [hr] at hv
  rw [hr'] at hV
  simp only [List.mem_cons, List.not_mem_nil, or_false, forall_eq_or_imp, forall_eq] at hlt
  refine ⟨⟨rfl, ?_⟩, ?_, ?_, ?_, hb.1, hb.2⟩
  · intro x hx
    simp only [List.mem_cons, List.not_mem_nil, or_false] at hx
    rcases hx with rfl | rfl | rfl | rfl | rfl <;> omega
  · rw [ev]; omega
  · rw [ev]; omega
  · rw [ev]; omega
/-- 5 times the limbs, and the limbs -/
def rw10 (b : List Int) : List Int := b.map (5 * ·) ++ b
def sm (a R : List Int) (place : Nat) : Nat → Int
  | 0 => 0
  | k + 1 => sm a R place k + a.getD k 0 * R.getD (place + 5 - k) 0
/-- the sums of the five places -/
def sums (a b : List Int) : List Int := [sm a (rw10 b) 0 5, sm a (rw10 b) 1 5, sm a (rw10 b) 2 5, sm a (rw10 b) 3 5, sm a (rw10 b) 4 5]
theorem bdp {x y : Int} (x0 : 0 ≤ x) (x1 : x < 134217728) (y0 : 0 ≤ y) (y1 : y < 134217728) : 0 ≤ x * y ∧ x * y < 18014398509481984 :=
  ⟨Int.mul_nonneg x0 y0, by
    have h1 : x * y ≤ 134217728 * y := Int.mul_le_mul_of_nonneg_right (by omega) y0
    omega⟩
theorem sums_eq (a0 a1 a2 a3 a4 b0 b1 b2 b3 b4 : Int) : sums [a0, a1, a2, a3, a4] [b0, b1, b2, b3, b4] =
    [a0 * b0 + 5 * (a1 * b4 + a2 * b3 + a3 * b2 + a4 * b1), a0 * b1 + a1 * b0 + 5 * (a2 * b4 + a3 * b3 + a4 * b2), a0 * b2 + a1 * b1 + a2 * b0 + 5 * (a3 * b4 + a4 * b3), a0 * b3 + a1 * b2 + a2 * b1 + a3 * b0 + 5 * (a4 * b4), a0 * b4 + a1 * b3 + a2 * b2 + a3 * b1 + a4 * b0] := by
  simp [sums, sm, rw10]
  grind
theorem V_sums (a0 a1 a2 a3 a4 b0 b1 b2 b3 b4 : Int) : V [a0, a1, a2, a3, a4] * V [b0, b1, b2, b3, b4] =
    V (sums [a0, a1, a2, a3, a4] [b0, b1, b2, b3, b4]) + 1361129467683753853853498429727072845819 * (a1 * b4 + a2 * b3 + a3 * b2 + a4 * b1 + 67108864 * (a2 * b4 + a3 * b3 + a4 * b2) + 67108864 ^ 2 * (a3 * b4 + a4 * b3) + 67108864 ^ 3 * (a4 * b4)) := by
  rw [sums_eq]
  simp only [V_cons, V_nil]
  grind
theorem sums_bd {a b : List Int} (ha : Lim a) (hb : Lim b) : (∀ x ∈ sums a b, 0 ≤ x ∧ x < 1152921504606846976) ∧ (sums a b).length = 5 := by
  obtain ⟨a0, a1, a2, a3, a4, rfl⟩ := five ha.len
  obtain ⟨b0, b1, b2, b3, b4, rfl⟩ := five hb.len
  rw [sums_eq]
  have hA := ha.bd
  have hB := hb.bd
  simp only [List.mem_cons, List.not_mem_nil, or_false, forall_eq_or_imp, forall_eq] at hA hB
  obtain ⟨⟨A0, A0'⟩, ⟨A1, A1'⟩, ⟨A2, A2'⟩, ⟨A3, A3'⟩, ⟨A4, A4'⟩⟩ := hA
  obtain ⟨⟨B0, B0'⟩, ⟨B1, B1'⟩, ⟨B2, B2'⟩, ⟨B3, B3'⟩, ⟨B4, B4'⟩⟩ := hB
  have p00 := bdp A0 A0' B0 B0'
  have p01 := bdp A0 A0' B1 B1'
  have p02 := bdp A0 A0' B2 B2'
  have p03 := bdp A0 A0' B3 B3'
  have p04 := bdp A0 A0' B4 B4'
  have p10 := bdp A1 A1' B0 B0'
  have p11 := bdp A1 A1' B1 B1'
  have p12 := bdp A1 A1' B2 B2'
  have p13 := bdp A1 A1' B3 B3'
  have p14 := bdp A1 A1' B4 B4'
  have p20 := bdp A2 A2' B0 B0'
  have p21 := bdp A2 A2' B1 B1'
  have p22 := bdp A2 A2' B2 B2'
  have p23 := bdp A2 A2' B3 B3'
  have p24 := bdp A2 A2' B4 B4'
  have p30 := bdp A3 A3' B0 B0'
  have p31 := bdp A3 A3' B1 B1'
  have p32 := bdp A3 A3' B2 B2'
  have p33 := bdp A3 A3' B3 B3'
  have p34 := bdp A3 A3' B4 B4'
  have p40 := bdp A4 A4' B0 B0'
  have p41 := bdp A4 A4' B1 B1'
  have p42 := bdp A4 A4' B2 B2'
  have p43 := bdp A4 A4' B3 B3'
  have p44 := bdp A4 A4' B4 B4'
  clear A0 A0' A1 A1' A2 A2' A3 A3' A4 A4' B0 B0' B1 B1' B2 B2' B3 B3' B4 B4' ha hb
  refine ⟨?_, rfl⟩
  intro x hx
  simp only [List.mem_cons, List.not_mem_nil, or_false] at hx
  rcases hx with rfl | rfl | rfl | rfl | rfl <;> omega
def prod (a b : List Int) : List Int := stl (sums a b)
theorem prod_el {a b : List Int} (ha : Lim a) (hb : Lim b) : Lim (prod a b) ∧ V (prod a b) % 1361129467683753853853498429727072845819 = (V a * V b) % 1361129467683753853853498429727072845819 := by
  obtain ⟨s1, s2⟩ := sums_bd ha hb
  obtain ⟨h1, h2, _⟩ := stl_lim _ s2 s1
  refine ⟨h1, h2.trans ?_⟩
  obtain ⟨a0, a1, a2, a3, a4, rfl⟩ := five ha.len
  obtain ⟨b0, b1, b2, b3, b4, rfl⟩ := five hb.len
  rw [V_sums a0 a1 a2 a3 a4 b0 b1 b2 b3 b4, Int.add_mul_emod_self_left]
theorem V_bd52 {l : List Int} (h : Lim l) : 0 ≤ V l := by
  obtain ⟨a, b, c, d, e, rfl⟩ := five h.len
  have hb := h.bd
  simp only [List.mem_cons, List.not_mem_nil, or_false, forall_eq_or_imp, forall_eq] at hb
  simp only [V_cons, V_nil]
  omega
/-- what least leaves -/
def lst (a : List Int) : List Int := cy 0 ((stl a).set 0 ((stl a).getD 0 0 + 5 * co 0 ((stl a).set 0 ((stl a).getD 0 0 + 5))))
theorem lst_facts {a : List Int} (h : Lim a) : ∃ s0 s1 s2 s3 s4 c, stl a = [s0, s1, s2, s3, s4] ∧ 0 ≤ s0 ∧ s0 < 134217728 ∧ 0 ≤ s1 ∧ s1 < 134217728 ∧ 0 ≤ s2 ∧ s2 < 134217728 ∧ 0 ≤ s3 ∧ s3 < 134217728 ∧ 0 ≤ s4 ∧ s4 < 134217728 ∧ co 0 [s0 + 5, s1, s2, s3, s4] = c ∧ 0 ≤ c ∧ c ≤ 1 ∧ lst a = cy 0 [s0 + 5 * c, s1, s2, s3, s4] ∧ V (lst a) = V a % 1361129467683753853853498429727072845819 ∧ (∀ x ∈ lst a, 0 ≤ x ∧ x < 67108864) ∧ (lst a).length = 5 := by
  obtain ⟨hl, hv, v0, v1, o0, o1⟩ := stl_lim a h.len (fun x hx => by have := h.bd x hx; omega)
  have hob := co_bd a 0 2 (by decide) (by decide) (fun x hx => by have := h.bd x hx; omega)
  have hb := hl.bd
  obtain ⟨s0, s1, s2, s3, s4, hs⟩ := five hl.len
  unfold lst
  rw [hs] at hb hv v0 v1 ⊢
  simp only [List.mem_cons, List.not_mem_nil, or_false, forall_eq_or_imp, forall_eq] at hb
  simp only [List.getD_cons_zero, List.set_cons_zero]
  have e1 := cy_V [s0 + 5, s1, s2, s3, s4] 0
  have l1 := cy_lt [s0 + 5, s1, s2, s3, s4] 0
  have k1 := V_lt _ l1
  generalize hc : co 0 [s0 + 5, s1, s2, s3, s4] = c at *
  have e2 := cy_V [s0 + 5 * c, s1, s2, s3, s4] 0
  have l2 := cy_lt [s0 + 5 * c, s1, s2, s3, s4] 0
  have k2 := V_lt _ l2
  simp only [cy_len, List.length_cons, List.length_nil] at e1 e2 k1 k2
  rw [show (67108864 : Int) ^ (0 + 1 + 1 + 1 + 1 + 1) = 1361129467683753853853498429727072845824 by decide] at e1 e2 k1 k2
  have f1 : V [s0 + 5, s1, s2, s3, s4] = V [s0, s1, s2, s3, s4] + 5 := by simp only [V_cons]; omega
  have f2 : V [s0 + 5 * c, s1, s2, s3, s4] = V [s0, s1, s2, s3, s4] + 5 * c := by simp only [V_cons]; omega
  rw [f1] at e1
  rw [f2] at e2
  generalize V (cy 0 [s0 + 5, s1, s2, s3, s4]) = y1 at *
  generalize V (cy 0 [s0 + 5 * c, s1, s2, s3, s4]) = y2 at *
  generalize co 0 [s0 + 5 * c, s1, s2, s3, s4] = c2 at *
  generalize V [s0, s1, s2, s3, s4] = v at *
  have hc01 : 0 ≤ c ∧ c ≤ 1 := by omega
  refine ⟨s0, s1, s2, s3, s4, c, rfl, hb.1.1, hb.1.2, hb.2.1.1, hb.2.1.2, hb.2.2.1.1, hb.2.2.1.2, hb.2.2.2.1.1, hb.2.2.2.1.2, hb.2.2.2.2.1, hb.2.2.2.2.2, hc, hc01.1, hc01.2, rfl, ?_, l2, by simp⟩
  rw [← hv]
  have h01 : c = 0 ∨ c = 1 := by omega
  clear hb l1 l2 hc
  rcases h01 with h | h
  · have : c2 = 0 := by omega
    omega
  · have : c2 = 1 := by omega
    omega

def limb (n j : Nat) : Nat := n >>> (26 * j) % 2 ^ 26
def bts (n : Nat) : List Int := (List.range 17).map fun i => ((n >>> (8 * i) % 256 : Nat) : Int)
@[simp] theorem bts_len (n : Nat) : (bts n).length = 17 := by simp [bts]
theorem bts_at (n i : Nat) (h : i < 17) : (bts n)[i]'(by simpa using h) = ((n >>> (8 * i) % 256 : Nat) : Int) := by simp [bts]
theorem enc_bits (n q r k : Nat) (hk : 8 * k = 26 * q + r) (hr : r < 26) :
    (limb n q >>> r ||| (limb n (q + 1) <<< (26 - r)) % 2 ^ 64) % 2 ^ 8 = n >>> (8 * k) % 2 ^ 8 := by
  apply Nat.eq_of_testBit_eq
  intro i
  simp only [limb, Nat.testBit_mod_two_pow, Nat.testBit_or, Nat.testBit_shiftRight, Nat.testBit_shiftLeft]
  by_cases hi : i < 8
  · by_cases h1 : r + i < 26
    · have e1 : ¬ (26 - r ≤ i) := by omega
      have e2 : 26 * q + (r + i) = 8 * k + i := by omega
      simp [hi, h1, e1, e2]
    · have e1 : 26 - r ≤ i := by omega
      have e2 : 26 * (q + 1) + (i - (26 - r)) = 8 * k + i := by omega
      have e3 : i < 64 := by omega
      have e4 : i - (26 - r) < 26 := by omega
      simp [hi, h1, e1, e2, e3, e4]
  · simp [hi]
theorem limb_lt (n j : Nat) : limb n j < 67108864 := by unfold limb; omega
theorem enc_math (n q r k : Nat) (hk : 8 * k = 26 * q + r) (hr : r < 26) :
    bits .or .u64 ((limb n q : Int) / 2 ^ r) (IntKind.u64.wrap ((limb n (q + 1) : Int) * 2 ^ (26 - r))) % 256 = ((n >>> (8 * k) % 256 : Nat) : Int) := by
  have h1 : ((limb n q : Nat) : Int) / 2 ^ r = ((limb n q >>> r : Nat) : Int) := by
    rw [Nat.shiftRight_eq_div_pow]; simp
  have h2 : IntKind.u64.wrap ((limb n (q + 1) : Int) * 2 ^ (26 - r)) = (((limb n (q + 1) <<< (26 - r)) % 2 ^ 64 : Nat) : Int) := by
    rw [IntKind.wrap_u64, Nat.shiftLeft_eq]; simp
  rw [h1, h2, u64_or_nat _ _ (by have := limb_lt n q; have := Nat.shiftRight_le (limb n q) r; omega) (by omega)]
  have := enc_bits n q r k hk hr
  rw [show (2 : Nat) ^ 8 = 256 by decide] at this
  rw [← this]
  simp
theorem V_limbs {l : List Int} (h5 : l.length = 5) (hb : ∀ x ∈ l, 0 ≤ x ∧ x < 67108864) (j : Nat) (hj : j < 6) : (l ++ [0]).getD j 0 = ((limb (V l).toNat j : Nat) : Int) ∧ (V l).toNat < 1361129467683753853853498429727072845824 := by
  obtain ⟨a, b, c, d, e, rfl⟩ := five h5
  simp only [List.mem_cons, List.not_mem_nil, or_false, forall_eq_or_imp, forall_eq] at hb
  obtain ⟨⟨a0, a1⟩, ⟨b0, b1⟩, ⟨c0, c1⟩, ⟨d0, d1⟩, ⟨e0, e1⟩⟩ := hb
  have hV : V [a, b, c, d, e] = a + 67108864 * (b + 67108864 * (c + 67108864 * (d + 67108864 * (e + 67108864 * 0)))) := rfl
  rw [hV]
  obtain ⟨a, rfl⟩ := Int.eq_ofNat_of_zero_le a0
  obtain ⟨b, rfl⟩ := Int.eq_ofNat_of_zero_le b0
  obtain ⟨c, rfl⟩ := Int.eq_ofNat_of_zero_le c0
  obtain ⟨d, rfl⟩ := Int.eq_ofNat_of_zero_le d0
  obtain ⟨e, rfl⟩ := Int.eq_ofNat_of_zero_le e0
  have hn : ((a : Int) + 67108864 * (b + 67108864 * (c + 67108864 * (d + 67108864 * (e + 67108864 * 0))))).toNat = a + 67108864 * (b + 67108864 * (c + 67108864 * (d + 67108864 * e))) := by omega
  rw [hn]
  unfold limb
  rw [Nat.shiftRight_eq_div_pow]
  refine ⟨?_, by omega⟩
  have h6 : j = 0 ∨ j = 1 ∨ j = 2 ∨ j = 3 ∨ j = 4 ∨ j = 5 := by omega
  rcases h6 with rfl | rfl | rfl | rfl | rfl | rfl
  all_goals simp only [List.cons_append, List.nil_append, List.getD_cons_zero, List.getD_cons_succ]
  all_goals simp only [Nat.reduceMul, Nat.reducePow]
  all_goals omega
/-! the number of 17 bytes -/
def nbk (b : List Int) : Nat → Nat
  | 0 => 0
  | k + 1 => nbk b k ||| (b.getD k 0).toNat <<< (8 * k)
def nb (b : List Int) : Nat := nbk b 17
theorem nbk_bit (b : List Int) (hb : ∀ x ∈ b, 0 ≤ x ∧ x < 256) : ∀ k i, (nbk b k).testBit i = (decide (i < 8 * k) && (b.getD (i / 8) 0).toNat.testBit (i % 8))
  | 0, i => by simp [nbk]
  | k + 1, i => by
    have ih := nbk_bit b hb k i
    have hx : (b.getD k 0).toNat < 2 ^ 8 := by
      by_cases h : k < b.length
      · have := hb _ (List.getElem_mem h)
        rw [List.getD_eq_getElem?_getD, List.getElem?_eq_getElem h]
        simp only [Option.getD_some]
        omega
      · rw [List.getD_eq_getElem?_getD, List.getElem?_eq_none (by omega)]; simp
    rw [nbk, Nat.testBit_or, ih, Nat.testBit_shiftLeft]
    by_cases h1 : i < 8 * k
    · have e1 : ¬ (8 * k ≤ i) := by omega
      have e2 : i < 8 * (k + 1) := by omega
      simp [h1, e1, e2]
    · by_cases h2 : i < 8 * (k + 1)
      · have e1 : 8 * k ≤ i := by omega
        have e3 : i / 8 = k := by omega
        have e4 : i - 8 * k = i % 8 := by omega
        simp [h1, h2, e1, e3, e4]
      · have e1 : 8 * k ≤ i := by omega
        have e5 : (b.getD k 0).toNat.testBit (i - 8 * k) = false := by
          apply Nat.testBit_lt_two_pow
          exact Nat.lt_of_lt_of_le hx (Nat.pow_le_pow_right (by decide) (by omega))
        rw [List.getD_eq_getElem?_getD] at e5
        simp [h1, h2, e1, e5]
theorem bts_nb (b : List Int) (h17 : b.length = 17) (hb : ∀ x ∈ b, 0 ≤ x ∧ x < 256) : bts (nb b) = b := by
  apply List.ext_getElem
  · simp [h17]
  · intro i h1 h2
    rw [bts_at _ _ (by omega)]
    have hx := hb _ (List.getElem_mem h2)
    have : nb b >>> (8 * i) % 256 = (b[i]).toNat := by
      apply Nat.eq_of_testBit_eq
      intro t
      rw [show 256 = 2 ^ 8 by decide, Nat.testBit_mod_two_pow, Nat.testBit_shiftRight, nb, nbk_bit b hb]
      by_cases ht : t < 8
      · have e1 : (8 * i + t) / 8 = i := by omega
        have e2 : (8 * i + t) % 8 = t := by omega
        have e3 : 8 * i + t < 8 * 17 := by omega
        rw [e1, e2, List.getD_eq_getElem?_getD, List.getElem?_eq_getElem h2]
        simp [ht, e3]
      · have e5 : (b[i]).toNat.testBit t = false := by
          apply Nat.testBit_lt_two_pow
          exact Nat.lt_of_lt_of_le (show (b[i]).toNat < 2 ^ 8 by omega) (Nat.pow_le_pow_right (by decide) (by omega))
        simp [ht, e5]
    rw [this]
    omega
theorem nb_lt (b : List Int) (hb : ∀ x ∈ b, 0 ≤ x ∧ x < 256) : nb b < 2 ^ 136 := by
  apply Nat.lt_pow_two_of_testBit
  intro i hi
  rw [nb, nbk_bit b hb]
  have : ¬ (i < 8 * 17) := by omega
  simp [this]
theorem bts_bd (n : Nat) : ∀ x ∈ bts n, 0 ≤ x ∧ x < 256 := by
  intro x hx
  simp only [bts, List.mem_map] at hx
  obtain ⟨i, _, rfl⟩ := hx
  omega
theorem nb_bts (n : Nat) (hn : n < 2 ^ 136) : nb (bts n) = n := by
  apply Nat.eq_of_testBit_eq
  intro i
  rw [nb, nbk_bit _ (bts_bd n)]
  by_cases hi : i < 8 * 17
  · have h8 : i / 8 < 17 := by omega
    have e0 : (bts n).getD (i / 8) 0 = ((n >>> (8 * (i / 8)) % 256 : Nat) : Int) := by
      rw [List.getD_eq_getElem?_getD, List.getElem?_eq_getElem (by simpa using h8), Option.getD_some, bts_at _ _ h8]
    have e1 : 8 * (i / 8) + i % 8 = i := by omega
    have e2 : i % 8 < 8 := by omega
    rw [e0, Int.toNat_natCast, show 256 = 2 ^ 8 by decide, Nat.testBit_mod_two_pow, Nat.testBit_shiftRight, e1]
    simp [hi, e2]
  · have : n.testBit i = false := Nat.testBit_lt_two_pow (Nat.lt_of_lt_of_le hn (Nat.pow_le_pow_right (by decide) (by omega)))
    simp [hi, this]
/-- six limbs -/
def LL (n : Nat) : List Int := (List.range 6).map fun j => ((limb n j : Nat) : Int)
theorem limb_or (m n j : Nat) : limb (m ||| n) j = limb m j ||| limb n j := by
  unfold limb
  rw [Nat.shiftRight_or_distrib, Nat.or_mod_two_pow]
theorem limb_shl (x q r k j : Nat) (hx : x < 256) (hk : 8 * k = 26 * q + r) (hr : r < 26) :
    limb (x <<< (8 * k)) j = if j = q then (x <<< r) % 2 ^ 26 else if j = q + 1 then x >>> (26 - r) else 0 := by
  have hx0 : ∀ t, 8 ≤ t → x.testBit t = false := fun t ht => Nat.testBit_lt_two_pow (Nat.lt_of_lt_of_le hx (Nat.pow_le_pow_right (by decide) ht : 2 ^ 8 ≤ 2 ^ t))
  apply Nat.eq_of_testBit_eq
  intro i
  rw [limb, Nat.testBit_mod_two_pow, Nat.testBit_shiftRight, Nat.testBit_shiftLeft]
  by_cases h1 : j = q
  · subst h1
    rw [if_pos rfl, Nat.testBit_mod_two_pow, Nat.testBit_shiftLeft, hk]
    by_cases h : r ≤ i
    · have e1 : 26 * j + r ≤ 26 * j + i := by omega
      have e2 : 26 * j + i - (26 * j + r) = i - r := by omega
      simp [h, e2]
    · have e1 : ¬ (26 * j + r ≤ 26 * j + i) := by omega
      simp [h]
  · rw [if_neg h1]
    by_cases h2 : j = q + 1
    · subst h2
      rw [if_pos rfl, Nat.testBit_shiftRight, hk]
      have e1 : 26 * q + r ≤ 26 * (q + 1) + i := by omega
      have e2 : 26 * (q + 1) + i - (26 * q + r) = 26 - r + i := by omega
      rw [e2]
      by_cases hi : i < 26
      · simp [hi, e1]
      · rw [hx0 (26 - r + i) (by omega)]; simp [hi]
    · rw [if_neg h2, hk]
      by_cases h3 : j < q
      · by_cases hi : i < 26
        · have e1 : ¬ (26 * q + r ≤ 26 * j + i) := by omega
          simp [e1]
        · simp [hi]
      · have e2 : 8 ≤ 26 * j + i - (26 * q + r) := by omega
        rw [hx0 _ e2]; simp
theorem dec_step (m x q r k : Nat) (hx : x < 256) (hk : 8 * k = 26 * q + r) (hr : r < 26) (hq : q < 5) :
    ((LL m).set q (bits .or .u64 ((LL m).getD q 0) (bits .and .u64 (IntKind.u64.wrap ((x : Int) * 2 ^ r)) 67108863))).set (q + 1) (bits .or .u64 ((LL m).getD (q + 1) 0) ((x : Int) / 2 ^ (26 - r))) = LL (m ||| x <<< (8 * k)) := by
  have hg : ∀ j, j < 6 → (LL m).getD j 0 = ((limb m j : Nat) : Int) := fun j hj => by
    rw [List.getD_eq_getElem?_getD, List.getElem?_eq_getElem (by simpa [LL] using hj)]; simp [LL]
  have p1 : x * 2 ^ r < 18446744073709551616 := by
    have h1 : 2 ^ r ≤ 2 ^ 25 := Nat.pow_le_pow_right (by decide) (by omega)
    have h2 : x * 2 ^ r ≤ 255 * 2 ^ 25 := Nat.mul_le_mul (by omega) h1
    omega
  have e1 : bits .and .u64 (IntKind.u64.wrap ((x : Int) * 2 ^ r)) 67108863 = (((x <<< r) % 2 ^ 26 : Nat) : Int) := by
    have h0 : IntKind.u64.wrap ((x : Int) * 2 ^ r) = ((x * 2 ^ r : Nat) : Int) := by
      rw [IntKind.wrap_u64]
      have : ((x : Int) * 2 ^ r) = ((x * 2 ^ r : Nat) : Int) := by simp
      rw [this]
      omega
    rw [h0, show (67108863 : Int) = ((67108863 : Nat) : Int) from rfl, u64_and_nat _ _ p1 (by decide), show (67108863 : Nat) = 2 ^ 26 - 1 by decide, Nat.and_two_pow_sub_one_eq_mod, Nat.shiftLeft_eq]
  have e2 : (x : Int) / 2 ^ (26 - r) = ((x >>> (26 - r) : Nat) : Int) := by rw [Nat.shiftRight_eq_div_pow]; simp
  have l1 := limb_lt m q
  have l2 := limb_lt m (q + 1)
  rw [e1, e2, hg q (by omega), hg (q + 1) (by omega), u64_or_nat _ _ (by omega) (by omega), u64_or_nat _ _ (by omega) (by have := Nat.shiftRight_le x (26 - r); omega)]
  apply List.ext_getElem
  · simp [LL]
  · intro j h1 h2
    have hj : j < 6 := by simpa [LL] using h2
    have hL := limb_or m (x <<< (8 * k)) j
    rw [limb_shl x q r k j hx hk hr] at hL
    simp only [LL, List.getElem_set, List.getElem_map, List.getElem_range]
    rw [hL]
    by_cases a1 : j = q
    · subst a1
      rw [if_neg (by omega), if_pos rfl, if_pos rfl]
    · by_cases a2 : j = q + 1
      · subst a2
        rw [if_pos rfl, if_neg (by omega), if_pos rfl]
      · rw [if_neg (by omega), if_neg (by omega), if_neg a1, if_neg a2]; simp
theorem LL_V (m : Nat) : V ((LL m).take 5) = ((m % 2 ^ 130 : Nat) : Int) ∧ (∀ x ∈ (LL m).take 5, 0 ≤ x ∧ x < 67108864) ∧ ((LL m).take 5).length = 5 := by
  have e : (LL m).take 5 = [((limb m 0 : Nat) : Int), ((limb m 1 : Nat) : Int), ((limb m 2 : Nat) : Int), ((limb m 3 : Nat) : Int), ((limb m 4 : Nat) : Int)] := rfl
  rw [e]
  refine ⟨?_, ?_, rfl⟩
  · simp only [V_cons, V_nil, limb, Nat.shiftRight_eq_div_pow, Nat.reduceMul, Nat.reducePow]
    omega
  · simp only [List.mem_cons, List.not_mem_nil, or_false, forall_eq_or_imp, forall_eq]
    have := limb_lt m 0
    have := limb_lt m 1
    have := limb_lt m 2
    have := limb_lt m 3
    have := limb_lt m 4
    omega
theorem LL_len (m : Nat) : (LL m).length = 6 := by simp [LL]
theorem LL_zero : LL 0 = List.replicate 6 0 := by decide
end Go.Prm
namespace Go.Prm
open Go
/-- what Block makes of bytes -/
def blk (b : List Int) : List Int := ((LL (nb b)).take 5).set 0 ((LL (nb b)).getD 0 0 + 5 * (LL (nb b)).getD 5 0)
theorem LL_at (n j : Nat) (hj : j < 6) : (LL n).getD j 0 = ((limb n j : Nat) : Int) := by
  rw [List.getD_eq_getElem?_getD, List.getElem?_eq_getElem (by rw [LL_len]; exact hj)]; simp [LL]
theorem limb5 {n : Nat} (h : n < 2 ^ 136) : limb n 5 = n / 2 ^ 130 ∧ limb n 5 < 64 := by
  unfold limb
  rw [Nat.shiftRight_eq_div_pow]
  omega
theorem blk_eq (b : List Int) : blk b = [((limb (nb b) 0 : Nat) : Int) + 5 * ((limb (nb b) 5 : Nat) : Int), ((limb (nb b) 1 : Nat) : Int), ((limb (nb b) 2 : Nat) : Int), ((limb (nb b) 3 : Nat) : Int), ((limb (nb b) 4 : Nat) : Int)] := by
  unfold blk
  rw [LL_at _ 0 (by decide), LL_at _ 5 (by decide)]
  rfl
theorem blk_lim {b : List Int} (hb : ∀ x ∈ b, 0 ≤ x ∧ x < 256) : Lim (blk b) := by
  have h5 := (limb5 (nb_lt b hb)).2
  rw [blk_eq]
  refine ⟨rfl, ?_⟩
  have := limb_lt (nb b) 0
  have := limb_lt (nb b) 1
  have := limb_lt (nb b) 2
  have := limb_lt (nb b) 3
  have := limb_lt (nb b) 4
  simp only [List.mem_cons, List.not_mem_nil, or_false, forall_eq_or_imp, forall_eq]
  omega
theorem blk_V {b : List Int} (hb : ∀ x ∈ b, 0 ≤ x ∧ x < 256) : V (blk b) % 1361129467683753853853498429727072845819 = ((nb b : Nat) : Int) % 1361129467683753853853498429727072845819 := by
  obtain ⟨h5, _⟩ := limb5 (nb_lt b hb)
  have hv := (LL_V (nb b)).1
  have e : (LL (nb b)).take 5 = [((limb (nb b) 0 : Nat) : Int), ((limb (nb b) 1 : Nat) : Int), ((limb (nb b) 2 : Nat) : Int), ((limb (nb b) 3 : Nat) : Int), ((limb (nb b) 4 : Nat) : Int)] := rfl
  rw [e] at hv
  rw [blk_eq]
  have hs : V [((limb (nb b) 0 : Nat) : Int) + 5 * ((limb (nb b) 5 : Nat) : Int), ((limb (nb b) 1 : Nat) : Int), ((limb (nb b) 2 : Nat) : Int), ((limb (nb b) 3 : Nat) : Int), ((limb (nb b) 4 : Nat) : Int)] = V [((limb (nb b) 0 : Nat) : Int), ((limb (nb b) 1 : Nat) : Int), ((limb (nb b) 2 : Nat) : Int), ((limb (nb b) 3 : Nat) : Int), ((limb (nb b) 4 : Nat) : Int)] + 5 * ((limb (nb b) 5 : Nat) : Int) := by simp only [V_cons]; omega
  rw [hs, hv, h5]
  clear hs hv h5 e
  rw [show (2 : Nat) ^ 130 = 1361129467683753853853498429727072845824 by decide]
  omega
/-- the number of limbs -/
def num (a : List Int) : Nat := (V a % 1361129467683753853853498429727072845819).toNat
theorem num_lt (a : List Int) : num a < P := by
  have := Int.emod_lt_of_pos (V a) (show (0 : Int) < 1361129467683753853853498429727072845819 by decide)
  have h2 := Int.emod_nonneg (V a) (show (1361129467683753853853498429727072845819 : Int) ≠ 0 by decide)
  unfold num P
  omega
theorem num_cast (a : List Int) : (num a : Int) = V a % 1361129467683753853853498429727072845819 := by
  have h2 := Int.emod_nonneg (V a) (show (1361129467683753853853498429727072845819 : Int) ≠ 0 by decide)
  unfold num
  omega
theorem num_of {a : List Int} {n : Nat} (h : V a % 1361129467683753853853498429727072845819 = (n : Int) % 1361129467683753853853498429727072845819) : num a = n % P := by
  have := num_cast a
  rw [h] at this
  have h3 : ((n % P : Nat) : Int) = (n : Int) % 1361129467683753853853498429727072845819 := rfl
  omega
theorem bts_inj {n m : Nat} (hn : n < P) (hm : m < P) (h : bts n = bts m) : n = m := by
  have h1 := nb_bts n (Nat.lt_trans hn (by decide))
  have h2 := nb_bts m (Nat.lt_trans hm (by decide))
  rw [← h1, ← h2, h]
theorem bts_beq (n m : Nat) (hn : n < P) (hm : m < P) : (bts n == bts m) = decide (n = m) := by
  by_cases h : n = m
  · subst h; simp
  · have : ¬ bts n = bts m := fun e => h (bts_inj hn hm e)
    simp [h, this]
theorem num_blk {b : List Int} (hb : ∀ x ∈ b, 0 ≤ x ∧ x < 256) : num (blk b) = nb b % P := num_of (blk_V hb)
theorem prod_lim {a b : List Int} (ha : Lim a) (hb : Lim b) : Lim (prod a b) := (prod_el ha hb).1
theorem num_prod {a b : List Int} (ha : Lim a) (hb : Lim b) : num (prod a b) = num a * num b % P := by
  apply num_of
  rw [(prod_el ha hb).2, Int.natCast_mul, num_cast, num_cast, ← Int.mul_emod]
theorem V_zip (a b : List Int) (h : a.length = b.length) : V (List.zipWith (· + ·) a b) = V a + V b := by
  induction a generalizing b with
  | nil => cases b with | nil => rfl | cons _ _ => simp at h
  | cons x a ih =>
    cases b with
    | nil => simp at h
    | cons y b =>
      have := ih b (by simpa using h)
      simp only [List.zipWith_cons_cons, V_cons, this]
      omega
theorem zip_lim {a b : List Int} (ha : Lim a) (hb : Lim b) : (List.zipWith (· + ·) a b).length = 5 ∧ ∀ x ∈ List.zipWith (· + ·) a b, 0 ≤ x ∧ x < 1152921504606846976 := by
  refine ⟨by simp [ha.len, hb.len], fun x hx => ?_⟩
  obtain ⟨i, hi, rfl⟩ := List.getElem_of_mem hx
  have ga := ha.bd _ (List.getElem_mem (l := a) (n := i) (by simp at hi; omega))
  have gb := hb.bd _ (List.getElem_mem (l := b) (n := i) (by simp at hi; omega))
  rw [List.getElem_zipWith]
  omega
theorem add_lim {a b : List Int} (ha : Lim a) (hb : Lim b) : Lim (stl (List.zipWith (· + ·) a b)) := (stl_lim _ (zip_lim ha hb).1 (zip_lim ha hb).2).1
theorem num_add {a b : List Int} (ha : Lim a) (hb : Lim b) : num (stl (List.zipWith (· + ·) a b)) = (num a + num b) % P := by
  apply num_of
  rw [(stl_lim _ (zip_lim ha hb).1 (zip_lim ha hb).2).2.1, V_zip _ _ (ha.len.trans hb.len.symm), Int.natCast_add, num_cast, num_cast, ← Int.add_emod]
/-! Sum: bytes and a carry -/
def cr (b s : List Int) : Nat → Int
  | 0 => 0
  | k + 1 => (cr b s k + (b.getD k 0 + s.getD k 0)) / 256
def smt (b s : List Int) : List Int := (List.range 16).map fun i => (cr b s i + (b.getD i 0 + s.getD i 0)) % 256
@[simp] theorem smt_len (b s : List Int) : (smt b s).length = 16 := by simp [smt]
theorem smt_at (b s : List Int) (i : Nat) (h : i < 16) : (smt b s)[i]'(by simpa using h) = (cr b s i + (b.getD i 0 + s.getD i 0)) % 256 := by simp [smt]
theorem byte_at {b : List Int} (hb : ∀ x ∈ b, 0 ≤ x ∧ x < 256) (k : Nat) : 0 ≤ b.getD k 0 ∧ b.getD k 0 < 256 := by
  by_cases h : k < b.length
  · rw [List.getD_eq_getElem?_getD, List.getElem?_eq_getElem h]; exact hb _ (List.getElem_mem h)
  · rw [List.getD_eq_getElem?_getD, List.getElem?_eq_none (by omega)]; simp
theorem cr_bd {b s : List Int} (hb : ∀ x ∈ b, 0 ≤ x ∧ x < 256) (hs : ∀ x ∈ s, 0 ≤ x ∧ x < 256) : ∀ k, 0 ≤ cr b s k ∧ cr b s k ≤ 1
  | 0 => by simp [cr]
  | k + 1 => by
    have ih := cr_bd hb hs k
    have h1 := byte_at hb k
    have h2 := byte_at hs k
    rw [cr]
    omega
theorem smt_bd (b s : List Int) : ∀ x ∈ smt b s, 0 ≤ x ∧ x < 256 := by
  intro x hx
  simp only [smt, List.mem_map] at hx
  obtain ⟨i, _, rfl⟩ := hx
  omega
/-- 17 bytes: the first one, fifteen alike, the last one -/
def rw17 (f a l : Int) : List Int := [f, a, a, a, a, a, a, a, a, a, a, a, a, a, a, a, l]
theorem rw17_eq (f a l : Int) : ((List.replicate 17 a).set 0 f).set 16 l = rw17 f a l := rfl
/-! Clamp -/
def cl1 (l : List Int) : Nat → List Int
  | 0 => l
  | k + 1 => (cl1 l k).set (4 * k + 3) ((cl1 l k).getD (4 * k + 3) 0 % 16)
def cl2 (l : List Int) : Nat → List Int
  | 0 => l
  | k + 1 => (cl2 l k).set (4 * k + 4) ((cl2 l k).getD (4 * k + 4) 0 - (cl2 l k).getD (4 * k + 4) 0 % 4)
def clp (l : List Int) : List Int := cl2 (cl1 l 4) 3
theorem set_bd {l : List Int} (h : ∀ x ∈ l, 0 ≤ x ∧ x < 256) (i : Nat) {v : Int} (hv : 0 ≤ v ∧ v < 256) : ∀ x ∈ l.set i v, 0 ≤ x ∧ x < 256 := by
  intro x hx
  rcases List.mem_or_eq_of_mem_set hx with hx | rfl
  · exact h x hx
  · exact hv
theorem cl1_key {l : List Int} (hl : l.length = 16) (h : ∀ x ∈ l, 0 ≤ x ∧ x < 256) : ∀ k, (cl1 l k).length = 16 ∧ ∀ x ∈ cl1 l k, 0 ≤ x ∧ x < 256
  | 0 => ⟨hl, h⟩
  | k + 1 => by
    obtain ⟨h1, h2⟩ := cl1_key hl h k
    have := byte_at h2 (4 * k + 3)
    exact ⟨by simpa [cl1] using h1, set_bd h2 _ (by omega)⟩
theorem cl2_key {l : List Int} (hl : l.length = 16) (h : ∀ x ∈ l, 0 ≤ x ∧ x < 256) : ∀ k, (cl2 l k).length = 16 ∧ ∀ x ∈ cl2 l k, 0 ≤ x ∧ x < 256
  | 0 => ⟨hl, h⟩
  | k + 1 => by
    obtain ⟨h1, h2⟩ := cl2_key hl h k
    have := byte_at h2 (4 * k + 4)
    exact ⟨by simpa [cl2] using h1, set_bd h2 _ (by omega)⟩
theorem clp_key {l : List Int} (hl : l.length = 16) (h : ∀ x ∈ l, 0 ≤ x ∧ x < 256) : (clp l).length = 16 ∧ ∀ x ∈ clp l, 0 ≤ x ∧ x < 256 :=
  cl2_key (cl1_key hl h 4).1 (cl1_key hl h 4).2 3
theorem not240 (x : Int) (h0 : 0 ≤ x) (h1 : x < 256) : bits .andNot .u8 x 240 = x % 16 := by
  have h : ∀ n : Fin 256, bits .andNot .u8 (n.val : Int) 240 = (n.val : Int) % 16 := by decide +kernel
  have := h ⟨x.toNat, by omega⟩
  rw [show ((x.toNat : Nat) : Int) = x by omega] at this
  exact this
theorem not3 (x : Int) (h0 : 0 ≤ x) (h1 : x < 256) : bits .andNot .u8 x 3 = x - x % 4 := by
  have h : ∀ n : Fin 256, bits .andNot .u8 (n.val : Int) 3 = (n.val : Int) - (n.val : Int) % 4 := by decide +kernel
  have := h ⟨x.toNat, by omega⟩
  rw [show ((x.toNat : Nat) : Int) = x by omega] at this
  exact this
theorem nb_small {l : List Int} (h : ∀ x ∈ l, 0 ≤ x ∧ x < 256) (hl : l.length = 16) : nb (l ++ [0]) < 2 ^ 128 := by
  apply Nat.lt_pow_two_of_testBit
  intro i hi
  rw [nb, nbk_bit (l ++ [0]) (by intro x hx; simp only [List.mem_append, List.mem_singleton] at hx; rcases hx with hx | rfl; exact h x hx; decide)]
  by_cases h8 : i < 8 * 17
  · have : i / 8 = 16 := by omega
    rw [this, List.getD_eq_getElem?_getD, List.getElem?_append_right (by omega), hl]
    simp
  · simp [h8]
theorem r_comm (a b : Nat) : (a + b) % P = (b + a) % P := by rw [Nat.add_comm]
theorem r_assoc (a b c : Nat) : ((a + b) % P + c) % P = (a + (b + c) % P) % P := by simp [Nat.add_assoc]
theorem m_comm (a b : Nat) : a * b % P = b * a % P := by rw [Nat.mul_comm]
theorem m_assoc (a b c : Nat) : a * b % P * c % P = a * (b * c % P) % P := by simp [Nat.mul_assoc]
theorem m_dist (a b c : Nat) : a * ((b + c) % P) % P = (a * b % P + a * c % P) % P := by simp [Nat.mul_add]
end Go.Prm
