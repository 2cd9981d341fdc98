import Derived.WalkKit
import Derived.WalkSpells
import Derived.WalkLawsBesides
import Derived.Laws.BitsAllLaws
import Derived.Laws.StructEq
import Derived.Laws.BytesString
import Derived.Deep.WholeRow
import Derived.Deep.MidRow
import Derived.Deep.RegionHeld3
import Derived.Deep.DeepCutAuto
import Derived.Deep.QuietTactic
import Derived.BigQuiet
import Derived.BigFrame
import Derived.Lib.SliceRun
import Derived.Lib.SlBytesConst
import Derived.SizedLaws
import Derived.ProofKit
import Derived.OpenShut
import Derived.ShutString
import Derived.ChangeOld
import Derived.Below
import Init
import Derived.Test.YtacofgmnmofkpaaRows
import Derived.Laws.Externs
namespace Go.Pin

/-! Numbers of 64 and of 8 digits as bit vectors -/
theorem ofBv64 {a : Int} (h0 : 0 ≤ a) (h1 : a < 18446744073709551616) : ∃ x : BitVec 64, a = (x.toNat : Int) :=
  ⟨BitVec.ofNat 64 a.toNat, by rw [BitVec.toNat_ofNat, Nat.mod_eq_of_lt (by omega)]; omega⟩
theorem ofBv8 {a : Int} (h0 : 0 ≤ a) (h1 : a < 256) : ∃ x : BitVec 8, a = (x.toNat : Int) :=
  ⟨BitVec.ofNat 8 a.toNat, by rw [BitVec.toNat_ofNat, Nat.mod_eq_of_lt (by omega)]; omega⟩
theorem xor64 (x y : BitVec 64) : bits .xor .u64 (x.toNat : Int) (y.toNat : Int) = ((x ^^^ y).toNat : Int) := by
  rw [u64_xor_nat _ _ x.isLt y.isLt, BitVec.toNat_xor]
theorem or64 (x y : BitVec 64) : bits .or .u64 (x.toNat : Int) (y.toNat : Int) = ((x ||| y).toNat : Int) := by
  rw [u64_or_nat _ _ x.isLt y.isLt, BitVec.toNat_or]
theorem and64 (x y : BitVec 64) : bits .and .u64 (x.toNat : Int) (y.toNat : Int) = ((x &&& y).toNat : Int) := by
  rw [u64_and_nat _ _ x.isLt y.isLt, BitVec.toNat_and]
theorem xor8 (x y : BitVec 8) : bits .xor .u8 (x.toNat : Int) (y.toNat : Int) = ((x ^^^ y).toNat : Int) := by
  rw [u8_xor_nat _ _ x.isLt y.isLt, BitVec.toNat_xor]
theorem or8 (x y : BitVec 8) : bits .or .u8 (x.toNat : Int) (y.toNat : Int) = ((x ||| y).toNat : Int) := by
  rw [u8_or_nat _ _ x.isLt y.isLt, BitVec.toNat_or]
theorem and8 (x y : BitVec 8) : bits .and .u8 (x.toNat : Int) (y.toNat : Int) = ((x &&& y).toNat : Int) := by
  rw [u8_and_nat _ _ x.isLt y.isLt, BitVec.toNat_and]
theorem neg64 (x : BitVec 64) : IntKind.u64.wrap (-(x.toNat : Int)) = ((-x).toNat : Int) := by
  rw [IntKind.wrap_u64, BitVec.toNat_neg]
  have := x.isLt
  omega
theorem sub64 (x y : BitVec 64) : IntKind.u64.wrap ((x.toNat : Int) - (y.toNat : Int)) = ((x - y).toNat : Int) := by
  rw [IntKind.wrap_u64, BitVec.toNat_sub]
  have := x.isLt
  have := y.isLt
  omega
theorem max64 : IntKind.u64.max = ((BitVec.allOnes 64).toNat : Int) := by decide
theorem one64 : (1 : Int) = ((1#64 : BitVec 64).toNat : Int) := by decide
theorem top64 (x : BitVec 64) : (x.toNat : Int) / 9223372036854775808 = if x.msb then 1 else 0 := by
  rw [BitVec.msb_eq_decide]
  have := x.isLt
  by_cases h : 2 ^ (64 - 1) ≤ x.toNat
  · simp [h]; omega
  · simp [h]; omega

/-! The document's bits -/
def eqB (a b : Int) : Int := if a = b then 1 else 0
def ltB (a b : Int) : Int := if a < b then 1 else 0
def pickI (s a b : Int) : Int := if s % 2 = 1 then a else b

theorem equal_math (a b : Int) (a0 : 0 ≤ a) (a1 : a < 18446744073709551616) (b0 : 0 ≤ b) (b1 : b < 18446744073709551616) :
    bits .xor .u64 (bits .or .u64 (bits .xor .u64 a b) (IntKind.u64.wrap (-bits .xor .u64 a b)) / 9223372036854775808) 1 = eqB a b := by
  obtain ⟨x, rfl⟩ := ofBv64 a0 a1
  obtain ⟨y, rfl⟩ := ofBv64 b0 b1
  rw [xor64, neg64, or64, top64]
  unfold eqB
  by_cases h : x = y
  · subst h
    simp
    decide
  · have hd : x ^^^ y ≠ 0#64 := by simpa using h
    have hm : ((x ^^^ y) ||| -(x ^^^ y)).msb = true := by
      rw [BitVec.msb_or, BitVec.msb_neg]
      by_cases h2 : x ^^^ y = BitVec.intMin 64
      · rw [h2]; decide
      · generalize x ^^^ y = d at *
        cases hb : d.msb <;> simp [hd, h2]
    have hne : ¬ ((x.toNat : Int) = (y.toNat : Int)) := by
      intro e
      exact h (BitVec.eq_of_toNat_eq (by omega))
    rw [hm, if_neg hne]
    decide

theorem less_math (a b : Int) (a0 : 0 ≤ a) (a1 : a < 18446744073709551616) (b0 : 0 ≤ b) (b1 : b < 18446744073709551616) :
    bits .or .u64 (bits .and .u64 (bits .xor .u64 IntKind.u64.max a) b) (bits .and .u64 (bits .xor .u64 IntKind.u64.max (bits .xor .u64 a b)) (IntKind.u64.wrap (a - b))) / 9223372036854775808 = ltB a b := by
  obtain ⟨x, rfl⟩ := ofBv64 a0 a1
  obtain ⟨y, rfl⟩ := ofBv64 b0 b1
  rw [max64, xor64, xor64, xor64, sub64, and64, and64, or64, top64]
  unfold ltB
  have hx := x.isLt
  have hy := y.isLt
  have h1 : ((BitVec.allOnes 64 ^^^ x) &&& y ||| (BitVec.allOnes 64 ^^^ (x ^^^ y)) &&& (x - y)).msb = ((!x.msb && y.msb) || (!(x.msb ^^ y.msb) && (x - y).msb)) := by
    have ho : (BitVec.allOnes 64).msb = true := by decide
    rw [BitVec.msb_or, BitVec.msb_and, BitVec.msb_and, BitVec.msb_xor, BitVec.msb_xor, BitVec.msb_xor, ho]
    simp
  rw [h1, BitVec.msb_eq_decide, BitVec.msb_eq_decide, BitVec.msb_eq_decide, BitVec.toNat_sub]
  by_cases hx1 : 2 ^ (64 - 1) ≤ x.toNat <;> by_cases hy1 : 2 ^ (64 - 1) ≤ y.toNat <;> by_cases hlt : x.toNat < y.toNat
  all_goals (
    have hlt' : ((x.toNat : Int) < (y.toNat : Int)) = (x.toNat < y.toNat) := by simp
    simp only [hlt', hlt, hx1, hy1]
    simp
    try omega)

theorem pick_math (s a b : Int) (s0 : 0 ≤ s) (s1 : s < 18446744073709551616) (a0 : 0 ≤ a) (a1 : a < 18446744073709551616) (b0 : 0 ≤ b) (b1 : b < 18446744073709551616) :
    bits .xor .u64 b (bits .and .u64 (IntKind.u64.wrap (-bits .and .u64 s 1)) (bits .xor .u64 a b)) = pickI s a b := by
  obtain ⟨x, rfl⟩ := ofBv64 a0 a1
  obtain ⟨y, rfl⟩ := ofBv64 b0 b1
  obtain ⟨z, rfl⟩ := ofBv64 s0 s1
  have hz : bits .and .u64 (z.toNat : Int) 1 = ((z.toNat % 2 : Nat) : Int) := by
    have := u64_and_nat z.toNat 1 z.isLt (by decide)
    rw [nat_mask1] at this
    exact this
  unfold pickI
  rcases Nat.mod_two_eq_zero_or_one z.toNat with h | h
  · have h' : ¬ ((z.toNat : Int) % 2 = 1) := by omega
    rw [hz, h, if_neg h', xor64, show IntKind.u64.wrap (-((0 : Nat) : Int)) = ((0#64).toNat : Int) by decide, and64, xor64]
    simp
  · have h' : ((z.toNat : Int) % 2 = 1) := by omega
    rw [hz, h, if_pos h', xor64, show IntKind.u64.wrap (-((1 : Nat) : Int)) = ((BitVec.allOnes 64).toNat : Int) by decide, and64, xor64]
    rw [BitVec.allOnes_and, BitVec.xor_comm x y, ← BitVec.xor_assoc]
    simp

/-! Rows of numbers -/
def VI (k : IntKind) (l : List Int) : Array Value := (l.map (Value.int k)).toArray
@[simp] theorem VI_size (k : IntKind) (l : List Int) : (VI k l).size = l.length := by simp [VI]
theorem VI_at (k : IntKind) (l : List Int) (i : Nat) (h : i < l.length) : (VI k l)[i]? = some (.int k (l.getD i 0)) := by
  simp [VI, h, List.getD]
@[go_sem] theorem VI_get (k : IntKind) (l : List Int) (i : Nat) (h : i < (VI k l).size) : (VI k l)[i] = .int k (l[i]?.getD 0) := by
  have h' : i < l.length := by simpa using h
  simp [VI, h']
theorem heap_alloc_any (w : World) (o : Obj) (i : Nat) : (w.alloc o).heap[i]? = if i = w.heap.size then some o else w.heap[i]? := by
  show (w.heap.push o)[i]? = _
  rw [Array.getElem?_push]
theorem size_alloc (w : World) (o : Obj) : (w.alloc o).heap.size = w.heap.size + 1 := by
  show (w.heap.push o).size = _
  simp
theorem heap3_0 (w : World) (A B C : Obj) : (((w.alloc A).alloc B).alloc C).heap[w.heap.size]? = some A := by
  simp only [heap_alloc_any, size_alloc]
  rw [if_neg (by omega), if_neg (by omega), if_pos trivial]
theorem heap3_1 (w : World) (A B C : Obj) : (((w.alloc A).alloc B).alloc C).heap[w.heap.size + 1]? = some B := by
  simp only [heap_alloc_any, size_alloc]
  rw [if_neg (by omega), if_pos (by trivial)]
theorem heap3_2 (w : World) (A B C : Obj) : (((w.alloc A).alloc B).alloc C).heap[w.heap.size + 2]? = some C := by
  simp only [heap_alloc_any, size_alloc]
  rw [if_pos (by trivial)]
theorem VI_one (k : IntKind) (l : List Int) : (VI k l).all (·.oneCell') = true := by
  apply Array.all_eq_true_iff_forall_mem.2
  intro v hv
  simp only [VI, List.mem_toArray, List.mem_map] at hv
  obtain ⟨n, _, rfl⟩ := hv
  rfl
theorem VI_set (k : IntKind) (l : List Int) (i : Nat) (v : Int) : (VI k l).setIfInBounds i (.int k v) = VI k (l.set i v) := by
  simp [VI, List.map_set]
theorem VI_inj {k : IntKind} {l m : List Int} (h : VI k l = VI k m) : l = m := by
  have h2 : l.map (Value.int k) = m.map (Value.int k) := by simpa [VI] using h
  exact (List.map_inj_right (fun a b e => by injection e)).1 h2

section
variable {P : Program}
theorem run_index_row (w : World) (t e : TypeId) (k kk : IntKind) (n : Nat) (l : List Int) (i : Nat) (hl : l.length = n) (hi : i < n)
    (ht : P.underlying t = some (.array n e)) (he : P.underlying e = some (.int k)) (hs : ∀ w, (sizeOf e).run P w = .ok 1 w) :
    (Instr.index t (.agg (VI k l)) (.int kk (i : Int))).run P w = .ok (.int k (l.getD i 0)) w := by
  subst hl
  have h1 : (0 : Int) ≤ (i : Int) ∧ (i : Int) < ((l.length : Nat) : Int) := by omega
  simp [Instr.index, run_underlying ht, asIntOf, hi, go_sem, hs, part, isAgg, run_underlying he]

theorem run_equalIn_row (w : World) (d : Nat) (t e : TypeId) (k : IntKind) (n : Nat) (xs ys : List Int) (hx : xs.length = n) (hy : ys.length = n)
    (ht : P.underlying t = some (.array n e)) (he : P.underlying e = some (.int k)) (hsz : ∀ w, (sizeOf e).run P w = .ok 1 w) :
    (Op.equalIn (d + 2) t (.agg (VI k xs)) (.agg (VI k ys))).run P w = .ok (xs == ys) w := by
  have hall : ∀ (xs ys : List Int), xs.length = ys.length → ((List.range xs.length).all fun i => xs.getD i 0 == ys.getD i 0) = (xs == ys) := by
    intro xs
    induction xs with
    | nil => intro ys h; cases ys with | nil => rfl | cons _ _ => simp at h
    | cons x xs ih =>
      intro ys h
      cases ys with
      | nil => simp at h
      | cons y ys =>
        have ih' := ih ys (by simpa using h)
        rw [List.length_cons, List.range_succ_eq_map, List.all_cons, List.all_map]
        simp only [List.getD_cons_zero, Function.comp_def, List.getD_cons_succ, ih']
        simp [List.cons_beq_cons]
  rw [← hall xs ys (hx.trans hy.symm), hx, List.range_eq_range', Op.equalIn]
  simp only [Sem.run_bind, run_underlying ht, Result.andThen_ok, hsz, Std.Legacy.Range.forIn_eq_forIn_range', Std.Legacy.Range.size, Nat.sub_zero, Nat.add_sub_cancel, Nat.div_one]
  have hl : ∀ i ∈ List.range' 0 n 1, i < n := fun i hi => by simpa using (List.mem_range'_1.1 hi).2
  generalize List.range' 0 n 1 = l at hl ⊢
  induction l with
  | nil => simp
  | cons i l ih =>
    have hi : i < n := hl i (by simp)
    have px : (part e (VI k xs) (i * 1)).run P w = .ok (.int k (xs.getD i 0)) w := by
      have := VI_at k xs i (by omega)
      simp only [part, isAgg, Sem.run_bind, run_underlying he, Result.andThen_ok, Nat.mul_one, this]
      simp
    have py : (part e (VI k ys) (i * 1)).run P w = .ok (.int k (ys.getD i 0)) w := by
      have := VI_at k ys i (by omega)
      simp only [part, isAgg, Sem.run_bind, run_underlying he, Result.andThen_ok, Nat.mul_one, this]
      simp
    have pe : (Op.equalIn (d + 1) e (.int k (xs.getD i 0)) (.int k (ys.getD i 0))).run P w = .ok (xs.getD i 0 == ys.getD i 0) w :=
      run_equalIn_int w d e k k _ _ he
    simp only [List.forIn_cons, Sem.run_bind, px, py, pe, Result.andThen_ok, List.all_cons]
    cases hb : (xs.getD i 0 == ys.getD i 0)
    · simp
    · simp only [Bool.not_true, Bool.false_eq_true, if_false, Sem.run_pure, Result.andThen_ok, Bool.true_and]
      exact ih fun j hj => hl j (by simp [hj])
end
open Go.ChangeShapes Go.WideShapes Go.ChangeAt Go.RowKit
theorem ret_int {k : IntKind} {a b : Int} (h : a = b) : Ending.returned (.int k a) = .returned (.int k b) := by rw [h]
theorem set_step (a b : List Int) (k : Nat) (h1 : k < a.length) (h2 : k < b.length) : (a.take k ++ b.drop k).set k a[k] = a.take (k + 1) ++ b.drop (k + 1) := by
  rw [List.take_succ_eq_append_getElem h1, List.set_append_right _ _ (by simp; omega)]
  rw [List.length_take, Nat.min_eq_left (show k ≤ a.length by omega), Nat.sub_self, List.drop_eq_getElem_cons h2, List.set_cons_zero, List.append_assoc]
  rfl
theorem get_step (a b : List Int) (k : Nat) (h1 : k < a.length) (h2 : k < b.length) : (a.take k ++ b.drop k)[k]?.getD 0 = b[k] := by
  rw [List.getElem?_append_right (by simp; omega)]
  simp [Nat.min_eq_left (show k ≤ a.length by omega), h2]
/-- all but the blocks of S is as it was -/
structure But (S : Nat → Prop) (w w' : World) : Prop where
  os : w'.os = w.os
  tape : w'.tape = w.tape
  output : w'.output = w.output
  size : w'.heap.size = w.heap.size
  block : ∀ k, ¬ S k → w'.heap[k]? = w.heap[k]?
theorem But.refl (S : Nat → Prop) (w : World) : But S w w := ⟨rfl, rfl, rfl, rfl, fun _ _ => rfl⟩
theorem But.drew {S : Nat → Prop} {a w : World} (h : But S a w) : But S a w.drew := ⟨h.os, h.tape, h.output, h.size, h.block⟩
theorem But.setCell {S : Nat → Prop} {a w : World} (h : But S a w) {p : Addr} (hp : S p.block) (u : Value) : But S a (w.setCell p u) :=
  ⟨h.os, h.tape, h.output, by rw [← h.size]; simp [World.setCell], fun k hk => by rw [heap_setCell_other _ _ _ _ (fun e => hk (by rw [e]; exact hp))]; exact h.block k hk⟩
theorem But.below {S : Nat → Prop} {w w' : World} (h : But S w w') {B : Nat} (hS : ∀ k, S k → B ≤ k) : Below B w w' :=
  ⟨h.os, h.tape, h.output, by rw [h.size]; exact Nat.le_refl _, fun k hk => h.block k (fun hs => by have := hS k hs; omega)⟩
theorem but_setCells (b : Nat) : ∀ (vs : List Value) (o : Nat) (w : World), But (fun k => k = b) w (w.setCells b o vs)
  | [], _, w => But.refl _ w
  | v :: r, o, w => by
    rw [World.setCells]
    have h1 := (But.refl (fun k => k = b) w).setCell (p := ⟨b, o, none⟩) rfl v
    have h2 := but_setCells b r (o + 1) (w.setCell ⟨b, o, none⟩ v)
    exact ⟨h2.os.trans h1.os, h2.tape.trans h1.tape, h2.output.trans h1.output, h2.size.trans h1.size, fun k hk => (h2.block k hk).trans (h1.block k hk)⟩
theorem below_setRow {B : Nat} {a w : World} (h : Below B a w) (g : Nat) (hg : B ≤ g) (cs : Array Value) : Below B a (w.setRow g cs) :=
  ⟨h.os, h.tape, h.output, by rw [size_setRow]; exact h.size, fun k hk => by rw [setRow_other w g k cs (by omega)]; exact h.block k hk⟩
theorem load_row_w {P : Program} {ops : Array Oper} {rest : List Oper} {o : Oper} {a : Act} {w : World} {Q : Exit → Act → World → Prop} (hw : Region.wanted o (yielded ops a.tmps) = true) (ty : TypeId) (x : Operand) (ho : o.op = .load ty x)
    (g : Nat) (hx : a.eval x = .pointer (some ⟨g, 0, none⟩)) (t : TypeId) (cs : Array Value) (fr : Nat × Nat) (d : TypeDesc) (hg : w.heap[g]? = some (.cells cs t fr))
    (hu : P.underlying ty = some d) (hd : (match d with | .struct _ | .array _ _ => true | _ => false) = true) (hi : (P.info? ty).map (·.size) = some cs.size)
    (h : wpList P ops Q rest (a.put o.dst (.agg cs)) w) : wpList P ops Q (o :: rest) a w :=
  BigFrame.wpList_want hw fun _ hK => wp_load_row ty x ho g hx t cs fr d hg hu hd hi (hK _ _ h)
theorem store_row_new {P : Program} {ops : Array Oper} {rest : List Oper} {o : Oper} {a : Act} {w : World} {Q : Exit → Act → World → Prop} (hgd : o.guard = none) (ty : TypeId) (x y : Operand) (ho : o.op = .store ty x y)
    (g : Nat) (cells : Array Value) (hx : a.eval x = .pointer (some ⟨g, 0, none⟩)) (hg : g = w.heap.size) (hy : a.eval y = .agg cells)
    (t : TypeId) (old : Array Value) (hi : (P.info? ty).map (·.size) = some cells.size)
    (hold : old.size = cells.size) (h1 : cells.all (·.oneCell') = true)
    (h : wpList P ops Q rest (a.put o.dst undef) (w.alloc (.cells cells t))) : wpList P ops Q (o :: rest) a (w.alloc (.cells old t)) := by
  subst hg
  refine wpList_store_row hgd ty x y ho _ cells hx hy t old (heap_alloc_new w _) hi hold h1 ?_
  rw [World.setRow_alloc_new]
  exact h
theorem at_list {P : Program} {ops : Array Oper} {rest : List Oper} {o : Oper} {a : Act} {w : World} {Q : Exit → Act → World → Prop} (h : wpList P ops Q (o :: rest) a w) : wpList P ops Q (o :: rest) a w := h
theorem load_at {P : Program} {ops : Array Oper} {rest : List Oper} {o : Oper} {a : Act} {w : World} {Q : Exit → Act → World → Prop} (ty : TypeId) (x : Operand) (ho : o.op = .load ty x) (hw : Region.wanted o (yielded ops a.tmps) = true)
    (g : Nat) (hx : a.eval x = .pointer (some ⟨g, 0, none⟩)) (t : TypeId) (cs : Array Value) (fr : Nat × Nat) (d : TypeDesc) (hg : w.heap[g]? = some (.cells cs t fr))
    (hu : P.underlying ty = some d) (hd : (match d with | .struct _ | .array _ _ => true | _ => false) = true) (hi : (P.info? ty).map (·.size) = some cs.size)
    (h : wpList P ops Q rest (a.put o.dst (.agg cs)) w) : wpList P ops Q (o :: rest) a w :=
  load_row_w hw ty x ho g hx t cs fr d hg hu hd hi h
theorem hold_store {P : Program} {ops : Array Oper} {rest : List Oper} {o : Oper} {a : Act} {w : World} {Q : Exit → Act → World → Prop} (ty : TypeId) (x y : Operand) (_ : o.op = .store ty x y) (h : Hid (wpList P ops Q (o :: rest) a w)) : wpList P ops Q (o :: rest) a w := h
theorem yieldsIf_load_row {P : Program} {ops : Array Oper} {S : World → Prop} {op : Oper} {a : Act} (hw : Region.wanted op (yielded ops a.tmps) = true) (ty : TypeId) (x : Operand) (ho : op.op = .load ty x)
    (g : Nat) (hx : a.eval x = .pointer (some ⟨g, 0, none⟩)) (t : TypeId) (cs : Array Value) (fr : Nat × Nat) (d : TypeDesc) (hS : ∀ w, S w → w.heap[g]? = some (.cells cs t fr))
    (hu : P.underlying ty = some d) (hd : (match d with | .struct _ | .array _ _ => true | _ => false) = true) (hi : (P.info? ty).map (·.size) = some cs.size) : YieldsIf P ops S op (.agg cs) a :=
  .inl ⟨hw, fun w hw' => by
    unfold execOp
    simp only [ho, hx, Instr.loadAt, Instr.sureAddr, Sem.run_bind, Sem.run_pure, Result.andThen_ok, run_loadVar_row w g t ty cs fr d (hS w hw') hu hd hi]⟩
theorem add_mid (b o j : Nat) : (⟨b, o, none⟩ : Addr).add j = ⟨b, o + j, none⟩ := by unfold Addr.add; split <;> simp_all
theorem below_drewN' {B : Nat} {a w : World} (h : Below B a w) (n : Nat) : Below B a (w.drewN n) := ⟨h.os, h.tape, h.output, h.size, h.block⟩
theorem range_row {W : World} {b : Nat} {cs : Array Value} {t : TypeId} {fr : Nat × Nat} (h : W.heap[b]? = some (.cells cs t fr)) (ks : List Value) (hk : ks.toArray = cs) : W.rangeAt b 0 ks := fun j v hv => by
  rw [cell_of_row W b (0 + j) cs t fr h, ← hk, Nat.zero_add]
  simpa using hv
/-- a slice of numbers that came in -/
def IsRow (k : IntKind) (w : World) (a : Option Addr) (len cap : Nat) (zs : List Int) : Prop :=
  (a = none ∧ len = 0 ∧ cap = 0 ∧ zs = []) ∨
  ∃ x, a = some x ∧ len ≤ cap ∧ cap ≤ maxLen ∧ zs.length = cap ∧ (∀ i, i < zs.length → w.cell? (x.add i) = some (.int k (zs.getD i 0))) ∧ ∀ n ∈ zs, (Lit.int k n).wf = true
theorem open_isRow {H : Type} {enc : TypeId × Value → H} {P : Program} {ts : List TypeId} {ds : List (DataW H)} {W : World} {j : Nat} {t e : TypeId} {k : IntKind} {a : Option Addr} {len cap : Nat} {d : DataW H} {p : List MemPlace}
    (ht : P.underlying t = some (.slice e)) (he : P.underlying e = some (.int k)) (hce : P.cellsOf e = 1) (hsz : (DataW.weightsEach P ts ds).all (· ≤ reachBytes) = true) (htj : ts[j]? = some t) (hdj : ds[j]? = some d)
    (h : DataW.Trod enc P W 0 (fun _ => true) true t (.slice a len cap) d p) : ∃ zs, IsRow k W a len cap zs ∧ cap * P.bytesOf e ≤ reachBytes := by
  obtain ⟨fuel, hf⟩ := h
  rcases open_ints ht he hce hf with ⟨hcs, _⟩ | ⟨x, l, c, zs, hcs, _, hl, hm, hz, hx, hcell, hwz⟩
  · simp [Value.cells] at hcs
    obtain ⟨rfl, rfl, rfl⟩ := hcs
    exact ⟨[], .inl ⟨rfl, rfl, rfl, rfl⟩, by simp⟩
  · simp [Value.cells] at hcs
    obtain ⟨rfl, rfl, rfl⟩ := hcs
    have hz' : zs.length = cap := by simpa using hz
    refine ⟨zs, .inr ⟨_, rfl, hl, hm, hz', hcell, hwz⟩, ?_⟩
    simp only [Prod.mk.injEq] at hx
    obtain ⟨rfl, _⟩ := hx
    have := sized_slice hsz htj hdj ht
    simp only [lits, List.length_map, List.length_take, List.length_drop] at this
    rw [show min len zs.length + (zs.length - len) = cap by omega] at this
    exact this

section
variable {H : Type} {enc : TypeId × Value → H} {P : Program}

/-- Every argument reads behind the call as it read before, where nothing that was there has turned. -/
theorem trodAll_below (hl : laidOutB P = true) {W W' : World} (hb : Below W.heap.size W W') :
    ∀ (ts : List TypeId) (vs : List Value) (ds : List (DataW H)) (p : List MemPlace), (ts.all fun t => P.readableRec t && decide (t < P.types.size)) = true →
      DataW.TrodAll enc P W 0 (fun _ => true) true ts vs ds p → DataW.TrodAll enc P W' 0 (fun b => decide (b < W.heap.size)) true ts vs ds p
  | [], [], [], _, _, h => h
  | t :: ts, v :: vs, d :: ds, _, hok, h => by
    obtain ⟨p, q, h1, h2, h3⟩ := h
    rw [List.all_cons, Bool.and_eq_true, Bool.and_eq_true] at hok
    obtain ⟨⟨a1, a2⟩, a3⟩ := hok
    refine ⟨p, q, Below.trod hl a1 (of_decide_eq_true a2) h1 hb ?_, trodAll_below hl hb ts vs ds q a3 h2, h3⟩
    obtain ⟨m, hm⟩ := h1
    exact DataW.trod_lt m _ _ _ hm
  | [], _ :: _, _, _, _, h => h.elim
  | [], [], _ :: _, _, _, h => h.elim
  | _ :: _, [], _, _, _, h => h.elim
  | _ :: _, _ :: _, [], _, _, h => h.elim

theorem okWide_array {t e : TypeId} {n : Nat} {w : World} {r : Reach} {base : Nat} {v : Value} (ht : P.underlying t = some (.array n e)) (h : Value.okWide P w r base t v) : ∃ cs, v = .agg cs ∧ cs.size = P.cellsOf t := by
  simp only [Value.okWide, ht] at h
  obtain ⟨cs, h1, h2, _⟩ := h
  exact ⟨cs, h1, h2⟩

/-- An argument that is an array of numbers, opened. -/
theorem open_row {w : World} {base b0 : Nat} {spare : Nat → Bool} {held : Bool} {r : Reach} {t e : TypeId} {n : Nat} {k : IntKind} {v : Value} {d : DataW H} {p : List MemPlace} (ht : P.underlying t = some (.array n e)) (he : P.underlying e = some (.int k))
    (hce : P.cellsOf e = 1) (hct : P.cellsOf t = n) (hv : Value.okWide P w r b0 t v) (h : DataW.Trod enc P w base spare held t v d p) :
    ∃ l : List Int, v = .agg (VI k l) ∧ l.length = n ∧ ∀ x ∈ l, (Lit.int k x).wf = true := by
  obtain ⟨cs, rfl, hsz⟩ := okWide_array ht hv
  obtain ⟨fuel, hf⟩ := h
  obtain ⟨xs, m, _, _, hlen, hxl, hall⟩ := DataW.trod_array ht hf
  have key : ∀ i, i < n → ∃ x, cs[i]? = some (.int k x) ∧ (Lit.int k x).wf = true := by
    intro i hi
    have h1 := hall i hi
    rw [List.getElem?_eq_getElem (by omega)] at h1
    obtain ⟨x, hx, _, hw⟩ := DataW.trod_int he h1
    refine ⟨x, ?_, hw⟩
    rw [hce, Nat.mul_one] at hx
    have h3 := congrArg (fun z => z[0]?) hx
    simp [Value.cells] at h3
    exact h3
  have hcs : cs.size = n := hsz.trans hct
  refine ⟨(List.range n).map (fun i : Nat => intOf (cs[i]?.getD .nilIface)), ?_, by simp, ?_⟩
  · congr 1
    apply Array.ext_getElem?
    intro i
    by_cases hi : i < n
    · obtain ⟨x, hx, _⟩ := key i hi
      rw [hx]
      simp [VI, hi, hx, intOf]
    · rw [Array.getElem?_eq_none (by omega), Array.getElem?_eq_none (by simp [VI]; omega)]
  · intro x hx
    rw [List.mem_map] at hx
    obtain ⟨i, hi, rfl⟩ := hx
    obtain ⟨x, hx, hw⟩ := key i (by simpa using hi)
    rw [hx]
    exact hw
end
end Go.Pin
namespace Go.Fld
/-- the prime -/
def P : Nat := 57896044618658097711785492504343953926634992332820282019728792003956564819949
theorem P_eq : P = 2 ^ 255 - 19 := by decide
theorem P_PI : (P : Int) = (57896044618658097711785492504343953926634992332820282019728792003956564819949 : Int) := by decide
/-- the number of limbs -/
def V : List Int → Int
  | [] => 0
  | x :: l => x + 2251799813685248 * V l
theorem V_cons (x : Int) (l : List Int) : V (x :: l) = x + 2251799813685248 * V l := rfl
theorem V_nil : V [] = 0 := rfl
/-- carry -/
def cy : Int → List Int → List Int
  | _, [] => []
  | o, x :: l => (x + o) % 2251799813685248 :: cy ((x + o) / 2251799813685248) l
def co : Int → List Int → Int
  | o, [] => o
  | o, x :: l => co ((x + o) / 2251799813685248) l
@[simp] theorem cy_len : ∀ (l : List Int) (o : Int), (cy o l).length = l.length
  | [], _ => rfl
  | _ :: l, _ => by simp [cy, cy_len l]
theorem cy_V : ∀ (l : List Int) (o : Int), V (cy o l) + (2251799813685248 : Int) ^ l.length * co o l = V l + o
  | [], o => by simp [V, cy, co]
  | x :: l, o => by
    have ih := cy_V l ((x + o) / 2251799813685248)
    simp only [cy, co, V, List.length_cons]
    have hd := Int.emod_add_mul_ediv (x + o) 2251799813685248
    rw [Int.pow_succ]
    have e : (x + o) % 2251799813685248 + 2251799813685248 * V (cy ((x + o) / 2251799813685248) l) + (2251799813685248 : Int) ^ l.length * 2251799813685248 * co ((x + o) / 2251799813685248) l = (x + o) % 2251799813685248 + 2251799813685248 * (V (cy ((x + o) / 2251799813685248) l) + (2251799813685248 : Int) ^ l.length * co ((x + o) / 2251799813685248) l) := by grind
    rw [e, ih]
    grind
theorem cy_lt : ∀ (l : List Int) (o : Int), ∀ x ∈ cy o l, 0 ≤ x ∧ x < 2251799813685248
  | [], _ => by simp [cy]
  | y :: l, o => by
    intro x hx
    rw [cy, List.mem_cons] at hx
    rcases hx with rfl | hx
    · omega
    · exact cy_lt l _ x hx
theorem five {l : List Int} (h : l.length = 5) : ∃ a b c d e, l = [a, b, c, d, e] := by
  match l, h with
  | [a, b, c, d, e], _ => exact ⟨a, b, c, d, e, rfl⟩
theorem V_lt : ∀ (l : List Int), (∀ x ∈ l, 0 ≤ x ∧ x < 2251799813685248) → 0 ≤ V l ∧ V l < (2251799813685248 : Int) ^ l.length
  | [], _ => by simp [V]
  | x :: l, h => by
    have ih := V_lt l (fun y hy => h y (by simp [hy]))
    have hx := h x (by simp)
    rw [V, List.length_cons, Int.pow_succ]
    generalize (2251799813685248 : Int) ^ l.length = R at *
    omega
/-- limbs of a number: five, each below 2^52 -/
structure Lim (l : List Int) : Prop where
  len : l.length = 5
  bd : ∀ x ∈ l, 0 ≤ x ∧ x < 4503599627370496
/-- limbs l are the number n -/
structure El (l : List Int) (n : Nat) : Prop extends Lim l where
  val : V l % 57896044618658097711785492504343953926634992332820282019728792003956564819949 = n
theorem El.lt {l : List Int} {n : Nat} (h : El l n) : n < P := by
  have := h.val
  have e := P_PI
  have : V l % 57896044618658097711785492504343953926634992332820282019728792003956564819949 < 57896044618658097711785492504343953926634992332820282019728792003956564819949 := Int.emod_lt_of_pos _ (by decide)
  omega
theorem El.uniq {l : List Int} {n m : Nat} (h : El l n) (h' : El l m) : n = m := by
  have := h.val
  have := h'.val
  omega
theorem modP (n : Nat) : ((n : Int) % 57896044618658097711785492504343953926634992332820282019728792003956564819949) = ((n % P : Nat) : Int) := by rw [← P_PI]; rfl
/-- settle -/
def stl (l : List Int) : List Int := (cy 0 l).set 0 ((cy 0 l).getD 0 0 + 19 * co 0 l)
theorem co_bd : ∀ (l : List Int) (o B : Int), 0 ≤ o → o ≤ B → (∀ x ∈ l, 0 ≤ x ∧ x + B < 2251799813685248 * (B + 1)) → 0 ≤ co o l ∧ co o l ≤ B
  | [], o, B, h0, h1, _ => ⟨h0, h1⟩
  | x :: l, o, B, h0, h1, h => by
    have hx := h x (by simp)
    rw [co]
    refine co_bd l _ B (by omega) ?_ (fun y hy => h y (by simp [hy]))
    have : (x + o) / 2251799813685248 < B + 1 := Int.ediv_lt_of_lt_mul (by decide) (by rw [Int.mul_comm]; omega)
    omega
theorem stl_lim (l : List Int) (h5 : l.length = 5) (h : ∀ x ∈ l, 0 ≤ x ∧ x < 1152921504606846976) : Lim (stl l) ∧ V (stl l) % 57896044618658097711785492504343953926634992332820282019728792003956564819949 = V l % 57896044618658097711785492504343953926634992332820282019728792003956564819949 ∧ 0 ≤ V (stl l) ∧ V (stl l) < 57896044618658097711785492504343953926634992332820282019728792003956564819968 + 19 * co 0 l ∧ 0 ≤ co 0 l ∧ co 0 l ≤ 1024 := by
  have hb := co_bd l 0 1024 (by decide) (by decide) (fun x hx => by have := h x hx; omega)
  have hv := cy_V l 0
  have hlt := cy_lt l 0
  have hl := cy_len l 0
  have hV := V_lt _ hlt
  obtain ⟨a, b, c, d, e, hc⟩ := five (hl.trans h5)
  have es : stl l = [a + 19 * co 0 l, b, c, d, e] := by simp [stl, hc]
  rw [hc] at hlt hv hV
  rw [es, h5] at *
  have ev : V [a + 19 * co 0 l, b, c, d, e] = V [a, b, c, d, e] + 19 * co 0 l := by simp only [V_cons]; omega
  simp only [List.length_cons, List.length_nil] at hV
  have hr : (2251799813685248 : Int) ^ 5 = 57896044618658097711785492504343953926634992332820282019728792003956564819968 := by decide
  have hr' : (2251799813685248 : Int) ^ (0 + 1 + 1 + 1 + 1 + 1) = 57896044618658097711785492504343953926634992332820282019728792003956564819968 := by decide
  rw [hr] at hv
  rw [hr'] at hV
  refine ⟨⟨rfl, ?_⟩, ?_, ?_, ?_, hb.1, hb.2⟩
  · intro x hx
    simp only [List.mem_cons, List.not_mem_nil, or_false] at hx hlt
    rcases hx with rfl | rfl | rfl | rfl | rfl
    · have := hlt a (by simp); omega
    all_goals (have := hlt x (by simp); omega)
  · rw [ev]; omega
  · rw [ev]; omega
  · rw [ev]; omega
end Go.Fld
namespace Go.Proofs.Ytacofgmnmofkpaa
set_option linter.unusedSimpArgs false
open Go.ChangeShapes Go.WideShapes Go.ChangeAt Go.RowKit Go.Pin Go.Fld
theorem setRow_setCell {w : World} {g : Nat} {old : Array Value} {T : TypeId} (hg : w.heap[g]? = some (.cells old T (0, 0))) (cs : Array Value) (i : Nat) (v : Value) :
    (w.setRow g cs).setCell ⟨g, i, none⟩ v = w.setRow g (cs.setIfInBounds i v) := by
  rw [setCell_eq_setRow (w.setRow g cs) g i cs T (0, 0) v (setRow_heap w g old cs T (0, 0) hg)]
  simp only [World.setRow]
  congr 1
  apply Array.ext_getElem?
  intro k
  rw [Array.getElem?_modify, Array.getElem?_modify, Array.getElem?_modify]
  by_cases h : g = k
  · subst h
    simp [hg]
  · simp [h]
theorem setRow_self {w : World} {g : Nat} {cs : Array Value} {T : TypeId} {fr : Nat × Nat} (hg : w.heap[g]? = some (.cells cs T fr)) : w.setRow g cs = w := by
  have e : w.heap.modify g (fun | .cells _ elem frozen => .cells cs elem frozen | o => o) = w.heap := by
    apply Array.ext_getElem?
    intro k
    rw [Array.getElem?_modify]
    by_cases h : g = k
    · subst h
      simp [hg]
    · simp [h]
  exact congrArg (fun h => { w with heap := h }) e
theorem mask51 (x : Int) (h0 : 0 ≤ x) (h1 : x < 18446744073709551616) : bits .and .u64 x 2251799813685247 = x % 2251799813685248 := by
  obtain ⟨n, rfl⟩ := Int.eq_ofNat_of_zero_le h0
  have := u64_and_nat n 2251799813685247 (by omega) (by decide)
  rw [show (2251799813685247 : Int) = ((2251799813685247 : Nat) : Int) from rfl, this, show (2251799813685247 : Nat) = 2 ^ 51 - 1 by decide, Nat.and_two_pow_sub_one_eq_mod]
  rfl
theorem ret_int2 {k j : IntKind} {a b c d : Int} (h : a = b) (g : c = d) : Ending.returned (.tuple #[.int k a, .int j c]) = .returned (.tuple #[.int k b, .int j d]) := by rw [h, g]
theorem set_mid (a b : List Int) (x y : Int) : (a ++ x :: b).set a.length y = a ++ y :: b := by simp
theorem get_mid (a b : List Int) (x : Int) : (a ++ x :: b)[a.length]?.getD 0 = x := by simp
set_option maxHeartbeats 400000 in
theorem add64_run (x y c : Int) (hx : 0 ≤ x) (hy : 0 ≤ y) (hc0 : 0 ≤ c) (hc : c ≤ 1) (w : World) :
    (callFunc 71 #[.int .u64 x, .int .u64 y, .int .u64 c]).run Try.prog w = .ok (.value (.tuple #[.int .u64 ((x + y + c) % 18446744073709551616), .int .u64 ((x + y + c) / 18446744073709551616)])) w := by
  rw [run_callFunc_extern Try.func71 (by kernel_rfl) (by kernel_rfl) (by kernel_rfl) (e := add64Entry) (by kernel_rfl), run_add64 x y c hx hy hc0 hc]
  rfl
set_option maxHeartbeats 1000000 in
theorem carry_any (g : Nat) (T : TypeId) (l : List Int) (h5 : l.length = 5) (hb : ∀ x ∈ l, 0 ≤ x ∧ x < 9223372036854775808) (w : World) (hg : w.heap[g]? = some (.cells (VI .u64 l) T (0, 0))) :
    Calls Try.prog 63 #[.pointer (some ⟨g, 0, none⟩)] w fun e w' => e = .returned (.int .u64 (co 0 l)) ∧ w' = w.setRow g (VI .u64 (cy 0 l)) := by
  have HG : Hid (w.heap[g]? = some (.cells (VI .u64 l) T (0, 0))) := hg
  have HB : Hid (∀ x ∈ l, 0 ≤ x ∧ x < 9223372036854775808) := hb
  clear hg hb
  go_enter Try.func63, Try.ntmps63
  go_wp2
  go_loopw [3, 6] (fun o i w' => ∃ (d r : List Int) (c : Int), i = .int .i64 (d.length : Nat) ∧ o = .int .u64 c ∧ 0 ≤ c ∧ c < 8192 ∧ d.length + r.length = 5 ∧ (∀ x ∈ r, 0 ≤ x ∧ x < 9223372036854775808) ∧ cy 0 l = d ++ cy c r ∧ co 0 l = co c r ∧ w' = w.setRow g (VI .u64 (d ++ r))) (fun _ i _ => 5 - (intOf i).toNat)
  case atStart =>
    exact ⟨[], l, 0, rfl, rfl, by decide, by decide, by simpa using h5, HB.out, rfl, rfl, (setRow_self HG.out).symm⟩
  case round =>
    obtain ⟨d, r, c, rfl, rfl, c0, c1, hl, hr, hcy, hco, hw⟩ := hrel
    cases r with
    | cons x r =>
      have hx := hr x (by simp)
      have hcell : wr.cell? ⟨g, d.length, none⟩ = some (.int .u64 x) := by
        rw [hw, cell_of_row _ _ _ _ _ _ (setRow_heap w g _ _ T _ HG.out), VI_at _ _ _ (by simp)]; simp
      have hfr : wr.frozen? ⟨g, d.length, none⟩ = false := by rw [hw]; exact frozen_of_row _ _ _ _ _ (setRow_heap w g _ _ T _ HG.out)
      have hset : Hid (∀ y, wr.setCell ⟨g, d.length, none⟩ (.int .u64 y) = w.setRow g (VI .u64 (d ++ y :: r))) := fun y => by
        rw [hw, setRow_setCell HG.out, VI_set, set_mid]
      obtain ⟨x0, x1⟩ := hx
      have hlt : d.length < 5 := by simp at hl; omega
      have HR : Hid (∀ y ∈ x :: r, 0 ≤ y ∧ y < 9223372036854775808) := hr
      have H1 : Hid (cy 0 l = d ++ cy c (x :: r)) := hcy
      have H2 : Hid (co 0 l = co c (x :: r)) := hco
      have HL : Hid (d.length + (x :: r).length = 5) := hl
      have hm := mask51 (x + c) (by omega) (by omega)
      clear hr hcy hco hl hw HB HG h5
      go_wp2
      go_roundw
      case rel =>
        exact ⟨d ++ [(x + c) % 2251799813685248], r, (x + c) / 2251799813685248, by simp, rfl, by omega, by omega, by have := HL.out; simp at this ⊢; omega, fun y hy => HR.out y (by simp [hy]), by rw [H1.out]; simp [cy], H2.out, by rw [hset.out]; simp⟩
      case measure => simp [intOf]; omega
    | nil =>
      have hlt : d.length = 5 := by simpa using hl
      simp only [hlt]
      have hw2 : wr = w.setRow g (VI .u64 (cy 0 l)) := by rw [hw, show cy 0 l = d by rw [hcy]; exact List.append_nil d, List.append_nil]
      have HW : Hid (wr = w.setRow g (VI .u64 (cy 0 l))) := hw2
      have H2 : Hid (c = co 0 l) := hco.symm
      clear hr hcy hco hl hw hw2 HB HG h5
      go_wp2
      go_ret
      exact ⟨ret_int H2.out, HW.out⟩
theorem mask32 (x : Int) (h0 : 0 ≤ x) (h1 : x < 18446744073709551616) : bits .and .u64 x 4294967295 = x % 4294967296 := by
  obtain ⟨n, rfl⟩ := Int.eq_ofNat_of_zero_le h0
  have := u64_and_nat n 4294967295 (by omega) (by decide)
  rw [show (4294967295 : Int) = ((4294967295 : Nat) : Int) from rfl, this, show (4294967295 : Nat) = 2 ^ 32 - 1 by decide, Nat.and_two_pow_sub_one_eq_mod]
  rfl
theorem prod32 {a b : Int} (a0 : 0 ≤ a) (a1 : a < 4294967296) (b0 : 0 ≤ b) (b1 : b < 4294967296) : 0 ≤ a * b ∧ a * b ≤ 18446744065119617025 :=
  ⟨Int.mul_nonneg a0 b0, by
    have h1 : a * b ≤ 4294967295 * b := Int.mul_le_mul_of_nonneg_right (by omega) b0
    omega⟩
theorem mul_hi (x y : Int) (x0 : 0 ≤ x) (x1 : x < 18446744073709551616) (y0 : 0 ≤ y) (y1 : y < 18446744073709551616) :
    IntKind.u64.wrap (IntKind.u64.wrap (IntKind.u64.wrap (x / 4294967296 * (y / 4294967296)) + IntKind.u64.wrap (IntKind.u64.wrap (x / 4294967296 * bits .and .u64 y 4294967295) + IntKind.u64.wrap (bits .and .u64 x 4294967295 * bits .and .u64 y 4294967295) / 4294967296) / 4294967296) +
      IntKind.u64.wrap (bits .and .u64 (IntKind.u64.wrap (IntKind.u64.wrap (x / 4294967296 * bits .and .u64 y 4294967295) + IntKind.u64.wrap (bits .and .u64 x 4294967295 * bits .and .u64 y 4294967295) / 4294967296)) 4294967295 + IntKind.u64.wrap (bits .and .u64 x 4294967295 * (y / 4294967296))) / 4294967296) = x * y / 18446744073709551616 := by
  rw [mask32 x x0 x1, mask32 y y0 y1]
  simp only [IntKind.wrap_u64]
  rw [mask32 _ (by omega) (by omega)]
  have ex : x = 4294967296 * (x / 4294967296) + x % 4294967296 := by omega
  have ey : y = 4294967296 * (y / 4294967296) + y % 4294967296 := by omega
  have e : x * y = 18446744073709551616 * (x / 4294967296 * (y / 4294967296)) + 4294967296 * (x / 4294967296 * (y % 4294967296)) + 4294967296 * (x % 4294967296 * (y / 4294967296)) + x % 4294967296 * (y % 4294967296) := by
    conv => lhs; rw [ex, ey]
    grind
  rw [e]
  have b1 := prod32 (a := x / 4294967296) (b := y / 4294967296) (by omega) (by omega) (by omega) (by omega)
  have b2 := prod32 (a := x / 4294967296) (b := y % 4294967296) (by omega) (by omega) (by omega) (by omega)
  have b3 := prod32 (a := x % 4294967296) (b := y / 4294967296) (by omega) (by omega) (by omega) (by omega)
  have b4 := prod32 (a := x % 4294967296) (b := y % 4294967296) (by omega) (by omega) (by omega) (by omega)
  clear e ex ey
  generalize x / 4294967296 * (y / 4294967296) = p1 at *
  generalize x / 4294967296 * (y % 4294967296) = p2 at *
  generalize x % 4294967296 * (y / 4294967296) = p3 at *
  generalize x % 4294967296 * (y % 4294967296) = p4 at *
  clear x0 x1 y0 y1
  omega
set_option maxHeartbeats 1000000 in
theorem mul64_any (x y : Int) (w : World) (x0 : 0 ≤ x) (x1 : x < 18446744073709551616) (y0 : 0 ≤ y) (y1 : y < 18446744073709551616) :
    Calls Try.prog 70 #[.int .u64 x, .int .u64 y] w fun e w' => e = .returned (.tuple #[.int .u64 (x * y / 18446744073709551616), .int .u64 (x * y % 18446744073709551616)]) ∧ w' = w := by
  go_enter Try.func70, Try.ntmps70
  go_wp2
  go_ret2
  exact ⟨ret_int2 (mul_hi x y x0 x1 y0 y1) (IntKind.wrap_u64 _), rfl⟩
/-- block g alone has turned, into the limbs l -/
structure Up (g : Nat) (T : TypeId) (l : List Int) (w w' : World) : Prop where
  but : But (fun k => k = g) w w'
  row : w'.heap[g]? = some (.cells (VI .u64 l) T (0, 0))
theorem Up.setRow {g : Nat} {T : TypeId} {w : World} {old : Array Value} (hg : w.heap[g]? = some (.cells old T (0, 0))) (l : List Int) : Up g T l w (w.setRow g (VI .u64 l)) :=
  ⟨⟨rfl, rfl, rfl, size_setRow _ _ _, fun k hk => setRow_other w g k _ hk⟩, setRow_heap w g _ _ T _ hg⟩
theorem Up.drew {g : Nat} {T : TypeId} {l : List Int} {w w' : World} (h : Up g T l w w') : Up g T l w w'.drew := ⟨h.but.drew, h.row⟩
theorem But.trans {S : Nat → Prop} {a b c : World} (h : But S a b) (k : But S b c) : But S a c :=
  ⟨k.os.trans h.os, k.tape.trans h.tape, k.output.trans h.output, k.size.trans h.size, fun i hi => (k.block i hi).trans (h.block i hi)⟩
theorem Up.set {g : Nat} {T : TypeId} {l : List Int} {w w' : World} (h : Up g T l w w') (i : Nat) (v : Int) : Up g T (l.set i v) w (w'.setCell ⟨g, i, none⟩ (.int .u64 v)) :=
  ⟨h.but.setCell rfl _, by rw [heap_setCell_same w' _ _ _ _ _ h.row, VI_set]⟩
theorem Up.cell {g : Nat} {T : TypeId} {l : List Int} {w w' : World} (h : Up g T l w w') {i : Nat} (hi : i < l.length) : w'.cell? ⟨g, i, none⟩ = some (.int .u64 (l.getD i 0)) := by
  rw [cell_of_row w' _ _ _ _ _ h.row, VI_at _ _ _ hi]
theorem Up.frozen {g : Nat} {T : TypeId} {l : List Int} {w w' : World} (h : Up g T l w w') (i : Nat) : w'.frozen? ⟨g, i, none⟩ = false := frozen_of_row w' _ _ _ _ h.row
theorem Up.trans {g : Nat} {T S : TypeId} {l m : List Int} {a b c : World} (h : Up g T l a b) (k : Up g S m b c) : Up g S m a c := ⟨But.trans h.but k.but, k.row⟩
theorem Up.refl {g : Nat} {T : TypeId} {l : List Int} {w : World} (h : w.heap[g]? = some (.cells (VI .u64 l) T (0, 0))) : Up g T l w w := ⟨But.refl _ _, h⟩
set_option maxHeartbeats 1000000 in
theorem settle_any (g : Nat) (T : TypeId) (l : List Int) (h5 : l.length = 5) (hb : ∀ x ∈ l, 0 ≤ x ∧ x < 1152921504606846976) (w : World) (hg : w.heap[g]? = some (.cells (VI .u64 l) T (0, 0))) :
    Calls Try.prog 57 #[.pointer (some ⟨g, 0, none⟩)] w fun e w' => e = .returned (.tuple #[]) ∧ Up g T (stl l) w w' := by
  have HG : Hid (w.heap[g]? = some (.cells (VI .u64 l) T (0, 0))) := hg
  have HB : Hid (∀ x ∈ l, 0 ≤ x ∧ x < 9223372036854775808) := fun x hx => by have := hb x hx; omega
  obtain ⟨_, _, _, _, c0, c1⟩ := stl_lim l h5 (fun x hx => by have := hb x hx; omega)
  have hU := Up.setRow hg (cy 0 l)
  have hcell := hU.cell (i := 0) (by rw [cy_len]; omega)
  have hfr := hU.frozen 0
  have hy := cy_lt l 0 ((cy 0 l).getD 0 0) (by
    have : 0 < (cy 0 l).length := by rw [cy_len]; omega
    rw [List.getD_eq_getElem?_getD, List.getElem?_eq_getElem this]; exact List.getElem_mem this)
  have HS : Hid (∀ W, Up g T (cy 0 l) w W → Up g T (stl l) w (W.setCell ⟨g, 0, none⟩ (.int .u64 ((cy 0 l).getD 0 0 + 19 * co 0 l)))) := fun W h => h.set 0 _
  obtain ⟨W, hW⟩ : ∃ W, w.setRow g (VI .u64 (cy 0 l)) = W := ⟨_, rfl⟩
  rw [hW] at hU hcell hfr
  have HU : Hid (Up g T (cy 0 l) w W) := hU
  obtain ⟨y0, y1⟩ := hy
  clear hg hb hU
  generalize (cy 0 l).getD 0 0 = y at *
  go_enter Try.func57, Try.ntmps57
  go_wp2_with (go_at_call 63; refine (carry_any g T l h5 HB.out w HG.out).mono ?_; rintro e w' ⟨rfl, rfl⟩)
  generalize co 0 l = c at *
  go_region
  go_wp2
  go_end0
  exact ⟨rfl, (HS.out _ HU.out).drew⟩
end Go.Proofs.Ytacofgmnmofkpaa
namespace Go.Proofs.Ytacofgmnmofkpaa
set_option linter.unusedSimpArgs false
open Go.ChangeShapes Go.WideShapes Go.ChangeAt Go.RowKit Go.Pin Go.Fld
/-- two words -/
abbrev wd (s : Int) : Array Value := #[.int .u64 (s / 18446744073709551616), .int .u64 (s % 18446744073709551616)]
theorem plus_math (s p : Int) (s0 : 0 ≤ s) (p0 : 0 ≤ p) (h : s + p < 340282366920938463463374607431768211456) :
    (p / 18446744073709551616 + s / 18446744073709551616 + (p % 18446744073709551616 + s % 18446744073709551616 + 0) / 18446744073709551616) % 18446744073709551616 = (s + p) / 18446744073709551616 ∧
    (p % 18446744073709551616 + s % 18446744073709551616 + 0) % 18446744073709551616 = (s + p) % 18446744073709551616 := by omega
set_option maxHeartbeats 1000000 in
theorem plus_core (x y sh sl ph pl u v t z : Int) (w : World)
    (HX : Hid (∀ w, Calls Try.prog 70 #[.int .u64 x, .int .u64 y] w fun e w' => e = .returned (.tuple #[.int .u64 ph, .int .u64 pl]) ∧ w' = w))
    (r1 : ∀ w, (callFunc 71 #[.int .u64 pl, .int .u64 sl, .int .u64 0]).run Try.prog w = .ok (.value (.tuple #[.int .u64 u, .int .u64 v])) w)
    (r2 : ∀ w, (callFunc 71 #[.int .u64 ph, .int .u64 sh, .int .u64 v]).run Try.prog w = .ok (.value (.tuple #[.int .u64 t, .int .u64 z])) w) :
    Calls Try.prog 67 #[.agg #[.int .u64 sh, .int .u64 sl], .int .u64 x, .int .u64 y] w fun e w' => e = .returned (.agg #[.int .u64 t, .int .u64 u]) ∧ Below w.heap.size w w' := by
  go_enter Try.func67, Try.ntmps67
  go_wp2_with (go_at_call 70; refine (HX.out _).mono ?_; rintro e w' ⟨rfl, rfl⟩)
  exact bodyPost_ret (v := .agg #[.int .u64 t, .int .u64 u]) (by simp [results, Try.results67, go_sem]) rfl ⟨rfl, ((Below.refl _ _).alloc (Nat.le_refl _) _).alloc (by simp) _⟩
theorem plus_any (s x y : Int) (w : World) (s0 : 0 ≤ s) (x0 : 0 ≤ x) (x1 : x < 18446744073709551616) (y0 : 0 ≤ y) (y1 : y < 18446744073709551616) (h : s + x * y < 340282366920938463463374607431768211456) :
    Calls Try.prog 67 #[.agg (wd s), .int .u64 x, .int .u64 y] w fun e w' => e = .returned (.agg (wd (s + x * y))) ∧ Below w.heap.size w w' := by
  have p0 := Int.mul_nonneg x0 y0
  obtain ⟨m1, m2⟩ := plus_math s (x * y) s0 p0 h
  have hc := plus_core x y (s / 18446744073709551616) (s % 18446744073709551616) (x * y / 18446744073709551616) (x * y % 18446744073709551616) _ _ _ _ w (fun w => mul64_any x y w x0 x1 y0 y1)
    (fun w => add64_run (x * y % 18446744073709551616) (s % 18446744073709551616) 0 (by omega) (by omega) (by omega) (by omega) w)
    (fun w => add64_run (x * y / 18446744073709551616) (s / 18446744073709551616) ((x * y % 18446744073709551616 + s % 18446744073709551616 + 0) / 18446744073709551616) (by omega) (by omega) (by omega) (by omega) w)
  rw [m1, m2] at hc
  exact hc
end Go.Proofs.Ytacofgmnmofkpaa
namespace Go.Fld
/-- 19 times the limbs, and the limbs -/
def rw10 (b : List Int) : List Int := b.map (19 * ·) ++ b
def sm (a R : List Int) (place : Nat) : Nat → Int
  | 0 => 0
  | k + 1 => sm a R place k + a.getD k 0 * R.getD (place + 5 - k) 0
/-- the sums of the five places -/
def sums (a b : List Int) : List Int := [sm a (rw10 b) 0 5, sm a (rw10 b) 1 5, sm a (rw10 b) 2 5, sm a (rw10 b) 3 5, sm a (rw10 b) 4 5]
/-- the last carry -/
def last (l : List Int) (o : Int) : List Int := [(l.getD 0 0 + 19 * o) % 2251799813685248, l.getD 1 0 + (l.getD 0 0 + 19 * o) / 2251799813685248, l.getD 2 0, l.getD 3 0, l.getD 4 0]
def prod (a b : List Int) : List Int := last (cy 0 (sums a b)) (co 0 (sums a b))
theorem bdp {x y : Int} (x0 : 0 ≤ x) (x1 : x < 4503599627370496) (y0 : 0 ≤ y) (y1 : y < 4503599627370496) : 0 ≤ x * y ∧ x * y < 20282409603651670423947251286016 :=
  ⟨Int.mul_nonneg x0 y0, by
    have h1 : x * y ≤ 4503599627370496 * y := Int.mul_le_mul_of_nonneg_right (by omega) y0
    omega⟩
theorem sums_eq (a0 a1 a2 a3 a4 b0 b1 b2 b3 b4 : Int) : sums [a0, a1, a2, a3, a4] [b0, b1, b2, b3, b4] =
    [a0 * b0 + 19 * (a1 * b4 + a2 * b3 + a3 * b2 + a4 * b1), a0 * b1 + a1 * b0 + 19 * (a2 * b4 + a3 * b3 + a4 * b2), a0 * b2 + a1 * b1 + a2 * b0 + 19 * (a3 * b4 + a4 * b3), a0 * b3 + a1 * b2 + a2 * b1 + a3 * b0 + 19 * (a4 * b4), a0 * b4 + a1 * b3 + a2 * b2 + a3 * b1 + a4 * b0] := by
  simp [sums, sm, rw10]
  grind
theorem V_sums (a0 a1 a2 a3 a4 b0 b1 b2 b3 b4 : Int) : V [a0, a1, a2, a3, a4] * V [b0, b1, b2, b3, b4] =
    V (sums [a0, a1, a2, a3, a4] [b0, b1, b2, b3, b4]) + 57896044618658097711785492504343953926634992332820282019728792003956564819949 * (a1 * b4 + a2 * b3 + a3 * b2 + a4 * b1 + 2251799813685248 * (a2 * b4 + a3 * b3 + a4 * b2) + 2251799813685248 ^ 2 * (a3 * b4 + a4 * b3) + 2251799813685248 ^ 3 * (a4 * b4)) := by
  rw [sums_eq]
  simp only [V_cons, V_nil]
  grind
theorem sums_bd {a b : List Int} (ha : Lim a) (hb : Lim b) : (∀ x ∈ sums a b, 0 ≤ x ∧ x < 2596148429267413814265248164610048) ∧ (sums a b).length = 5 ∧ (sums a b).getD 4 0 < 101412048018258352119736256430080 := by
  obtain ⟨a0, a1, a2, a3, a4, rfl⟩ := five ha.len
  obtain ⟨b0, b1, b2, b3, b4, rfl⟩ := five hb.len
  rw [sums_eq]
  have hA := ha.bd
  have hB := hb.bd
  simp only [List.mem_cons, List.not_mem_nil, or_false, forall_eq_or_imp, forall_eq] at hA hB
  obtain ⟨⟨A0, A0'⟩, ⟨A1, A1'⟩, ⟨A2, A2'⟩, ⟨A3, A3'⟩, ⟨A4, A4'⟩⟩ := hA
  obtain ⟨⟨B0, B0'⟩, ⟨B1, B1'⟩, ⟨B2, B2'⟩, ⟨B3, B3'⟩, ⟨B4, B4'⟩⟩ := hB
  have p00 := bdp A0 A0' B0 B0'
  have p01 := bdp A0 A0' B1 B1'
  have p02 := bdp A0 A0' B2 B2'
  have p03 := bdp A0 A0' B3 B3'
  have p04 := bdp A0 A0' B4 B4'
  have p10 := bdp A1 A1' B0 B0'
  have p11 := bdp A1 A1' B1 B1'
  have p12 := bdp A1 A1' B2 B2'
  have p13 := bdp A1 A1' B3 B3'
  have p14 := bdp A1 A1' B4 B4'
  have p20 := bdp A2 A2' B0 B0'
  have p21 := bdp A2 A2' B1 B1'
  have p22 := bdp A2 A2' B2 B2'
  have p23 := bdp A2 A2' B3 B3'
  have p24 := bdp A2 A2' B4 B4'
  have p30 := bdp A3 A3' B0 B0'
  have p31 := bdp A3 A3' B1 B1'
  have p32 := bdp A3 A3' B2 B2'
  have p33 := bdp A3 A3' B3 B3'
  have p34 := bdp A3 A3' B4 B4'
  have p40 := bdp A4 A4' B0 B0'
  have p41 := bdp A4 A4' B1 B1'
  have p42 := bdp A4 A4' B2 B2'
  have p43 := bdp A4 A4' B3 B3'
  have p44 := bdp A4 A4' B4 B4'
  clear A0 A0' A1 A1' A2 A2' A3 A3' A4 A4' B0 B0' B1 B1' B2 B2' B3 B3' B4 B4' ha hb
  refine ⟨?_, rfl, ?_⟩
  · intro x hx
    simp only [List.mem_cons, List.not_mem_nil, or_false] at hx
    rcases hx with rfl | rfl | rfl | rfl | rfl <;> omega
  · show a0 * b4 + a1 * b3 + a2 * b2 + a3 * b1 + a4 * b0 < _
    omega
theorem co_split : ∀ (l m : List Int) (o : Int), co o (l ++ m) = co (co o l) m
  | [], _, _ => rfl
  | x :: l, m, o => by simp only [List.cons_append, co]; exact co_split l m _
theorem sums_over {a b : List Int} (ha : Lim a) (hb : Lim b) : 0 ≤ co 0 (sums a b) ∧ co 0 (sums a b) < 72057594037927936 := by
  obtain ⟨h1, h2, h3⟩ := sums_bd ha hb
  obtain ⟨s0, s1, s2, s3, s4, hs⟩ := five h2
  rw [hs] at h1 h3 ⊢
  have e : co 0 [s0, s1, s2, s3, s4] = (s4 + co 0 [s0, s1, s2, s3]) / 2251799813685248 := by
    rw [show [s0, s1, s2, s3, s4] = [s0, s1, s2, s3] ++ [s4] from rfl, co_split]
    rfl
  rw [e]
  have hb := co_bd [s0, s1, s2, s3] 0 2305843009213693952 (by decide) (by decide) (fun x hx => by
    have := h1 x (by simp only [List.mem_cons, List.not_mem_nil, or_false] at hx ⊢; rcases hx with h | h | h | h <;> simp [h])
    omega)
  have h4 : s4 < 101412048018258352119736256430080 := by simpa using h3
  have h5 := h1 s4 (by simp)
  omega
theorem prod_el {a b : List Int} (ha : Lim a) (hb : Lim b) : Lim (prod a b) ∧ V (prod a b) % 57896044618658097711785492504343953926634992332820282019728792003956564819949 = (V a * V b) % 57896044618658097711785492504343953926634992332820282019728792003956564819949 := by
  obtain ⟨o0, o1⟩ := sums_over ha hb
  obtain ⟨s1, s2, _⟩ := sums_bd ha hb
  have hv := cy_V (sums a b) 0
  have hlt := cy_lt (sums a b) 0
  have hl := cy_len (sums a b) 0
  rw [s2] at hl hv
  obtain ⟨a0, a1, a2, a3, a4, rfl⟩ := five ha.len
  obtain ⟨b0, b1, b2, b3, b4, rfl⟩ := five hb.len
  have hV := V_sums a0 a1 a2 a3 a4 b0 b1 b2 b3 b4
  unfold prod
  generalize co 0 (sums [a0, a1, a2, a3, a4] [b0, b1, b2, b3, b4]) = o at *
  obtain ⟨c0, c1, c2, c3, c4, hc⟩ := five hl
  rw [hc] at hlt hv ⊢
  simp only [List.mem_cons, List.not_mem_nil, or_false, forall_eq_or_imp, forall_eq] at hlt
  simp only [last, List.getD_cons_zero, List.getD_cons_succ]
  refine ⟨⟨rfl, ?_⟩, ?_⟩
  · intro x hx
    simp only [List.mem_cons, List.not_mem_nil, or_false] at hx
    rcases hx with rfl | rfl | rfl | rfl | rfl <;> omega
  · rw [hV]
    have hr : (2251799813685248 : Int) ^ 5 = 57896044618658097711785492504343953926634992332820282019728792003956564819968 := by decide
    rw [hr] at hv
    have e2 : V [(c0 + 19 * o) % 2251799813685248, c1 + (c0 + 19 * o) / 2251799813685248, c2, c3, c4] = V [c0, c1, c2, c3, c4] + 19 * o := by
      simp only [V_cons]
      omega
    rw [e2]
    generalize V (sums [a0, a1, a2, a3, a4] [b0, b1, b2, b3, b4]) = z at *
    generalize V [c0, c1, c2, c3, c4] = y at *
    generalize a1 * b4 + a2 * b3 + a3 * b2 + a4 * b1 + 2251799813685248 * (a2 * b4 + a3 * b3 + a4 * b2) + 2251799813685248 ^ 2 * (a3 * b4 + a4 * b3) + 2251799813685248 ^ 3 * (a4 * b4) = q
    omega
end Go.Fld
