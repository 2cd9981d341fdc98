import Derived.WalkKit
import Derived.WalkSpells
import Derived.WalkLawsBesides
import Derived.Laws.BitsAllLaws
import Derived.Laws.StructEq
import Derived.Laws.BytesString
import Derived.Deep.WholeRow
import Derived.Deep.MidRow
import Derived.Deep.RegionHeld3
import Derived.Deep.DeepCutAuto
import Derived.Deep.QuietTactic
import Derived.BigQuiet
import Derived.BigFrame
import Derived.Lib.SliceRun
import Derived.Lib.SlBytesConst
import Derived.SizedLaws
import Derived.ProofKit
import Derived.OpenShut
import Derived.ShutString
import Derived.ChangeOld
import Derived.Below
namespace Go.Pin

/-! Numbers of 64 and of 8 digits as bit vectors -/
theorem ofBv64 {a : Int} (h0 : 0 ≤ a) (h1 : a < 18446744073709551616) : ∃ x : BitVec 64, a = (x.toNat : Int) :=
  ⟨BitVec.ofNat 64 a.toNat, by rw [BitVec.toNat_ofNat, Nat.mod_eq_of_lt (by omega)]; omega⟩
theorem ofBv8 {a : Int} (h0 : 0 ≤ a) (h1 : a < 256) : ∃ x : BitVec 8, a = (x.toNat : Int) :=
  ⟨BitVec.ofNat 8 a.toNat, by rw [BitVec.toNat_ofNat, Nat.mod_eq_of_lt (by omega)]; omega⟩
theorem xor64 (x y : BitVec 64) : bits .xor .u64 (x.toNat : Int) (y.toNat : Int) = ((x ^^^ y).toNat : Int) := by
  rw [u64_xor_nat _ _ x.isLt y.isLt, BitVec.toNat_xor]
theorem or64 (x y : BitVec 64) : bits .or .u64 (x.toNat : Int) (y.toNat : Int) = ((x ||| y).toNat : Int) := by
  rw [u64_or_nat _ _ x.isLt y.isLt, BitVec.toNat_or]
theorem and64 (x y : BitVec 64) : bits .and .u64 (x.toNat : Int) (y.toNat : Int) = ((x &&& y).toNat : Int) := by
  rw [u64_and_nat _ _ x.isLt y.isLt, BitVec.toNat_and]
theorem xor8 (x y : BitVec 8) : bits .xor .u8 (x.toNat : Int) (y.toNat : Int) = ((x ^^^ y).toNat : Int) := by
  rw [u8_xor_nat _ _ x.isLt y.isLt, BitVec.toNat_xor]
theorem or8 (x y : BitVec 8) : bits .or .u8 (x.toNat : Int) (y.toNat : Int) = ((x ||| y).toNat : Int) := by
  rw [u8_or_nat _ _ x.isLt y.isLt, BitVec.toNat_or]
theorem and8 (x y : BitVec 8) : bits .and .u8 (x.toNat : Int) (y.toNat : Int) = ((x &&& y).toNat : Int) := by
  rw [u8_and_nat _ _ x.isLt y.isLt, BitVec.toNat_and]
theorem neg64 (x : BitVec 64) : IntKind.u64.wrap (-(x.toNat : Int)) = ((-x).toNat : Int) := by
  rw [IntKind.wrap_u64, BitVec.toNat_neg]
  have := x.isLt
  omega
theorem sub64 (x y : BitVec 64) : IntKind.u64.wrap ((x.toNat : Int) - (y.toNat : Int)) = ((x - y).toNat : Int) := by
  rw [IntKind.wrap_u64, BitVec.toNat_sub]
  have := x.isLt
  have := y.isLt
  omega
theorem max64 : IntKind.u64.max = ((BitVec.allOnes 64).toNat : Int) := by decide
theorem one64 : (1 : Int) = ((1#64 : BitVec 64).toNat : Int) := by decide
theorem top64 (x : BitVec 64) : (x.toNat : Int) / 9223372036854775808 = if x.msb then 1 else 0 := by
  rw [BitVec.msb_eq_decide]
  have := x.isLt
  by_cases h : 2 ^ (64 - 1) ≤ x.toNat
  · simp [h]; omega
  · simp [h]; omega

/-! The document's bits -/
def eqB (a b : Int) : Int := if a = b then 1 else 0
def ltB (a b : Int) : Int := if a < b then 1 else 0
def pickI (s a b : Int) : Int := if s % 2 = 1 then a else b

theorem equal_math (a b : Int) (a0 : 0 ≤ a) (a1 : a < 18446744073709551616) (b0 : 0 ≤ b) (b1 : b < 18446744073709551616) :
    bits .xor .u64 (bits .or .u64 (bits .xor .u64 a b) (IntKind.u64.wrap (-bits .xor .u64 a b)) / 9223372036854775808) 1 = eqB a b := by
  obtain ⟨x, rfl⟩ := ofBv64 a0 a1
  obtain ⟨y, rfl⟩ := ofBv64 b0 b1
  rw [xor64, neg64, or64, top64]
  unfold eqB
  by_cases h : x = y
  · subst h
    simp
    decide
  · have hd : x ^^^ y ≠ 0#64 := by simpa using h
    have hm : ((x ^^^ y) ||| -(x ^^^ y)).msb = true := by
      rw [BitVec.msb_or, BitVec.msb_neg]
      by_cases h2 : x ^^^ y = BitVec.intMin 64
      · rw [h2]; decide
      · generalize x ^^^ y = d at *
        cases hb : d.msb <;> simp [hd, h2]
    have hne : ¬ ((x.toNat : Int) = (y.toNat : Int)) := by
      intro e
      exact h (BitVec.eq_of_toNat_eq (by omega))
    rw [hm, if_neg hne]
    decide

theorem less_math (a b : Int) (a0 : 0 ≤ a) (a1 : a < 18446744073709551616) (b0 : 0 ≤ b) (b1 : b < 18446744073709551616) :
    bits .or .u64 (bits .and .u64 (bits .xor .u64 IntKind.u64.max a) b) (bits .and .u64 (bits .xor .u64 IntKind.u64.max (bits .xor .u64 a b)) (IntKind.u64.wrap (a - b))) / 9223372036854775808 = ltB a b := by
  obtain ⟨x, rfl⟩ := ofBv64 a0 a1
  obtain ⟨y, rfl⟩ := ofBv64 b0 b1
  rw [max64, xor64, xor64, xor64, sub64, and64, and64, or64, top64]
  unfold ltB
  have hx := x.isLt
  have hy := y.isLt
  have h1 : ((BitVec.allOnes 64 ^^^ x) &&& y ||| (BitVec.allOnes 64 ^^^ (x ^^^ y)) &&& (x - y)).msb = ((!x.msb && y.msb) || (!(x.msb ^^ y.msb) && (x - y).msb)) := by
    have ho : (BitVec.allOnes 64).msb = true := by decide
    rw [BitVec.msb_or, BitVec.msb_and, BitVec.msb_and, BitVec.msb_xor, BitVec.msb_xor, BitVec.msb_xor, ho]
    simp
  rw [h1, BitVec.msb_eq_decide, BitVec.msb_eq_decide, BitVec.msb_eq_decide, BitVec.toNat_sub]
  by_cases hx1 : 2 ^ (64 - 1) ≤ x.toNat <;> by_cases hy1 : 2 ^ (64 - 1) ≤ y.toNat <;> by_cases hlt : x.toNat < y.toNat
  all_goals (
    have hlt' : ((x.toNat : Int) < (y.toNat : Int)) = (x.toNat < y.toNat) := by simp
    simp only [hlt', hlt, hx1, hy1]
    simp
    try omega)

theorem pick_math (s a b : Int) (s0 : 0 ≤ s) (s1 : s < 18446744073709551616) (a0 : 0 ≤ a) (a1 : a < 18446744073709551616) (b0 : 0 ≤ b) (b1 : b < 18446744073709551616) :
    bits .xor .u64 b (bits .and .u64 (IntKind.u64.wrap (-bits .and .u64 s 1)) (bits .xor .u64 a b)) = pickI s a b := by
  obtain ⟨x, rfl⟩ := ofBv64 a0 a1
  obtain ⟨y, rfl⟩ := ofBv64 b0 b1
  obtain ⟨z, rfl⟩ := ofBv64 s0 s1
  have hz : bits .and .u64 (z.toNat : Int) 1 = ((z.toNat % 2 : Nat) : Int) := by
    have := u64_and_nat z.toNat 1 z.isLt (by decide)
    rw [nat_mask1] at this
    exact this
  unfold pickI
  rcases Nat.mod_two_eq_zero_or_one z.toNat with h | h
  · have h' : ¬ ((z.toNat : Int) % 2 = 1) := by omega
    rw [hz, h, if_neg h', xor64, show IntKind.u64.wrap (-((0 : Nat) : Int)) = ((0#64).toNat : Int) by decide, and64, xor64]
    simp
  · have h' : ((z.toNat : Int) % 2 = 1) := by omega
    rw [hz, h, if_pos h', xor64, show IntKind.u64.wrap (-((1 : Nat) : Int)) = ((BitVec.allOnes 64).toNat : Int) by decide, and64, xor64]
    rw [BitVec.allOnes_and, BitVec.xor_comm x y, ← BitVec.xor_assoc]
    simp

/-! Rows of numbers -/
def VI (k : IntKind) (l : List Int) : Array Value := (l.map (Value.int k)).toArray
@[simp] theorem VI_size (k : IntKind) (l : List Int) : (VI k l).size = l.length := by simp [VI]
theorem VI_at (k : IntKind) (l : List Int) (i : Nat) (h : i < l.length) : (VI k l)[i]? = some (.int k (l.getD i 0)) := by
  simp [VI, h, List.getD]
@[go_sem] theorem VI_get (k : IntKind) (l : List Int) (i : Nat) (h : i < (VI k l).size) : (VI k l)[i] = .int k (l[i]?.getD 0) := by
  have h' : i < l.length := by simpa using h
  simp [VI, h']
theorem heap_alloc_any (w : World) (o : Obj) (i : Nat) : (w.alloc o).heap[i]? = if i = w.heap.size then some o else w.heap[i]? := by
  show (w.heap.push o)[i]? = _
  rw [Array.getElem?_push]
theorem size_alloc (w : World) (o : Obj) : (w.alloc o).heap.size = w.heap.size + 1 := by
  show (w.heap.push o).size = _
  simp
theorem heap3_0 (w : World) (A B C : Obj) : (((w.alloc A).alloc B).alloc C).heap[w.heap.size]? = some A := by
  simp only [heap_alloc_any, size_alloc]
  rw [if_neg (by omega), if_neg (by omega), if_pos trivial]
theorem heap3_1 (w : World) (A B C : Obj) : (((w.alloc A).alloc B).alloc C).heap[w.heap.size + 1]? = some B := by
  simp only [heap_alloc_any, size_alloc]
  rw [if_neg (by omega), if_pos (by trivial)]
theorem heap3_2 (w : World) (A B C : Obj) : (((w.alloc A).alloc B).alloc C).heap[w.heap.size + 2]? = some C := by
  simp only [heap_alloc_any, size_alloc]
  rw [if_pos (by trivial)]
theorem VI_one (k : IntKind) (l : List Int) : (VI k l).all (·.oneCell') = true := by
  apply Array.all_eq_true_iff_forall_mem.2
  intro v hv
  simp only [VI, List.mem_toArray, List.mem_map] at hv
  obtain ⟨n, _, rfl⟩ := hv
  rfl
theorem VI_set (k : IntKind) (l : List Int) (i : Nat) (v : Int) : (VI k l).setIfInBounds i (.int k v) = VI k (l.set i v) := by
  simp [VI, List.map_set]
theorem VI_inj {k : IntKind} {l m : List Int} (h : VI k l = VI k m) : l = m := by
  have h2 : l.map (Value.int k) = m.map (Value.int k) := by simpa [VI] using h
  exact (List.map_inj_right (fun a b e => by injection e)).1 h2

section
variable {P : Program}
theorem run_index_row (w : World) (t e : TypeId) (k kk : IntKind) (n : Nat) (l : List Int) (i : Nat) (hl : l.length = n) (hi : i < n)
    (ht : P.underlying t = some (.array n e)) (he : P.underlying e = some (.int k)) (hs : ∀ w, (sizeOf e).run P w = .ok 1 w) :
    (Instr.index t (.agg (VI k l)) (.int kk (i : Int))).run P w = .ok (.int k (l.getD i 0)) w := by
  subst hl
  have h1 : (0 : Int) ≤ (i : Int) ∧ (i : Int) < ((l.length : Nat) : Int) := by omega
  simp [Instr.index, run_underlying ht, asIntOf, hi, go_sem, hs, part, isAgg, run_underlying he]

theorem run_equalIn_row (w : World) (d : Nat) (t e : TypeId) (k : IntKind) (n : Nat) (xs ys : List Int) (hx : xs.length = n) (hy : ys.length = n)
    (ht : P.underlying t = some (.array n e)) (he : P.underlying e = some (.int k)) (hsz : ∀ w, (sizeOf e).run P w = .ok 1 w) :
    (Op.equalIn (d + 2) t (.agg (VI k xs)) (.agg (VI k ys))).run P w = .ok (xs == ys) w := by
  have hall : ∀ (xs ys : List Int), xs.length = ys.length → ((List.range xs.length).all fun i => xs.getD i 0 == ys.getD i 0) = (xs == ys) := by
    intro xs
    induction xs with
    | nil => intro ys h; cases ys with | nil => rfl | cons _ _ => simp at h
    | cons x xs ih =>
      intro ys h
      cases ys with
      | nil => simp at h
      | cons y ys =>
        have ih' := ih ys (by simpa using h)
        rw [List.length_cons, List.range_succ_eq_map, List.all_cons, List.all_map]
        simp only [List.getD_cons_zero, Function.comp_def, List.getD_cons_succ, ih']
        simp [List.cons_beq_cons]
  rw [← hall xs ys (hx.trans hy.symm), hx, List.range_eq_range', Op.equalIn]
  simp only [Sem.run_bind, run_underlying ht, Result.andThen_ok, hsz, Std.Legacy.Range.forIn_eq_forIn_range', Std.Legacy.Range.size, Nat.sub_zero, Nat.add_sub_cancel, Nat.div_one]
  have hl : ∀ i ∈ List.range' 0 n 1, i < n := fun i hi => by simpa using (List.mem_range'_1.1 hi).2
  generalize List.range' 0 n 1 = l at hl ⊢
  induction l with
  | nil => simp
  | cons i l ih =>
    have hi : i < n := hl i (by simp)
    have px : (part e (VI k xs) (i * 1)).run P w = .ok (.int k (xs.getD i 0)) w := by
      have := VI_at k xs i (by omega)
      simp only [part, isAgg, Sem.run_bind, run_underlying he, Result.andThen_ok, Nat.mul_one, this]
      simp
    have py : (part e (VI k ys) (i * 1)).run P w = .ok (.int k (ys.getD i 0)) w := by
      have := VI_at k ys i (by omega)
      simp only [part, isAgg, Sem.run_bind, run_underlying he, Result.andThen_ok, Nat.mul_one, this]
      simp
    have pe : (Op.equalIn (d + 1) e (.int k (xs.getD i 0)) (.int k (ys.getD i 0))).run P w = .ok (xs.getD i 0 == ys.getD i 0) w :=
      run_equalIn_int w d e k k _ _ he
    simp only [List.forIn_cons, Sem.run_bind, px, py, pe, Result.andThen_ok, List.all_cons]
    cases hb : (xs.getD i 0 == ys.getD i 0)
    · simp
    · simp only [Bool.not_true, Bool.false_eq_true, if_false, Sem.run_pure, Result.andThen_ok, Bool.true_and]
      exact ih fun j hj => hl j (by simp [hj])
end
open Go.ChangeShapes Go.WideShapes Go.ChangeAt Go.RowKit
theorem ret_int {k : IntKind} {a b : Int} (h : a = b) : Ending.returned (.int k a) = .returned (.int k b) := by rw [h]
theorem set_step (a b : List Int) (k : Nat) (h1 : k < a.length) (h2 : k < b.length) : (a.take k ++ b.drop k).set k a[k] = a.take (k + 1) ++ b.drop (k + 1) := by
  rw [List.take_succ_eq_append_getElem h1, List.set_append_right _ _ (by simp; omega)]
  rw [List.length_take, Nat.min_eq_left (show k ≤ a.length by omega), Nat.sub_self, List.drop_eq_getElem_cons h2, List.set_cons_zero, List.append_assoc]
  rfl
theorem get_step (a b : List Int) (k : Nat) (h1 : k < a.length) (h2 : k < b.length) : (a.take k ++ b.drop k)[k]?.getD 0 = b[k] := by
  rw [List.getElem?_append_right (by simp; omega)]
  simp [Nat.min_eq_left (show k ≤ a.length by omega), h2]
/-- all but the blocks of S is as it was -/
structure But (S : Nat → Prop) (w w' : World) : Prop where
  os : w'.os = w.os
  tape : w'.tape = w.tape
  output : w'.output = w.output
  size : w'.heap.size = w.heap.size
  block : ∀ k, ¬ S k → w'.heap[k]? = w.heap[k]?
theorem But.refl (S : Nat → Prop) (w : World) : But S w w := ⟨rfl, rfl, rfl, rfl, fun _ _ => rfl⟩
theorem But.drew {S : Nat → Prop} {a w : World} (h : But S a w) : But S a w.drew := ⟨h.os, h.tape, h.output, h.size, h.block⟩
theorem But.setCell {S : Nat → Prop} {a w : World} (h : But S a w) {p : Addr} (hp : S p.block) (u : Value) : But S a (w.setCell p u) :=
  ⟨h.os, h.tape, h.output, by rw [← h.size]; simp [World.setCell], fun k hk => by rw [heap_setCell_other _ _ _ _ (fun e => hk (by rw [e]; exact hp))]; exact h.block k hk⟩
theorem But.below {S : Nat → Prop} {w w' : World} (h : But S w w') {B : Nat} (hS : ∀ k, S k → B ≤ k) : Below B w w' :=
  ⟨h.os, h.tape, h.output, by rw [h.size]; exact Nat.le_refl _, fun k hk => h.block k (fun hs => by have := hS k hs; omega)⟩
theorem but_setCells (b : Nat) : ∀ (vs : List Value) (o : Nat) (w : World), But (fun k => k = b) w (w.setCells b o vs)
  | [], _, w => But.refl _ w
  | v :: r, o, w => by
    rw [World.setCells]
    have h1 := (But.refl (fun k => k = b) w).setCell (p := ⟨b, o, none⟩) rfl v
    have h2 := but_setCells b r (o + 1) (w.setCell ⟨b, o, none⟩ v)
    exact ⟨h2.os.trans h1.os, h2.tape.trans h1.tape, h2.output.trans h1.output, h2.size.trans h1.size, fun k hk => (h2.block k hk).trans (h1.block k hk)⟩
theorem below_setRow {B : Nat} {a w : World} (h : Below B a w) (g : Nat) (hg : B ≤ g) (cs : Array Value) : Below B a (w.setRow g cs) :=
  ⟨h.os, h.tape, h.output, by rw [size_setRow]; exact h.size, fun k hk => by rw [setRow_other w g k cs (by omega)]; exact h.block k hk⟩
theorem load_row_w {P : Program} {ops : Array Oper} {rest : List Oper} {o : Oper} {a : Act} {w : World} {Q : Exit → Act → World → Prop} (hw : Region.wanted o (yielded ops a.tmps) = true) (ty : TypeId) (x : Operand) (ho : o.op = .load ty x)
    (g : Nat) (hx : a.eval x = .pointer (some ⟨g, 0, none⟩)) (t : TypeId) (cs : Array Value) (fr : Nat × Nat) (d : TypeDesc) (hg : w.heap[g]? = some (.cells cs t fr))
    (hu : P.underlying ty = some d) (hd : (match d with | .struct _ | .array _ _ => true | _ => false) = true) (hi : (P.info? ty).map (·.size) = some cs.size)
    (h : wpList P ops Q rest (a.put o.dst (.agg cs)) w) : wpList P ops Q (o :: rest) a w :=
  BigFrame.wpList_want hw fun _ hK => wp_load_row ty x ho g hx t cs fr d hg hu hd hi (hK _ _ h)
theorem store_row_new {P : Program} {ops : Array Oper} {rest : List Oper} {o : Oper} {a : Act} {w : World} {Q : Exit → Act → World → Prop} (hgd : o.guard = none) (ty : TypeId) (x y : Operand) (ho : o.op = .store ty x y)
    (g : Nat) (cells : Array Value) (hx : a.eval x = .pointer (some ⟨g, 0, none⟩)) (hg : g = w.heap.size) (hy : a.eval y = .agg cells)
    (t : TypeId) (old : Array Value) (hi : (P.info? ty).map (·.size) = some cells.size)
    (hold : old.size = cells.size) (h1 : cells.all (·.oneCell') = true)
    (h : wpList P ops Q rest (a.put o.dst undef) (w.alloc (.cells cells t))) : wpList P ops Q (o :: rest) a (w.alloc (.cells old t)) := by
  subst hg
  refine wpList_store_row hgd ty x y ho _ cells hx hy t old (heap_alloc_new w _) hi hold h1 ?_
  rw [World.setRow_alloc_new]
  exact h
theorem at_list {P : Program} {ops : Array Oper} {rest : List Oper} {o : Oper} {a : Act} {w : World} {Q : Exit → Act → World → Prop} (h : wpList P ops Q (o :: rest) a w) : wpList P ops Q (o :: rest) a w := h
theorem load_at {P : Program} {ops : Array Oper} {rest : List Oper} {o : Oper} {a : Act} {w : World} {Q : Exit → Act → World → Prop} (ty : TypeId) (x : Operand) (ho : o.op = .load ty x) (hw : Region.wanted o (yielded ops a.tmps) = true)
    (g : Nat) (hx : a.eval x = .pointer (some ⟨g, 0, none⟩)) (t : TypeId) (cs : Array Value) (fr : Nat × Nat) (d : TypeDesc) (hg : w.heap[g]? = some (.cells cs t fr))
    (hu : P.underlying ty = some d) (hd : (match d with | .struct _ | .array _ _ => true | _ => false) = true) (hi : (P.info? ty).map (·.size) = some cs.size)
    (h : wpList P ops Q rest (a.put o.dst (.agg cs)) w) : wpList P ops Q (o :: rest) a w :=
  load_row_w hw ty x ho g hx t cs fr d hg hu hd hi h
theorem hold_store {P : Program} {ops : Array Oper} {rest : List Oper} {o : Oper} {a : Act} {w : World} {Q : Exit → Act → World → Prop} (ty : TypeId) (x y : Operand) (_ : o.op = .store ty x y) (h : Hid (wpList P ops Q (o :: rest) a w)) : wpList P ops Q (o :: rest) a w := h
theorem yieldsIf_load_row {P : Program} {ops : Array Oper} {S : World → Prop} {op : Oper} {a : Act} (hw : Region.wanted op (yielded ops a.tmps) = true) (ty : TypeId) (x : Operand) (ho : op.op = .load ty x)
    (g : Nat) (hx : a.eval x = .pointer (some ⟨g, 0, none⟩)) (t : TypeId) (cs : Array Value) (fr : Nat × Nat) (d : TypeDesc) (hS : ∀ w, S w → w.heap[g]? = some (.cells cs t fr))
    (hu : P.underlying ty = some d) (hd : (match d with | .struct _ | .array _ _ => true | _ => false) = true) (hi : (P.info? ty).map (·.size) = some cs.size) : YieldsIf P ops S op (.agg cs) a :=
  .inl ⟨hw, fun w hw' => by
    unfold execOp
    simp only [ho, hx, Instr.loadAt, Instr.sureAddr, Sem.run_bind, Sem.run_pure, Result.andThen_ok, run_loadVar_row w g t ty cs fr d (hS w hw') hu hd hi]⟩
theorem add_mid (b o j : Nat) : (⟨b, o, none⟩ : Addr).add j = ⟨b, o + j, none⟩ := by unfold Addr.add; split <;> simp_all
theorem below_drewN' {B : Nat} {a w : World} (h : Below B a w) (n : Nat) : Below B a (w.drewN n) := ⟨h.os, h.tape, h.output, h.size, h.block⟩
theorem range_row {W : World} {b : Nat} {cs : Array Value} {t : TypeId} {fr : Nat × Nat} (h : W.heap[b]? = some (.cells cs t fr)) (ks : List Value) (hk : ks.toArray = cs) : W.rangeAt b 0 ks := fun j v hv => by
  rw [cell_of_row W b (0 + j) cs t fr h, ← hk, Nat.zero_add]
  simpa using hv
/-- a slice of numbers that came in -/
def IsRow (k : IntKind) (w : World) (a : Option Addr) (len cap : Nat) (zs : List Int) : Prop :=
  (a = none ∧ len = 0 ∧ cap = 0 ∧ zs = []) ∨
  ∃ x, a = some x ∧ len ≤ cap ∧ cap ≤ maxLen ∧ zs.length = cap ∧ (∀ i, i < zs.length → w.cell? (x.add i) = some (.int k (zs.getD i 0))) ∧ ∀ n ∈ zs, (Lit.int k n).wf = true
theorem open_isRow {H : Type} {enc : TypeId × Value → H} {P : Program} {ts : List TypeId} {ds : List (DataW H)} {W : World} {j : Nat} {t e : TypeId} {k : IntKind} {a : Option Addr} {len cap : Nat} {d : DataW H} {p : List MemPlace}
    (ht : P.underlying t = some (.slice e)) (he : P.underlying e = some (.int k)) (hce : P.cellsOf e = 1) (hsz : (DataW.weightsEach P ts ds).all (· ≤ reachBytes) = true) (htj : ts[j]? = some t) (hdj : ds[j]? = some d)
    (h : DataW.Trod enc P W 0 (fun _ => true) true t (.slice a len cap) d p) : ∃ zs, IsRow k W a len cap zs ∧ cap * P.bytesOf e ≤ reachBytes := by
  obtain ⟨fuel, hf⟩ := h
  rcases open_ints ht he hce hf with ⟨hcs, _⟩ | ⟨x, l, c, zs, hcs, _, hl, hm, hz, hx, hcell, hwz⟩
  · simp [Value.cells] at hcs
    obtain ⟨rfl, rfl, rfl⟩ := hcs
    exact ⟨[], .inl ⟨rfl, rfl, rfl, rfl⟩, by simp⟩
  · simp [Value.cells] at hcs
    obtain ⟨rfl, rfl, rfl⟩ := hcs
    have hz' : zs.length = cap := by simpa using hz
    refine ⟨zs, .inr ⟨_, rfl, hl, hm, hz', hcell, hwz⟩, ?_⟩
    simp only [Prod.mk.injEq] at hx
    obtain ⟨rfl, _⟩ := hx
    have := sized_slice hsz htj hdj ht
    simp only [lits, List.length_map, List.length_take, List.length_drop] at this
    rw [show min len zs.length + (zs.length - len) = cap by omega] at this
    exact this

section
variable {H : Type} {enc : TypeId × Value → H} {P : Program}

/-- Every argument reads behind the call as it read before, where nothing that was there has turned. -/
theorem trodAll_below (hl : laidOutB P = true) {W W' : World} (hb : Below W.heap.size W W') :
    ∀ (ts : List TypeId) (vs : List Value) (ds : List (DataW H)) (p : List MemPlace), (ts.all fun t => P.readableRec t && decide (t < P.types.size)) = true →
      DataW.TrodAll enc P W 0 (fun _ => true) true ts vs ds p → DataW.TrodAll enc P W' 0 (fun b => decide (b < W.heap.size)) true ts vs ds p
  | [], [], [], _, _, h => h
  | t :: ts, v :: vs, d :: ds, _, hok, h => by
    obtain ⟨p, q, h1, h2, h3⟩ := h
    rw [List.all_cons, Bool.and_eq_true, Bool.and_eq_true] at hok
    obtain ⟨⟨a1, a2⟩, a3⟩ := hok
    refine ⟨p, q, Below.trod hl a1 (of_decide_eq_true a2) h1 hb ?_, trodAll_below hl hb ts vs ds q a3 h2, h3⟩
    obtain ⟨m, hm⟩ := h1
    exact DataW.trod_lt m _ _ _ hm
  | [], _ :: _, _, _, _, h => h.elim
  | [], [], _ :: _, _, _, h => h.elim
  | _ :: _, [], _, _, _, h => h.elim
  | _ :: _, _ :: _, [], _, _, h => h.elim

theorem okWide_array {t e : TypeId} {n : Nat} {w : World} {r : Reach} {base : Nat} {v : Value} (ht : P.underlying t = some (.array n e)) (h : Value.okWide P w r base t v) : ∃ cs, v = .agg cs ∧ cs.size = P.cellsOf t := by
  simp only [Value.okWide, ht] at h
  obtain ⟨cs, h1, h2, _⟩ := h
  exact ⟨cs, h1, h2⟩

/-- An argument that is an array of numbers, opened. -/
theorem open_row {w : World} {base b0 : Nat} {spare : Nat → Bool} {held : Bool} {r : Reach} {t e : TypeId} {n : Nat} {k : IntKind} {v : Value} {d : DataW H} {p : List MemPlace} (ht : P.underlying t = some (.array n e)) (he : P.underlying e = some (.int k))
    (hce : P.cellsOf e = 1) (hct : P.cellsOf t = n) (hv : Value.okWide P w r b0 t v) (h : DataW.Trod enc P w base spare held t v d p) :
    ∃ l : List Int, v = .agg (VI k l) ∧ l.length = n ∧ ∀ x ∈ l, (Lit.int k x).wf = true := by
  obtain ⟨cs, rfl, hsz⟩ := okWide_array ht hv
  obtain ⟨fuel, hf⟩ := h
  obtain ⟨xs, m, _, _, hlen, hxl, hall⟩ := DataW.trod_array ht hf
  have key : ∀ i, i < n → ∃ x, cs[i]? = some (.int k x) ∧ (Lit.int k x).wf = true := by
    intro i hi
    have h1 := hall i hi
    rw [List.getElem?_eq_getElem (by omega)] at h1
    obtain ⟨x, hx, _, hw⟩ := DataW.trod_int he h1
    refine ⟨x, ?_, hw⟩
    rw [hce, Nat.mul_one] at hx
    have h3 := congrArg (fun z => z[0]?) hx
    simp [Value.cells] at h3
    exact h3
  have hcs : cs.size = n := hsz.trans hct
  refine ⟨(List.range n).map (fun i : Nat => intOf (cs[i]?.getD .nilIface)), ?_, by simp, ?_⟩
  · congr 1
    apply Array.ext_getElem?
    intro i
    by_cases hi : i < n
    · obtain ⟨x, hx, _⟩ := key i hi
      rw [hx]
      simp [VI, hi, hx, intOf]
    · rw [Array.getElem?_eq_none (by omega), Array.getElem?_eq_none (by simp [VI]; omega)]
  · intro x hx
    rw [List.mem_map] at hx
    obtain ⟨i, hi, rfl⟩ := hx
    obtain ⟨x, hx, hw⟩ := key i (by simpa using hi)
    rw [hx]
    exact hw
end
end Go.Pin
