import Derived.Test.YtgfamcadgahiiabPrmV
import Derived.Test.YtgfamcadgahiiabChecked
namespace Go.Proofs.Ytgfamcadgahiiab
set_option linter.unusedSimpArgs false
open Go.ChangeShapes Go.WideShapes Go.ChangeAt Go.RowKit Go.Pin Go.Prm
theorem own : ownKnob Try.prog.godebug = none := by kernel_rfl
theorem laidOut : laidOutB Try.prog = true := by kernel_rfl
theorem key17_of {l : List Int} (hl : l.length = 17) (h : ∀ x ∈ l, (Lit.int .u8 x).wf = true) : Key17 l := ⟨hl, fun x hx => by
  have := bounds_u8 (h x hx)
  omega⟩
theorem key16_of {l : List Int} (hl : l.length = 16) (h : ∀ x ∈ l, (Lit.int .u8 x).wf = true) : Key16 l := ⟨hl, fun x hx => by
  have := bounds_u8 (h x hx)
  omega⟩
theorem wp_region_quiet_in {P : Program} {C : World → Prop} {id : Nat} {Q : Exit → Act → World → Prop} {a : Act} {w : World} {l : List Oper} (hm : P.follows .mixedOrders = true) (hB : Region.lexB .any l.toArray = true) (hC : C w.drew)
    (h : wpQuiet P l.toArray C (fun a' => ∀ w', C w' → Q .normal a' w') l a) : (Code.region id l.toArray true).wp P Q a w :=
  wp_region_quiet (C := C) hm hB hC (by simpa using h)
theorem if_pos_mpr {c : Prop} [Decidable c] {a b : Prop} (hc : c) (h : a) : if c then a else b := by rw [if_pos hc]; exact h
theorem quietAt_load_row {P : Program} {C : World → Prop} {o : Oper} {a : Act} {Y : World} (ty : TypeId) (x : Operand) (ho : o.op = .load ty x) (g : Nat) (hx : a.eval x = .pointer (some ⟨g, 0, none⟩)) (t : TypeId) (cs : Array Value) (fr : Nat × Nat) (d : TypeDesc) (hg : Y.heap[g]? = some (.cells cs t fr))
    (hu : P.underlying ty = some d) (hd : (match d with | .struct _ | .array _ _ => true | _ => false) = true) (hi : (P.info? ty).map (·.size) = some cs.size) : o.quietAt P a C Y (.agg cs) := by
  unfold Oper.quietAt execOp
  simp only [ho, hx, Instr.loadAt, Instr.sureAddr, Sem.run_bind, Sem.run_pure, Result.andThen_ok, run_loadVar_row Y g t ty cs fr d hg hu hd hi]
  exact ⟨rfl, rfl⟩
/-- boxes, all above what lay there -/
structure Bx (w0 : World) (bx : List (Nat × Obj)) (W : World) : Prop where
  old : Below w0.heap.size w0 W
  rows : ∀ p ∈ bx, W.heap[p.1]? = some p.2
  ge : ∀ p ∈ bx, w0.heap.size ≤ p.1
theorem Bx.refl (w : World) : Bx w [] w := ⟨Below.refl _ _, by simp, by simp⟩
theorem Bx.below {w0 W W' : World} {bx : List (Nat × Obj)} (h : Bx w0 bx W) (hb : Below W.heap.size W W') : Bx w0 bx W' :=
  ⟨h.old.trans (hb.mono h.old.size), fun p hp => (hb.block _ (heap_lt (h.rows p hp))).trans (h.rows p hp), h.ge⟩
theorem Bx.drew {w0 W : World} {bx : List (Nat × Obj)} (h : Bx w0 bx W) : Bx w0 bx W.drew := ⟨h.old.drew, h.rows, h.ge⟩
theorem Bx.new {w0 W : World} {bx : List (Nat × Obj)} (h : Bx w0 bx W) (x : Obj) : Bx w0 ((W.heap.size, x) :: bx) (W.alloc x) := by
  have hb := h.below ((Below.refl _ _).alloc (Nat.le_refl _) x)
  refine ⟨hb.old, fun p hp => ?_, fun p hp => ?_⟩
  · rcases List.mem_cons.1 hp with rfl | hp
    · simp only [heap_alloc_any, if_true]
    · exact hb.rows p hp
  · rcases List.mem_cons.1 hp with rfl | hp
    · exact h.old.size
    · exact h.ge p hp
theorem Bx.row {w0 W : World} {bx : List (Nat × Obj)} (h : Bx w0 bx W) {g : Nat} {x : Obj} (hp : (g, x) ∈ bx) : W.heap[g]? = some x := h.rows _ hp
theorem Bx.lt {w0 W : World} {bx : List (Nat × Obj)} (h : Bx w0 bx W) {g : Nat} {x : Obj} (hp : (g, x) ∈ bx) : g < W.heap.size := heap_lt (h.row hp)
theorem bx1 (w : World) (x : Obj) : Bx w [(w.heap.size, x)] (w.alloc x) := (Bx.refl w).new x
theorem bx2 (w : World) (x y : Obj) : Bx w [(w.heap.size + 1, y), (w.heap.size, x)] ((w.alloc x).alloc y) := by
  have := ((Bx.refl w).new x).new y
  rw [size_alloc] at this
  exact this
theorem bx3 (w : World) (x y z : Obj) : Bx w [(w.heap.size + 2, z), (w.heap.size + 1, y), (w.heap.size, x)] (((w.alloc x).alloc y).alloc z) := by
  have := (((Bx.refl w).new x).new y).new z
  rw [size_alloc, size_alloc] at this
  exact this
theorem block_f {b : List Int} (hb : Key17 b) : ∃ x0 x1 x2 x3 x4, Lim [x0, x1, x2, x3, x4] ∧ num [x0, x1, x2, x3, x4] = nb b % P ∧ Hid (∀ w, Calls Try.prog 32 #[.agg (VI .u8 b)] w fun e w' => e = .returned (.agg #[.int .u64 x0, .int .u64 x1, .int .u64 x2, .int .u64 x3, .int .u64 x4]) ∧ Below w.heap.size w w') := by
  have hl := blk_lim hb.bd
  have hn := num_blk hb.bd
  have hc := fun w => block_any b hb w
  obtain ⟨x0, x1, x2, x3, x4, e⟩ := five hl.len
  rw [e] at hl hn hc
  exact ⟨x0, x1, x2, x3, x4, hl, hn, hc⟩
theorem clamp_f {k : List Int} (hk : Key16 k) : ∃ x0 x1 x2 x3 x4, Lim [x0, x1, x2, x3, x4] ∧ num [x0, x1, x2, x3, x4] = nb (clp k ++ [0]) % P ∧ Hid (∀ w, Calls Try.prog 24 #[.agg (VI .u8 k)] w fun e w' => e = .returned (.agg #[.int .u64 x0, .int .u64 x1, .int .u64 x2, .int .u64 x3, .int .u64 x4]) ∧ Below w.heap.size w w') := by
  have hp := pad17 (clp_key hk.len hk.bd).1 (clp_key hk.len hk.bd).2
  have hl := blk_lim hp.bd
  have hn := num_blk hp.bd
  have hc := fun w => clamp_any k hk w
  obtain ⟨x0, x1, x2, x3, x4, e⟩ := five hl.len
  rw [e] at hl hn hc
  exact ⟨x0, x1, x2, x3, x4, hl, hn, hc⟩
theorem add_f {a0 a1 a2 a3 a4 b0 b1 b2 b3 b4 : Int} (ha : Lim [a0, a1, a2, a3, a4]) (hb : Lim [b0, b1, b2, b3, b4]) : ∃ x0 x1 x2 x3 x4, Lim [x0, x1, x2, x3, x4] ∧ num [x0, x1, x2, x3, x4] = (num [a0, a1, a2, a3, a4] + num [b0, b1, b2, b3, b4]) % P ∧ Hid (∀ w, Calls Try.prog 35 #[.pointer none, .agg #[.int .u64 a0, .int .u64 a1, .int .u64 a2, .int .u64 a3, .int .u64 a4], .agg #[.int .u64 b0, .int .u64 b1, .int .u64 b2, .int .u64 b3, .int .u64 b4]] w fun e w' => e = .returned (.agg #[.int .u64 x0, .int .u64 x1, .int .u64 x2, .int .u64 x3, .int .u64 x4]) ∧ Below w.heap.size w w') := by
  have hl := add_lim ha hb
  have hn := num_add ha hb
  have hc := fun w => (add_any (.pointer none) [a0, a1, a2, a3, a4] [b0, b1, b2, b3, b4] ha hb w _ (opc_nil _ w)).mono fun e w' hh => (⟨hh.1, hh.2.nil⟩ : _ ∧ Below w.heap.size w w')
  obtain ⟨x0, x1, x2, x3, x4, e⟩ := five hl.len
  rw [e] at hl hn hc
  exact ⟨x0, x1, x2, x3, x4, hl, hn, hc⟩
theorem mul_f {a0 a1 a2 a3 a4 b0 b1 b2 b3 b4 : Int} (ha : Lim [a0, a1, a2, a3, a4]) (hb : Lim [b0, b1, b2, b3, b4]) : ∃ x0 x1 x2 x3 x4, Lim [x0, x1, x2, x3, x4] ∧ num [x0, x1, x2, x3, x4] = num [a0, a1, a2, a3, a4] * num [b0, b1, b2, b3, b4] % P ∧ Hid (∀ w, Calls Try.prog 34 #[.pointer none, .agg #[.int .u64 a0, .int .u64 a1, .int .u64 a2, .int .u64 a3, .int .u64 a4], .agg #[.int .u64 b0, .int .u64 b1, .int .u64 b2, .int .u64 b3, .int .u64 b4]] w fun e w' => e = .returned (.agg #[.int .u64 x0, .int .u64 x1, .int .u64 x2, .int .u64 x3, .int .u64 x4]) ∧ Below w.heap.size w w') := by
  have hl := prod_lim ha hb
  have hn := num_prod ha hb
  have hc := fun w => (mul_any (.pointer none) [a0, a1, a2, a3, a4] [b0, b1, b2, b3, b4] ha hb w _ (opc_nil _ w)).mono fun e w' hh => (⟨hh.1, hh.2.nil⟩ : _ ∧ Below w.heap.size w w')
  obtain ⟨x0, x1, x2, x3, x4, e⟩ := five hl.len
  rw [e] at hl hn hc
  exact ⟨x0, x1, x2, x3, x4, hl, hn, hc⟩
theorem bytes_f {a0 a1 a2 a3 a4 : Int} (ha : Lim [a0, a1, a2, a3, a4]) {b : List Int} (h : bts (num [a0, a1, a2, a3, a4]) = b) : Hid (∀ w, Calls Try.prog 36 #[.agg #[.int .u64 a0, .int .u64 a1, .int .u64 a2, .int .u64 a3, .int .u64 a4]] w fun e w' => e = .returned (.agg (VI .u8 b)) ∧ Below w.heap.size w w') := fun w => bytes_is ha h w
theorem sum_f {a0 a1 a2 a3 a4 : Int} (ha : Lim [a0, a1, a2, a3, a4]) {s b : List Int} (hs : Key16 s) (h : smt (bts (num [a0, a1, a2, a3, a4])) s = b) : Hid (∀ w, Calls Try.prog 28 #[.agg #[.int .u64 a0, .int .u64 a1, .int .u64 a2, .int .u64 a3, .int .u64 a4], .agg (VI .u8 s)] w fun e w' => e = .returned (.agg (VI .u8 b)) ∧ Below w.heap.size w w') := fun w => sum_is ha hs h w
end Go.Proofs.Ytgfamcadgahiiab
