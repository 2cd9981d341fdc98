import Derived.Test.YtlffamcifahbjabFldV
namespace Go.Proofs.Ytlffamcifahbjab
set_option linter.unusedSimpArgs false
open Go.ChangeShapes Go.WideShapes Go.ChangeAt Go.RowKit Go.Pin Go.Fld
theorem wp_region_quiet_in {P : Program} {C : World → Prop} {id : Nat} {Q : Exit → Act → World → Prop} {a : Act} {w : World} {l : List Oper} (hm : P.follows .mixedOrders = true) (hB : Region.lexB .any l.toArray = true) (hC : C w.drew)
    (h : wpQuiet P l.toArray C (fun a' => ∀ w', C w' → Q .normal a' w') l a) : (Code.region id l.toArray true).wp P Q a w :=
  wp_region_quiet (C := C) hm hB hC (by simpa using h)
theorem if_pos_mpr {c : Prop} [Decidable c] {a b : Prop} (hc : c) (h : a) : if c then a else b := by rw [if_pos hc]; exact h
theorem alloc2r (w : World) (a b : List Int) : rowAt ((w.alloc (.cells (VI .u64 a) 39)).alloc (.cells (VI .u64 b) 39)) w.heap.size a 39 ∧
    rowAt ((w.alloc (.cells (VI .u64 a) 39)).alloc (.cells (VI .u64 b) 39)) (w.heap.size + 1) b 39 ∧
    Below w.heap.size w ((w.alloc (.cells (VI .u64 a) 39)).alloc (.cells (VI .u64 b) 39)) := by
  refine ⟨?_, ?_, ((Below.refl _ _).alloc (Nat.le_refl _) _).alloc (by simp) _⟩
  all_goals simp only [rowAt, heap_alloc_any, size_alloc]
  · rw [if_neg (by omega), if_pos trivial]
  · rw [if_pos trivial]
theorem add_f {a0 a1 a2 a3 a4 b0 b1 b2 b3 b4 : Int} (ha : Lim [a0, a1, a2, a3, a4]) (hb : Lim [b0, b1, b2, b3, b4]) : ∃ x0 x1 x2 x3 x4, Lim [x0, x1, x2, x3, x4] ∧ num [x0, x1, x2, x3, x4] = (num [a0, a1, a2, a3, a4] + num [b0, b1, b2, b3, b4]) % P ∧ Hid (∀ w, Calls Try.prog 25 #[.pointer none, .agg #[.int .u64 a0, .int .u64 a1, .int .u64 a2, .int .u64 a3, .int .u64 a4], .agg #[.int .u64 b0, .int .u64 b1, .int .u64 b2, .int .u64 b3, .int .u64 b4]] w fun e w' => e = .returned (.agg #[.int .u64 x0, .int .u64 x1, .int .u64 x2, .int .u64 x3, .int .u64 x4]) ∧ Below w.heap.size w w') := by
  have hl := add_lim ha hb
  have hn := num_add ha hb
  have hc := fun w => (add_any (.pointer none) [a0, a1, a2, a3, a4] [b0, b1, b2, b3, b4] ha hb w _ (opc_nil _ w)).mono fun e w' hh => (⟨hh.1, hh.2.nil⟩ : _ ∧ Below w.heap.size w w')
  obtain ⟨x0, x1, x2, x3, x4, e⟩ := five hl.len
  rw [e] at hl hn hc
  exact ⟨x0, x1, x2, x3, x4, hl, hn, hc⟩
theorem sub_f {a0 a1 a2 a3 a4 b0 b1 b2 b3 b4 : Int} (ha : Lim [a0, a1, a2, a3, a4]) (hb : Lim [b0, b1, b2, b3, b4]) : ∃ x0 x1 x2 x3 x4, Lim [x0, x1, x2, x3, x4] ∧ num [x0, x1, x2, x3, x4] = (num [a0, a1, a2, a3, a4] + (P - num [b0, b1, b2, b3, b4])) % P ∧ Hid (∀ w, Calls Try.prog 27 #[.pointer none, .agg #[.int .u64 a0, .int .u64 a1, .int .u64 a2, .int .u64 a3, .int .u64 a4], .agg #[.int .u64 b0, .int .u64 b1, .int .u64 b2, .int .u64 b3, .int .u64 b4]] w fun e w' => e = .returned (.agg #[.int .u64 x0, .int .u64 x1, .int .u64 x2, .int .u64 x3, .int .u64 x4]) ∧ Below w.heap.size w w') := by
  have hl := subs_lim ha hb
  have hn := num_sub ha hb
  have hc := fun w => (sub_any (.pointer none) [a0, a1, a2, a3, a4] [b0, b1, b2, b3, b4] ha hb w _ (opc_nil _ w)).mono fun e w' hh => (⟨hh.1, hh.2.nil⟩ : _ ∧ Below w.heap.size w w')
  obtain ⟨x0, x1, x2, x3, x4, e⟩ := five hl.len
  rw [e] at hl hn hc
  exact ⟨x0, x1, x2, x3, x4, hl, hn, hc⟩
theorem mul_f {a0 a1 a2 a3 a4 b0 b1 b2 b3 b4 : Int} (ha : Lim [a0, a1, a2, a3, a4]) (hb : Lim [b0, b1, b2, b3, b4]) : ∃ x0 x1 x2 x3 x4, Lim [x0, x1, x2, x3, x4] ∧ num [x0, x1, x2, x3, x4] = num [a0, a1, a2, a3, a4] * num [b0, b1, b2, b3, b4] % P ∧ Hid (∀ w, Calls Try.prog 16 #[.pointer none, .agg #[.int .u64 a0, .int .u64 a1, .int .u64 a2, .int .u64 a3, .int .u64 a4], .agg #[.int .u64 b0, .int .u64 b1, .int .u64 b2, .int .u64 b3, .int .u64 b4]] w fun e w' => e = .returned (.agg #[.int .u64 x0, .int .u64 x1, .int .u64 x2, .int .u64 x3, .int .u64 x4]) ∧ Below w.heap.size w w') := by
  have hl := prod_lim ha hb
  have hn := num_prod ha hb
  have hc := fun w => (mul_any (.pointer none) [a0, a1, a2, a3, a4] [b0, b1, b2, b3, b4] ha hb w _ (opc_nil _ w)).mono fun e w' hh => (⟨hh.1, hh.2.nil⟩ : _ ∧ Below w.heap.size w w')
  obtain ⟨x0, x1, x2, x3, x4, e⟩ := five hl.len
  rw [e] at hl hn hc
  exact ⟨x0, x1, x2, x3, x4, hl, hn, hc⟩
theorem square_f {a0 a1 a2 a3 a4 : Int} (ha : Lim [a0, a1, a2, a3, a4]) : ∃ x0 x1 x2 x3 x4, Lim [x0, x1, x2, x3, x4] ∧ num [x0, x1, x2, x3, x4] = num [a0, a1, a2, a3, a4] * num [a0, a1, a2, a3, a4] % P ∧ Hid (∀ w, Calls Try.prog 26 #[.pointer none, .agg #[.int .u64 a0, .int .u64 a1, .int .u64 a2, .int .u64 a3, .int .u64 a4]] w fun e w' => e = .returned (.agg #[.int .u64 x0, .int .u64 x1, .int .u64 x2, .int .u64 x3, .int .u64 x4]) ∧ Below w.heap.size w w') := by
  have hl := prod_lim ha ha
  have hn := num_prod ha ha
  have hc := fun w => (square_any (.pointer none) [a0, a1, a2, a3, a4] ha w _ (opc_nil _ w)).mono fun e w' hh => (⟨hh.1, hh.2.nil⟩ : _ ∧ Below w.heap.size w w')
  obtain ⟨x0, x1, x2, x3, x4, e⟩ := five hl.len
  rw [e] at hl hn hc
  exact ⟨x0, x1, x2, x3, x4, hl, hn, hc⟩
theorem invert_f {a0 a1 a2 a3 a4 : Int} (ha : Lim [a0, a1, a2, a3, a4]) : ∃ x0 x1 x2 x3 x4, Lim [x0, x1, x2, x3, x4] ∧ num [x0, x1, x2, x3, x4] = qwn (num [a0, a1, a2, a3, a4]) 5 ∧ Hid (∀ w, Calls Try.prog 17 #[.pointer none, .agg #[.int .u64 a0, .int .u64 a1, .int .u64 a2, .int .u64 a3, .int .u64 a4]] w fun e w' => e = .returned (.agg #[.int .u64 x0, .int .u64 x1, .int .u64 x2, .int .u64 x3, .int .u64 x4]) ∧ Below w.heap.size w w') := by
  have hl := qw_lim ha 5
  have hn := num_qw ha 5
  have hc := fun w => (invert_any (.pointer none) [a0, a1, a2, a3, a4] ha w _ (opc_nil _ w)).mono fun e w' hh => (⟨hh.1, hh.2.nil⟩ : _ ∧ Below w.heap.size w w')
  obtain ⟨x0, x1, x2, x3, x4, e⟩ := five hl.len
  rw [e] at hl hn hc
  exact ⟨x0, x1, x2, x3, x4, hl, hn, hc⟩
theorem scale_f {a0 a1 a2 a3 a4 : Int} (ha : Lim [a0, a1, a2, a3, a4]) (n : Nat) (hn' : n < 4294967296) : ∃ x0 x1 x2 x3 x4, Lim [x0, x1, x2, x3, x4] ∧ num [x0, x1, x2, x3, x4] = num [a0, a1, a2, a3, a4] * n % P ∧ Hid (∀ w, Calls Try.prog 28 #[.pointer none, .agg #[.int .u64 a0, .int .u64 a1, .int .u64 a2, .int .u64 a3, .int .u64 a4], .int .u32 (n : Int)] w fun e w' => e = .returned (.agg #[.int .u64 x0, .int .u64 x1, .int .u64 x2, .int .u64 x3, .int .u64 x4]) ∧ Below w.heap.size w w') := by
  have hls : Lim [(n : Int), 0, 0, 0, 0] := lim_small n (by omega) (by omega)
  have hl := prod_lim ha hls
  have hn := num_prod ha hls
  rw [num_small n hn'] at hn
  have hc := fun w => (scale_any (.pointer none) [a0, a1, a2, a3, a4] n (by omega) (by omega) ha w _ (opc_nil _ w)).mono fun e w' hh => (⟨hh.1, hh.2.nil⟩ : _ ∧ Below w.heap.size w w')
  obtain ⟨x0, x1, x2, x3, x4, e⟩ := five hl.len
  rw [e] at hl hn hc
  exact ⟨x0, x1, x2, x3, x4, hl, hn, hc⟩
theorem dec_f {b : List Int} (hb : Key32 b) : ∃ x0 x1 x2 x3 x4, Lim [x0, x1, x2, x3, x4] ∧ num [x0, x1, x2, x3, x4] = nb b % 2 ^ 255 % P ∧ Hid (∀ w, Calls Try.prog 13 #[.agg (VI .u8 b)] w fun e w' => e = .returned (.agg #[.int .u64 x0, .int .u64 x1, .int .u64 x2, .int .u64 x3, .int .u64 x4]) ∧ Below w.heap.size w w') := by
  have hl := dec_lim b
  have hn := num_dec b
  have hc := fun w => decode_any b hb w
  obtain ⟨x0, x1, x2, x3, x4, e⟩ := five hl.len
  rw [e] at hl hn hc
  exact ⟨x0, x1, x2, x3, x4, hl, hn, hc⟩