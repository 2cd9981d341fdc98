import Derived.Test.YteimmjdiaophoaaFldK
namespace Go.Proofs.Yteimmjdiaophoaa
set_option linter.unusedSimpArgs false
open Go.ChangeShapes Go.WideShapes Go.ChangeAt Go.RowKit Go.Pin Go.Fld
theorem wp_region_quiet_in {P : Program} {C : World → Prop} {id : Nat} {Q : Exit → Act → World → Prop} {a : Act} {w : World} {l : List Oper} (hm : P.follows .mixedOrders = true) (hB : Region.lexB .any l.toArray = true) (hC : C w.drew)
    (h : wpQuiet P l.toArray C (fun a' => ∀ w', C w' → Q .normal a' w') l a) : (Code.region id l.toArray true).wp P Q a w :=
  wp_region_quiet (C := C) hm hB hC (by simpa using h)
theorem if_pos_mpr {c : Prop} [Decidable c] {a b : Prop} (hc : c) (h : a) : if c then a else b := by rw [if_pos hc]; exact h
theorem alloc2r (w : World) (a b : List Int) : rowAt ((w.alloc (.cells (VI .u64 a) 27)).alloc (.cells (VI .u64 b) 27)) w.heap.size a 27 ∧
    rowAt ((w.alloc (.cells (VI .u64 a) 27)).alloc (.cells (VI .u64 b) 27)) (w.heap.size + 1) b 27 ∧
    Below w.heap.size w ((w.alloc (.cells (VI .u64 a) 27)).alloc (.cells (VI .u64 b) 27)) := by
  refine ⟨?_, ?_, ((Below.refl _ _).alloc (Nat.le_refl _) _).alloc (by simp) _⟩
  all_goals simp only [rowAt, heap_alloc_any, size_alloc]
  · rw [if_neg (by omega), if_pos trivial]
  · rw [if_pos trivial]
set_option maxRecDepth 100000 in
set_option maxHeartbeats 1000000 in
theorem same_any (a b : List Int) (ha : Lim a) (hb : Lim b) (w : World) :
    Calls Try.prog 21 #[.agg (VI .u64 a), .agg (VI .u64 b)] w fun e w' => e = .returned (.bool (decide (num a = num b))) ∧ Below w.heap.size w w' := by
  obtain ⟨r1, r2, hbw⟩ := alloc2r w a b
  obtain ⟨W, hW⟩ : ∃ W, (w.alloc (.cells (VI .u64 a) 27)).alloc (.cells (VI .u64 b) 27) = W := ⟨_, rfl⟩
  rw [hW] at r1 r2 hbw
  have q : ∀ w, (Op.equalIn 10000 40 (.agg (VI .u8 (bts (num a)))) (.agg (VI .u8 (bts (num b))))).run Try.prog w = .ok (decide (num a = num b)) w := fun w => by
    have := run_equalIn_row (P := Try.prog) w 9998 40 5 .u8 32 (bts (num a)) (bts (num b)) (by simp) (by simp) Try.underlying40 Try.underlying5 size5
    rw [bts_beq _ _ (num_lt a) (num_lt b)] at this
    exact this
  have CA : Hid (∀ w, Calls Try.prog 19 #[.agg (VI .u64 a)] w fun e w' => e = .returned (.agg (VI .u8 (bts (num a)))) ∧ Below w.heap.size w w') := fun w => enc_any a ha w
  have CB : Hid (∀ w, Calls Try.prog 19 #[.agg (VI .u64 b)] w fun e w' => e = .returned (.agg (VI .u8 (bts (num b)))) ∧ Below w.heap.size w w') := fun w => enc_any b hb w
  generalize decide (num a = num b) = t at *
  obtain ⟨a0, a1, a2, a3, a4, rfl⟩ := five ha.len
  obtain ⟨b0, b1, b2, b3, b4, rfl⟩ := five hb.len
  have R1 : Hid (rowAt W w.heap.size [a0, a1, a2, a3, a4] 27) := r1
  have R2 : Hid (rowAt W (w.heap.size + 1) [b0, b1, b2, b3, b4] 27) := r2
  have HB : Hid (Below w.heap.size w W) := hbw
  generalize bts (num [a0, a1, a2, a3, a4]) = ka at *
  generalize bts (num [b0, b1, b2, b3, b4]) = kb at *
  clear r1 r2 hbw ha hb
  go_enter Try.func21, Try.ntmps21
  go_wp2
  refine wp_region_quiet_in (C := fun Y => Below W.heap.size W Y) (by kernel_rfl) (by kernel_rfl) ((Below.refl _ _).drew) ?_
  refine wpQuiet_step (fun K hK => ?_)
  refine if_pos_mpr (by kernel_rfl) ⟨.agg #[.int .u64 a0, .int .u64 a1, .int .u64 a2, .int .u64 a3, .int .u64 a4], fun Y hY => ?_, hK _ ?_⟩
  · obtain ⟨c0, c1, c2, c3, c4⟩ := cells5 (row_below R1.out hY)
    go_simp
  clear hK K
  try simp only [Act.put, List.setIfInBounds_toArray, List.set_cons_zero, List.set_cons_succ]
  refine wpQuiet_step (fun K hK => ?_)
  refine if_pos_mpr (by kernel_rfl) ⟨.agg (VI .u8 ka), fun Y hY => ?_, hK _ ?_⟩
  · go_simp
    exact (CA.out Y).mono fun e w' hh => ⟨hh.1, hY.trans (hh.2.mono hY.size)⟩
  clear hK K
  try simp only [Act.put, List.setIfInBounds_toArray, List.set_cons_zero, List.set_cons_succ]
  refine wpQuiet_step (fun K hK => ?_)
  refine if_pos_mpr (by kernel_rfl) ⟨.agg #[.int .u64 b0, .int .u64 b1, .int .u64 b2, .int .u64 b3, .int .u64 b4], fun Y hY => ?_, hK _ ?_⟩
  · obtain ⟨c0, c1, c2, c3, c4⟩ := cells5 (row_below R2.out hY)
    go_simp
  clear hK K
  try simp only [Act.put, List.setIfInBounds_toArray, List.set_cons_zero, List.set_cons_succ]
  refine wpQuiet_step (fun K hK => ?_)
  refine if_pos_mpr (by kernel_rfl) ⟨.agg (VI .u8 kb), fun Y hY => ?_, hK _ ?_⟩
  · go_simp
    exact (CB.out Y).mono fun e w' hh => ⟨hh.1, hY.trans (hh.2.mono hY.size)⟩
  clear hK K
  try simp only [Act.put, List.setIfInBounds_toArray, List.set_cons_zero, List.set_cons_succ]
  refine wpQuiet_step (fun K hK => ?_)
  go_simp
  first | refine hK _ ?_ | refine ⟨_, fun _ _ => rfl, hK _ ?_⟩
  clear hK K
  refine wpQuiet_step (fun K hK => ?_)
  go_simp
  first | refine hK _ ?_ | refine ⟨_, fun _ _ => rfl, hK _ ?_⟩
  clear hK K
  refine wpQuiet_nil ?_
  intro w' hw'
  go_wp2
  go_ret
  exact ⟨rfl, HB.out.trans (hw'.mono HB.out.size)⟩
theorem add_f {a0 a1 a2 a3 a4 b0 b1 b2 b3 b4 : Int} (ha : Lim [a0, a1, a2, a3, a4]) (hb : Lim [b0, b1, b2, b3, b4]) : ∃ x0 x1 x2 x3 x4, Lim [x0, x1, x2, x3, x4] ∧ num [x0, x1, x2, x3, x4] = (num [a0, a1, a2, a3, a4] + num [b0, b1, b2, b3, b4]) % P ∧ Hid (∀ w, Calls Try.prog 20 #[.pointer none, .agg #[.int .u64 a0, .int .u64 a1, .int .u64 a2, .int .u64 a3, .int .u64 a4], .agg #[.int .u64 b0, .int .u64 b1, .int .u64 b2, .int .u64 b3, .int .u64 b4]] w fun e w' => e = .returned (.agg #[.int .u64 x0, .int .u64 x1, .int .u64 x2, .int .u64 x3, .int .u64 x4]) ∧ Below w.heap.size w w') := by
  have hl := add_lim ha hb
  have hn := num_add ha hb
  have hc := fun w => (add_any (.pointer none) [a0, a1, a2, a3, a4] [b0, b1, b2, b3, b4] ha hb w _ (opc_nil _ w)).mono fun e w' hh => (⟨hh.1, hh.2.nil⟩ : _ ∧ Below w.heap.size w w')
  obtain ⟨x0, x1, x2, x3, x4, e⟩ := five hl.len
  rw [e] at hl hn hc
  exact ⟨x0, x1, x2, x3, x4, hl, hn, hc⟩
theorem sub_f {a0 a1 a2 a3 a4 b0 b1 b2 b3 b4 : Int} (ha : Lim [a0, a1, a2, a3, a4]) (hb : Lim [b0, b1, b2, b3, b4]) : ∃ x0 x1 x2 x3 x4, Lim [x0, x1, x2, x3, x4] ∧ num [x0, x1, x2, x3, x4] = (num [a0, a1, a2, a3, a4] + (P - num [b0, b1, b2, b3, b4])) % P ∧ Hid (∀ w, Calls Try.prog 22 #[.pointer none, .agg #[.int .u64 a0, .int .u64 a1, .int .u64 a2, .int .u64 a3, .int .u64 a4], .agg #[.int .u64 b0, .int .u64 b1, .int .u64 b2, .int .u64 b3, .int .u64 b4]] w fun e w' => e = .returned (.agg #[.int .u64 x0, .int .u64 x1, .int .u64 x2, .int .u64 x3, .int .u64 x4]) ∧ Below w.heap.size w w') := by
  have hl := subs_lim ha hb
  have hn := num_sub ha hb
  have hc := fun w => (sub_any (.pointer none) [a0, a1, a2, a3, a4] [b0, b1, b2, b3, b4] ha hb w _ (opc_nil _ w)).mono fun e w' hh => (⟨hh.1, hh.2.nil⟩ : _ ∧ Below w.heap.size w w')
  obtain ⟨x0, x1, x2, x3, x4, e⟩ := five hl.len
  rw [e] at hl hn hc
  exact ⟨x0, x1, x2, x3, x4, hl, hn, hc⟩
theorem mul_f {a0 a1 a2 a3 a4 b0 b1 b2 b3 b4 : Int} (ha : Lim [a0, a1, a2, a3, a4]) (hb : Lim [b0, b1, b2, b3, b4]) : ∃ x0 x1 x2 x3 x4, Lim [x0, x1, x2, x3, x4] ∧ num [x0, x1, x2, x3, x4] = num [a0, a1, a2, a3, a4] * num [b0, b1, b2, b3, b4] % P ∧ Hid (∀ w, Calls Try.prog 23 #[.pointer none, .agg #[.int .u64 a0, .int .u64 a1, .int .u64 a2, .int .u64 a3, .int .u64 a4], .agg #[.int .u64 b0, .int .u64 b1, .int .u64 b2, .int .u64 b3, .int .u64 b4]] w fun e w' => e = .returned (.agg #[.int .u64 x0, .int .u64 x1, .int .u64 x2, .int .u64 x3, .int .u64 x4]) ∧ Below w.heap.size w w') := by
  have hl := prod_lim ha hb
  have hn := num_prod ha hb
  have hc := fun w => (mul_any (.pointer none) [a0, a1, a2, a3, a4] [b0, b1, b2, b3, b4] ha hb w _ (opc_nil _ w)).mono fun e w' hh => (⟨hh.1, hh.2.nil⟩ : _ ∧ Below w.heap.size w w')
  obtain ⟨x0, x1, x2, x3, x4, e⟩ := five hl.len
  rw [e] at hl hn hc
  exact ⟨x0, x1, x2, x3, x4, hl, hn, hc⟩
theorem square_f {a0 a1 a2 a3 a4 : Int} (ha : Lim [a0, a1, a2, a3, a4]) : ∃ x0 x1 x2 x3 x4, Lim [x0, x1, x2, x3, x4] ∧ num [x0, x1, x2, x3, x4] = num [a0, a1, a2, a3, a4] * num [a0, a1, a2, a3, a4] % P ∧ Hid (∀ w, Calls Try.prog 24 #[.pointer none, .agg #[.int .u64 a0, .int .u64 a1, .int .u64 a2, .int .u64 a3, .int .u64 a4]] w fun e w' => e = .returned (.agg #[.int .u64 x0, .int .u64 x1, .int .u64 x2, .int .u64 x3, .int .u64 x4]) ∧ Below w.heap.size w w') := by
  have hl := prod_lim ha ha
  have hn := num_prod ha ha
  have hc := fun w => (square_any (.pointer none) [a0, a1, a2, a3, a4] ha w _ (opc_nil _ w)).mono fun e w' hh => (⟨hh.1, hh.2.nil⟩ : _ ∧ Below w.heap.size w w')
  obtain ⟨x0, x1, x2, x3, x4, e⟩ := five hl.len
  rw [e] at hl hn hc
  exact ⟨x0, x1, x2, x3, x4, hl, hn, hc⟩
theorem invert_f {a0 a1 a2 a3 a4 : Int} (ha : Lim [a0, a1, a2, a3, a4]) : ∃ x0 x1 x2 x3 x4, Lim [x0, x1, x2, x3, x4] ∧ num [x0, x1, x2, x3, x4] = qwn (num [a0, a1, a2, a3, a4]) 5 ∧ Hid (∀ w, Calls Try.prog 26 #[.pointer none, .agg #[.int .u64 a0, .int .u64 a1, .int .u64 a2, .int .u64 a3, .int .u64 a4]] w fun e w' => e = .returned (.agg #[.int .u64 x0, .int .u64 x1, .int .u64 x2, .int .u64 x3, .int .u64 x4]) ∧ Below w.heap.size w w') := by
  have hl := qw_lim ha 5
  have hn := num_qw ha 5
  have hc := fun w => (invert_any (.pointer none) [a0, a1, a2, a3, a4] ha w _ (opc_nil _ w)).mono fun e w' hh => (⟨hh.1, hh.2.nil⟩ : _ ∧ Below w.heap.size w w')
  obtain ⟨x0, x1, x2, x3, x4, e⟩ := five hl.len
  rw [e] at hl hn hc
  exact ⟨x0, x1, x2, x3, x4, hl, hn, hc⟩
theorem scale_f {a0 a1 a2 a3 a4 : Int} (ha : Lim [a0, a1, a2, a3, a4]) (n : Nat) (hn' : n < 4294967296) : ∃ x0 x1 x2 x3 x4, Lim [x0, x1, x2, x3, x4] ∧ num [x0, x1, x2, x3, x4] = num [a0, a1, a2, a3, a4] * n % P ∧ Hid (∀ w, Calls Try.prog 25 #[.pointer none, .agg #[.int .u64 a0, .int .u64 a1, .int .u64 a2, .int .u64 a3, .int .u64 a4], .int .u32 (n : Int)] w fun e w' => e = .returned (.agg #[.int .u64 x0, .int .u64 x1, .int .u64 x2, .int .u64 x3, .int .u64 x4]) ∧ Below w.heap.size w w') := by
  have hls : Lim [(n : Int), 0, 0, 0, 0] := lim_small n (by omega) (by omega)
  have hl := prod_lim ha hls
  have hn := num_prod ha hls
  rw [num_small n hn'] at hn
  have hc := fun w => (scale_any (.pointer none) [a0, a1, a2, a3, a4] n (by omega) (by omega) ha w _ (opc_nil _ w)).mono fun e w' hh => (⟨hh.1, hh.2.nil⟩ : _ ∧ Below w.heap.size w w')
  obtain ⟨x0, x1, x2, x3, x4, e⟩ := five hl.len
  rw [e] at hl hn hc
  exact ⟨x0, x1, x2, x3, x4, hl, hn, hc⟩
theorem dec_f {b : List Int} (hb : Key32 b) : ∃ x0 x1 x2 x3 x4, Lim [x0, x1, x2, x3, x4] ∧ num [x0, x1, x2, x3, x4] = nb b % 2 ^ 255 % P ∧ Hid (∀ w, Calls Try.prog 18 #[.agg (VI .u8 b)] w fun e w' => e = .returned (.agg #[.int .u64 x0, .int .u64 x1, .int .u64 x2, .int .u64 x3, .int .u64 x4]) ∧ Below w.heap.size w w') := by
  have hl := dec_lim b
  have hn := num_dec b
  have hc := fun w => decode_any b hb w
  obtain ⟨x0, x1, x2, x3, x4, e⟩ := five hl.len
  rw [e] at hl hn hc
  exact ⟨x0, x1, x2, x3, x4, hl, hn, hc⟩
theorem same_f {a0 a1 a2 a3 a4 b0 b1 b2 b3 b4 : Int} (ha : Lim [a0, a1, a2, a3, a4]) (hb : Lim [b0, b1, b2, b3, b4]) (t : Bool) (h : decide (num [a0, a1, a2, a3, a4] = num [b0, b1, b2, b3, b4]) = t) : Hid (∀ w, Calls Try.prog 21 #[.agg #[.int .u64 a0, .int .u64 a1, .int .u64 a2, .int .u64 a3, .int .u64 a4], .agg #[.int .u64 b0, .int .u64 b1, .int .u64 b2, .int .u64 b3, .int .u64 b4]] w fun e w' => e = .returned (.bool t) ∧ Below w.heap.size w w') := fun w => by
  have := same_any [a0, a1, a2, a3, a4] [b0, b1, b2, b3, b4] ha hb w
  rw [h] at this
  exact this
end Go.Proofs.Yteimmjdiaophoaa
