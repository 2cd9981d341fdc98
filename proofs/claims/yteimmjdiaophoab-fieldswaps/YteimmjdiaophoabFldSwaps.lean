import Derived.Test.YteimmjdiaophoabFldZ
namespace Go.Proofs.Yteimmjdiaophoab
set_option linter.unusedSimpArgs false
open Go.ChangeShapes Go.WideShapes Go.ChangeAt Go.RowKit Go.Pin Go.Fld
set_option maxRecDepth 100000 in
set_option maxHeartbeats 20000000 in
theorem swaps_odd (x y : List Int) (hx : Key32 x) (hy : Key32 y) (s : Int) (s0 : 0 ≤ s) (s1 : s < 18446744073709551616) (hodd : s % 2 = 1) (w : World) :
    Calls Try.prog 3 #[.agg (VI .u8 x), .agg (VI .u8 y), .int .u64 s] w fun e w' => e = .returned (.bool true) ∧ Below w.heap.size w w' := by
  have HX : Hid (Key32 x) := hx
  have HY : Hid (Key32 y) := hy
  have HS0 : Hid (0 ≤ s) := s0
  have HS1 : Hid (s < 18446744073709551616) := s1
  have HODD : Hid (s % 2 = 1) := hodd
  have hm : s % 2 = 1 := hodd
  have hs := bs_start2 w x y
  obtain ⟨W0, hW0⟩ : ∃ W, (w.alloc (.cells (VI .u8 x) 23)).alloc (.cells (VI .u8 y) 23) = W := ⟨_, rfl⟩
  rw [hW0] at hs
  have X0 : Hid (Bs w [(w.heap.size + 1, y), (w.heap.size, x)] [] W0) := hs
  clear hs hx hy hodd
  go_enter Try.func3, Try.ntmps3
  go_wp2_with (with_reducible refine at_list ?_; first | (refine wpList_load_row rfl 23 (.tmp 3) rfl (w.heap.size) rfl 23 (VI .u8 x) (0, 0) _ (X0.out.key (g := w.heap.size) (x := x) (by simp)) Try.underlying23 rfl (HX.out).info ?_))
  obtain ⟨e12x0, e12x1, e12x2, e12x3, e12x4, l12, n12, C12⟩ := dec_f (b := x) HX.out
  have L12 : Hid (Lim [e12x0, e12x1, e12x2, e12x3, e12x4]) := l12
  have N12 : Hid _ := n12
  clear l12 n12
  refine (C12.out _).mono ?_
  rintro e W1 ⟨rfl, hb⟩
  have X1 : Hid (Bs w [(w.heap.size + 1, y), (w.heap.size, x)] [] W1) := X0.out.below hb
  clear hb X0
  go_wp2_with (with_reducible refine at_list ?_; first | (refine wpList_load_row rfl 23 (.tmp 4) rfl (w.heap.size + 1) rfl 23 (VI .u8 y) (0, 0) _ ((X1.out.new [e12x0, e12x1, e12x2, e12x3, e12x4]).key (by simp)) Try.underlying23 rfl (HY.out).info ?_))
  obtain ⟨W2, hW⟩ : ∃ W, (W1.alloc (.cells #[.int .u64 e12x0, .int .u64 e12x1, .int .u64 e12x2, .int .u64 e12x3, .int .u64 e12x4] 27)) = W := ⟨_, rfl⟩
  have hN := (X1.out.new [e12x0, e12x1, e12x2, e12x3, e12x4])
  rw [show (W1.alloc (.cells (VI .u64 [e12x0, e12x1, e12x2, e12x3, e12x4]) 27)) = W2 from hW] at hN
  rw [hW]
  clear hW
  obtain ⟨g7, hg⟩ : ∃ g, W1.heap.size = g := ⟨_, rfl⟩
  have ow_heap_size_1_g7 : Hid (w.heap.size + 1 < g7) := by have h0 := X1.out.ltk (g := w.heap.size + 1) (x := y) (by simp); rw [hg] at h0; exact h0
  have ow_heap_size_g7 : Hid (w.heap.size < g7) := by have h0 := X1.out.ltk (g := w.heap.size) (x := x) (by simp); rw [hg] at h0; exact h0
  rw [hg] at hN
  try simp only [hg]
  clear hg
  have X2 : Hid (Bs w [(w.heap.size + 1, y), (w.heap.size, x)] [(g7, [e12x0, e12x1, e12x2, e12x3, e12x4])] W2) := hN
  clear hN X1
  obtain ⟨e14x0, e14x1, e14x2, e14x3, e14x4, l14, n14, C14⟩ := dec_f (b := y) HY.out
  have L14 : Hid (Lim [e14x0, e14x1, e14x2, e14x3, e14x4]) := l14
  have N14 : Hid _ := n14
  clear l14 n14
  refine (C14.out _).mono ?_
  rintro e W3 ⟨rfl, hb⟩
  have X3 : Hid (Bs w [(w.heap.size + 1, y), (w.heap.size, x)] [(g7, [e12x0, e12x1, e12x2, e12x3, e12x4])] W3) := X2.out.below hb
  clear hb X2
  obtain ⟨c00, c01, c02, c03, c04⟩ := cells5 (X3.out.row (g := g7) (x := [e12x0, e12x1, e12x2, e12x3, e12x4]) (by simp))
  have k0 := X3.out.lt (g := g7) (x := [e12x0, e12x1, e12x2, e12x3, e12x4]) (by simp)
  go_wp2_with (fail)
  clear c00 c01 c02 c03 c04 k0
  obtain ⟨W4, hW⟩ : ∃ W, (((W3.alloc (.cells #[.int .u64 e14x0, .int .u64 e14x1, .int .u64 e14x2, .int .u64 e14x3, .int .u64 e14x4] 27)).alloc (.cells #[.int .u64 e12x0, .int .u64 e12x1, .int .u64 e12x2, .int .u64 e12x3, .int .u64 e12x4] 27)).alloc (.cells #[.int .u64 e14x0, .int .u64 e14x1, .int .u64 e14x2, .int .u64 e14x3, .int .u64 e14x4] 27)) = W := ⟨_, rfl⟩
  have hN := (((X3.out.new [e14x0, e14x1, e14x2, e14x3, e14x4]).new [e12x0, e12x1, e12x2, e12x3, e12x4]).new [e14x0, e14x1, e14x2, e14x3, e14x4])
  rw [show (((W3.alloc (.cells (VI .u64 [e14x0, e14x1, e14x2, e14x3, e14x4]) 27)).alloc (.cells (VI .u64 [e12x0, e12x1, e12x2, e12x3, e12x4]) 27)).alloc (.cells (VI .u64 [e14x0, e14x1, e14x2, e14x3, e14x4]) 27)) = W4 from hW] at hN
  rw [size_alloc] at hN
  rw [size_alloc] at hN
  rw [hW]
  clear hW
  obtain ⟨g8, hg⟩ : ∃ g, W3.heap.size = g := ⟨_, rfl⟩
  have og7_g8 : Hid (g7 < g8) := by have h0 := X3.out.lt (g := g7) (x := [e12x0, e12x1, e12x2, e12x3, e12x4]) (by simp); rw [hg] at h0; exact h0
  have ow_heap_size_1_g8 : Hid (w.heap.size + 1 < g8) := by have h0 := X3.out.ltk (g := w.heap.size + 1) (x := y) (by simp); rw [hg] at h0; exact h0
  have ow_heap_size_g8 : Hid (w.heap.size < g8) := by have h0 := X3.out.ltk (g := w.heap.size) (x := x) (by simp); rw [hg] at h0; exact h0
  rw [hg] at hN
  try simp only [hg]
  clear hg
  have X4 : Hid (Bs w [(w.heap.size + 1, y), (w.heap.size, x)] [(g8 + 2, [e14x0, e14x1, e14x2, e14x3, e14x4]), (g8 + 1, [e12x0, e12x1, e12x2, e12x3, e12x4]), (g8, [e14x0, e14x1, e14x2, e14x3, e14x4]), (g7, [e12x0, e12x1, e12x2, e12x3, e12x4])] W4) := hN
  clear hN X3
  have hS : Bs w [(w.heap.size + 1, y), (w.heap.size, x)] ((g8 + 1, [e12x0, e12x1, e12x2, e12x3, e12x4]) :: (g8 + 2, [e14x0, e14x1, e14x2, e14x3, e14x4]) :: [(g8, [e14x0, e14x1, e14x2, e14x3, e14x4]), (g7, [e12x0, e12x1, e12x2, e12x3, e12x4])]) W4 := X4.out.sub (by simp)
  refine (bs_swap hS (L12.out) (L14.out) (by omega) (by have := ow_heap_size_1_g7.out; have := ow_heap_size_g7.out; have := og7_g8.out; have := ow_heap_size_1_g8.out; have := ow_heap_size_g8.out; omega) (by have := ow_heap_size_1_g7.out; have := ow_heap_size_g7.out; have := og7_g8.out; have := ow_heap_size_1_g8.out; have := ow_heap_size_g8.out; omega) (by have := ow_heap_size_1_g7.out; have := ow_heap_size_g7.out; have := og7_g8.out; have := ow_heap_size_1_g8.out; have := ow_heap_size_g8.out; simp only [List.mem_cons, List.not_mem_nil, or_false, forall_eq_or_imp, forall_eq]; omega) (by have := ow_heap_size_1_g7.out; have := ow_heap_size_g7.out; have := og7_g8.out; have := ow_heap_size_1_g8.out; have := ow_heap_size_g8.out; simp only [List.mem_cons, List.not_mem_nil, or_false, forall_eq_or_imp, forall_eq]; omega) s HS0.out HS1.out).mono ?_
  rintro e W5 ⟨rfl, hb⟩
  rw [swp_odd HODD.out, swp_odd HODD.out] at hb
  have X5 : Hid (Bs w [(w.heap.size + 1, y), (w.heap.size, x)] [(g8 + 1, [e14x0, e14x1, e14x2, e14x3, e14x4]), (g8 + 2, [e12x0, e12x1, e12x2, e12x3, e12x4]), (g8, [e14x0, e14x1, e14x2, e14x3, e14x4]), (g7, [e12x0, e12x1, e12x2, e12x3, e12x4])] W5) := hb
  clear hb hS X4
  obtain ⟨c00, c01, c02, c03, c04⟩ := cells5 (X5.out.row (g := g8 + 1) (x := [e14x0, e14x1, e14x2, e14x3, e14x4]) (by simp))
  have k0 := X5.out.lt (g := g8 + 1) (x := [e14x0, e14x1, e14x2, e14x3, e14x4]) (by simp)
  obtain ⟨c10, c11, c12, c13, c14⟩ := cells5 (X5.out.row (g := g8) (x := [e14x0, e14x1, e14x2, e14x3, e14x4]) (by simp))
  have k1 := X5.out.lt (g := g8) (x := [e14x0, e14x1, e14x2, e14x3, e14x4]) (by simp)
  go_wp2_with (fail)
  clear c00 c01 c02 c03 c04 k0
  clear c10 c11 c12 c13 c14 k1
  have C25 : Hid (∀ w, Calls Try.prog 6 #[.agg #[.int .u64 e14x0, .int .u64 e14x1, .int .u64 e14x2, .int .u64 e14x3, .int .u64 e14x4], .agg #[.int .u64 e14x0, .int .u64 e14x1, .int .u64 e14x2, .int .u64 e14x3, .int .u64 e14x4]] w fun e w' => e = .returned (.bool true) ∧ Below w.heap.size w w') := same_f L14.out L14.out _ (by simp)
  refine (C25.out _).mono ?_
  rintro e W6 ⟨rfl, hb⟩
  have X6 : Hid (Bs w [(w.heap.size + 1, y), (w.heap.size, x)] [(g8 + 1, [e14x0, e14x1, e14x2, e14x3, e14x4]), (g8 + 2, [e12x0, e12x1, e12x2, e12x3, e12x4]), (g8, [e14x0, e14x1, e14x2, e14x3, e14x4]), (g7, [e12x0, e12x1, e12x2, e12x3, e12x4])] W6) := X5.out.below hb
  clear hb X5
  obtain ⟨c00, c01, c02, c03, c04⟩ := cells5 (X6.out.row (g := g8 + 2) (x := [e12x0, e12x1, e12x2, e12x3, e12x4]) (by simp))
  have k0 := X6.out.lt (g := g8 + 2) (x := [e12x0, e12x1, e12x2, e12x3, e12x4]) (by simp)
  obtain ⟨c10, c11, c12, c13, c14⟩ := cells5 (X6.out.row (g := g7) (x := [e12x0, e12x1, e12x2, e12x3, e12x4]) (by simp))
  have k1 := X6.out.lt (g := g7) (x := [e12x0, e12x1, e12x2, e12x3, e12x4]) (by simp)
  go_wp2_with (fail)
  clear c00 c01 c02 c03 c04 k0
  clear c10 c11 c12 c13 c14 k1
  have C30 : Hid (∀ w, Calls Try.prog 6 #[.agg #[.int .u64 e12x0, .int .u64 e12x1, .int .u64 e12x2, .int .u64 e12x3, .int .u64 e12x4], .agg #[.int .u64 e12x0, .int .u64 e12x1, .int .u64 e12x2, .int .u64 e12x3, .int .u64 e12x4]] w fun e w' => e = .returned (.bool true) ∧ Below w.heap.size w w') := same_f L12.out L12.out _ (by simp)
  refine (C30.out _).mono ?_
  rintro e W7 ⟨rfl, hb⟩
  have X7 : Hid (Bs w [(w.heap.size + 1, y), (w.heap.size, x)] [(g8 + 1, [e14x0, e14x1, e14x2, e14x3, e14x4]), (g8 + 2, [e12x0, e12x1, e12x2, e12x3, e12x4]), (g8, [e14x0, e14x1, e14x2, e14x3, e14x4]), (g7, [e12x0, e12x1, e12x2, e12x3, e12x4])] W7) := X6.out.below hb
  clear hb X6
  go_wp2_with (fail)
  have hS : Bs w [(w.heap.size + 1, y), (w.heap.size, x)] ((g8 + 1, [e14x0, e14x1, e14x2, e14x3, e14x4]) :: (g8 + 2, [e12x0, e12x1, e12x2, e12x3, e12x4]) :: [(g8, [e14x0, e14x1, e14x2, e14x3, e14x4]), (g7, [e12x0, e12x1, e12x2, e12x3, e12x4])]) W7 := X7.out.sub (by simp)
  refine (bs_swap hS (L14.out) (L12.out) (by omega) (by have := ow_heap_size_1_g7.out; have := ow_heap_size_g7.out; have := og7_g8.out; have := ow_heap_size_1_g8.out; have := ow_heap_size_g8.out; omega) (by have := ow_heap_size_1_g7.out; have := ow_heap_size_g7.out; have := og7_g8.out; have := ow_heap_size_1_g8.out; have := ow_heap_size_g8.out; omega) (by have := ow_heap_size_1_g7.out; have := ow_heap_size_g7.out; have := og7_g8.out; have := ow_heap_size_1_g8.out; have := ow_heap_size_g8.out; simp only [List.mem_cons, List.not_mem_nil, or_false, forall_eq_or_imp, forall_eq]; omega) (by have := ow_heap_size_1_g7.out; have := ow_heap_size_g7.out; have := og7_g8.out; have := ow_heap_size_1_g8.out; have := ow_heap_size_g8.out; simp only [List.mem_cons, List.not_mem_nil, or_false, forall_eq_or_imp, forall_eq]; omega) s HS0.out HS1.out).mono ?_
  rintro e W8 ⟨rfl, hb⟩
  rw [swp_odd HODD.out, swp_odd HODD.out] at hb
  have X8 : Hid (Bs w [(w.heap.size + 1, y), (w.heap.size, x)] [(g8 + 1, [e12x0, e12x1, e12x2, e12x3, e12x4]), (g8 + 2, [e14x0, e14x1, e14x2, e14x3, e14x4]), (g8, [e14x0, e14x1, e14x2, e14x3, e14x4]), (g7, [e12x0, e12x1, e12x2, e12x3, e12x4])] W8) := hb
  clear hb hS X7
  go_wp2_with (fail)
  have hS : Bs w [(w.heap.size + 1, y), (w.heap.size, x)] ((g8 + 1, [e12x0, e12x1, e12x2, e12x3, e12x4]) :: [(g8 + 2, [e14x0, e14x1, e14x2, e14x3, e14x4]), (g8, [e14x0, e14x1, e14x2, e14x3, e14x4]), (g7, [e12x0, e12x1, e12x2, e12x3, e12x4])]) W8 := X8.out.sub (by simp)
  refine (bs_swap1 hS (L12.out) (by have := ow_heap_size_1_g7.out; have := ow_heap_size_g7.out; have := og7_g8.out; have := ow_heap_size_1_g8.out; have := ow_heap_size_g8.out; omega) (by have := ow_heap_size_1_g7.out; have := ow_heap_size_g7.out; have := og7_g8.out; have := ow_heap_size_1_g8.out; have := ow_heap_size_g8.out; simp only [List.mem_cons, List.not_mem_nil, or_false, forall_eq_or_imp, forall_eq]; omega) (by have := ow_heap_size_1_g7.out; have := ow_heap_size_g7.out; have := og7_g8.out; have := ow_heap_size_1_g8.out; have := ow_heap_size_g8.out; simp only [List.mem_cons, List.not_mem_nil, or_false, forall_eq_or_imp, forall_eq]; omega) s HS0.out HS1.out).mono ?_
  rintro e W9 ⟨rfl, hb⟩
  have X9 : Hid (Bs w [(w.heap.size + 1, y), (w.heap.size, x)] [(g8 + 1, [e12x0, e12x1, e12x2, e12x3, e12x4]), (g8 + 2, [e14x0, e14x1, e14x2, e14x3, e14x4]), (g8, [e14x0, e14x1, e14x2, e14x3, e14x4]), (g7, [e12x0, e12x1, e12x2, e12x3, e12x4])] W9) := hb
  clear hb hS X8
  obtain ⟨c00, c01, c02, c03, c04⟩ := cells5 (X9.out.row (g := g8 + 1) (x := [e12x0, e12x1, e12x2, e12x3, e12x4]) (by simp))
  have k0 := X9.out.lt (g := g8 + 1) (x := [e12x0, e12x1, e12x2, e12x3, e12x4]) (by simp)
  obtain ⟨c10, c11, c12, c13, c14⟩ := cells5 (X9.out.row (g := g7) (x := [e12x0, e12x1, e12x2, e12x3, e12x4]) (by simp))
  have k1 := X9.out.lt (g := g7) (x := [e12x0, e12x1, e12x2, e12x3, e12x4]) (by simp)
  go_wp2_with (fail)
  clear c00 c01 c02 c03 c04 k0
  clear c10 c11 c12 c13 c14 k1
  have C57 : Hid (∀ w, Calls Try.prog 6 #[.agg #[.int .u64 e12x0, .int .u64 e12x1, .int .u64 e12x2, .int .u64 e12x3, .int .u64 e12x4], .agg #[.int .u64 e12x0, .int .u64 e12x1, .int .u64 e12x2, .int .u64 e12x3, .int .u64 e12x4]] w fun e w' => e = .returned (.bool true) ∧ Below w.heap.size w w') := same_f L12.out L12.out _ (by simp)
  refine (C57.out _).mono ?_
  rintro e W10 ⟨rfl, hb⟩
  have X10 : Hid (Bs w [(w.heap.size + 1, y), (w.heap.size, x)] [(g8 + 1, [e12x0, e12x1, e12x2, e12x3, e12x4]), (g8 + 2, [e14x0, e14x1, e14x2, e14x3, e14x4]), (g8, [e14x0, e14x1, e14x2, e14x3, e14x4]), (g7, [e12x0, e12x1, e12x2, e12x3, e12x4])] W10) := X9.out.below hb
  clear hb X9
  obtain ⟨c00, c01, c02, c03, c04⟩ := cells5 (X10.out.row (g := g8 + 2) (x := [e14x0, e14x1, e14x2, e14x3, e14x4]) (by simp))
  have k0 := X10.out.lt (g := g8 + 2) (x := [e14x0, e14x1, e14x2, e14x3, e14x4]) (by simp)
  obtain ⟨c10, c11, c12, c13, c14⟩ := cells5 (X10.out.row (g := g8) (x := [e14x0, e14x1, e14x2, e14x3, e14x4]) (by simp))
  have k1 := X10.out.lt (g := g8) (x := [e14x0, e14x1, e14x2, e14x3, e14x4]) (by simp)
  go_wp2_with (fail)
  clear c00 c01 c02 c03 c04 k0
  clear c10 c11 c12 c13 c14 k1
  have C61 : Hid (∀ w, Calls Try.prog 6 #[.agg #[.int .u64 e14x0, .int .u64 e14x1, .int .u64 e14x2, .int .u64 e14x3, .int .u64 e14x4], .agg #[.int .u64 e14x0, .int .u64 e14x1, .int .u64 e14x2, .int .u64 e14x3, .int .u64 e14x4]] w fun e w' => e = .returned (.bool true) ∧ Below w.heap.size w w') := same_f L14.out L14.out _ (by simp)
  refine (C61.out _).mono ?_
  rintro e W11 ⟨rfl, hb⟩
  have X11 : Hid (Bs w [(w.heap.size + 1, y), (w.heap.size, x)] [(g8 + 1, [e12x0, e12x1, e12x2, e12x3, e12x4]), (g8 + 2, [e14x0, e14x1, e14x2, e14x3, e14x4]), (g8, [e14x0, e14x1, e14x2, e14x3, e14x4]), (g7, [e12x0, e12x1, e12x2, e12x3, e12x4])] W11) := X10.out.below hb
  clear hb X10
  go_wp2_with (fail)
  have C64 : Hid (∀ w, Calls Try.prog 7 #[] w fun e w' => e = .returned (.bool true) ∧ Below w.heap.size w w') := known_any
  refine (C64.out _).mono ?_
  rintro e W12 ⟨rfl, hb⟩
  have X12 : Hid (Bs w [(w.heap.size + 1, y), (w.heap.size, x)] [(g8 + 1, [e12x0, e12x1, e12x2, e12x3, e12x4]), (g8 + 2, [e14x0, e14x1, e14x2, e14x3, e14x4]), (g8, [e14x0, e14x1, e14x2, e14x3, e14x4]), (g7, [e12x0, e12x1, e12x2, e12x3, e12x4])] W12) := X11.out.below hb
  clear hb X11
  go_wp2
  go_ret
  exact ⟨rfl, X12.out.old⟩
set_option maxRecDepth 100000 in
set_option maxHeartbeats 20000000 in
theorem swaps_even (x y : List Int) (hx : Key32 x) (hy : Key32 y) (s : Int) (s0 : 0 ≤ s) (s1 : s < 18446744073709551616) (hodd : ¬ s % 2 = 1) (w : World) :
    Calls Try.prog 3 #[.agg (VI .u8 x), .agg (VI .u8 y), .int .u64 s] w fun e w' => e = .returned (.bool true) ∧ Below w.heap.size w w' := by
  have HX : Hid (Key32 x) := hx
  have HY : Hid (Key32 y) := hy
  have HS0 : Hid (0 ≤ s) := s0
  have HS1 : Hid (s < 18446744073709551616) := s1
  have HODD : Hid (¬ s % 2 = 1) := hodd
  have hm : s % 2 = 0 := by omega
  have hs := bs_start2 w x y
  obtain ⟨W0, hW0⟩ : ∃ W, (w.alloc (.cells (VI .u8 x) 23)).alloc (.cells (VI .u8 y) 23) = W := ⟨_, rfl⟩
  rw [hW0] at hs
  have X0 : Hid (Bs w [(w.heap.size + 1, y), (w.heap.size, x)] [] W0) := hs
  clear hs hx hy hodd
  go_enter Try.func3, Try.ntmps3
  go_wp2_with (with_reducible refine at_list ?_; first | (refine wpList_load_row rfl 23 (.tmp 3) rfl (w.heap.size) rfl 23 (VI .u8 x) (0, 0) _ (X0.out.key (g := w.heap.size) (x := x) (by simp)) Try.underlying23 rfl (HX.out).info ?_))
  obtain ⟨e12x0, e12x1, e12x2, e12x3, e12x4, l12, n12, C12⟩ := dec_f (b := x) HX.out
  have L12 : Hid (Lim [e12x0, e12x1, e12x2, e12x3, e12x4]) := l12
  have N12 : Hid _ := n12
  clear l12 n12
  refine (C12.out _).mono ?_
  rintro e W1 ⟨rfl, hb⟩
  have X1 : Hid (Bs w [(w.heap.size + 1, y), (w.heap.size, x)] [] W1) := X0.out.below hb
  clear hb X0
  go_wp2_with (with_reducible refine at_list ?_; first | (refine wpList_load_row rfl 23 (.tmp 4) rfl (w.heap.size + 1) rfl 23 (VI .u8 y) (0, 0) _ ((X1.out.new [e12x0, e12x1, e12x2, e12x3, e12x4]).key (by simp)) Try.underlying23 rfl (HY.out).info ?_))
  obtain ⟨W2, hW⟩ : ∃ W, (W1.alloc (.cells #[.int .u64 e12x0, .int .u64 e12x1, .int .u64 e12x2, .int .u64 e12x3, .int .u64 e12x4] 27)) = W := ⟨_, rfl⟩
  have hN := (X1.out.new [e12x0, e12x1, e12x2, e12x3, e12x4])
  rw [show (W1.alloc (.cells (VI .u64 [e12x0, e12x1, e12x2, e12x3, e12x4]) 27)) = W2 from hW] at hN
  rw [hW]
  clear hW
  obtain ⟨g7, hg⟩ : ∃ g, W1.heap.size = g := ⟨_, rfl⟩
  have ow_heap_size_1_g7 : Hid (w.heap.size + 1 < g7) := by have h0 := X1.out.ltk (g := w.heap.size + 1) (x := y) (by simp); rw [hg] at h0; exact h0
  have ow_heap_size_g7 : Hid (w.heap.size < g7) := by have h0 := X1.out.ltk (g := w.heap.size) (x := x) (by simp); rw [hg] at h0; exact h0
  rw [hg] at hN
  try simp only [hg]
  clear hg
  have X2 : Hid (Bs w [(w.heap.size + 1, y), (w.heap.size, x)] [(g7, [e12x0, e12x1, e12x2, e12x3, e12x4])] W2) := hN
  clear hN X1
  obtain ⟨e14x0, e14x1, e14x2, e14x3, e14x4, l14, n14, C14⟩ := dec_f (b := y) HY.out
  have L14 : Hid (Lim [e14x0, e14x1, e14x2, e14x3, e14x4]) := l14
  have N14 : Hid _ := n14
  clear l14 n14
  refine (C14.out _).mono ?_
  rintro e W3 ⟨rfl, hb⟩
  have X3 : Hid (Bs w [(w.heap.size + 1, y), (w.heap.size, x)] [(g7, [e12x0, e12x1, e12x2, e12x3, e12x4])] W3) := X2.out.below hb
  clear hb X2
  obtain ⟨c00, c01, c02, c03, c04⟩ := cells5 (X3.out.row (g := g7) (x := [e12x0, e12x1, e12x2, e12x3, e12x4]) (by simp))
  have k0 := X3.out.lt (g := g7) (x := [e12x0, e12x1, e12x2, e12x3, e12x4]) (by simp)
  go_wp2_with (fail)
  clear c00 c01 c02 c03 c04 k0
  obtain ⟨W4, hW⟩ : ∃ W, (((W3.alloc (.cells #[.int .u64 e14x0, .int .u64 e14x1, .int .u64 e14x2, .int .u64 e14x3, .int .u64 e14x4] 27)).alloc (.cells #[.int .u64 e12x0, .int .u64 e12x1, .int .u64 e12x2, .int .u64 e12x3, .int .u64 e12x4] 27)).alloc (.cells #[.int .u64 e14x0, .int .u64 e14x1, .int .u64 e14x2, .int .u64 e14x3, .int .u64 e14x4] 27)) = W := ⟨_, rfl⟩
  have hN := (((X3.out.new [e14x0, e14x1, e14x2, e14x3, e14x4]).new [e12x0, e12x1, e12x2, e12x3, e12x4]).new [e14x0, e14x1, e14x2, e14x3, e14x4])
  rw [show (((W3.alloc (.cells (VI .u64 [e14x0, e14x1, e14x2, e14x3, e14x4]) 27)).alloc (.cells (VI .u64 [e12x0, e12x1, e12x2, e12x3, e12x4]) 27)).alloc (.cells (VI .u64 [e14x0, e14x1, e14x2, e14x3, e14x4]) 27)) = W4 from hW] at hN
  rw [size_alloc] at hN
  rw [size_alloc] at hN
  rw [hW]
  clear hW
  obtain ⟨g8, hg⟩ : ∃ g, W3.heap.size = g := ⟨_, rfl⟩
  have og7_g8 : Hid (g7 < g8) := by have h0 := X3.out.lt (g := g7) (x := [e12x0, e12x1, e12x2, e12x3, e12x4]) (by simp); rw [hg] at h0; exact h0
  have ow_heap_size_1_g8 : Hid (w.heap.size + 1 < g8) := by have h0 := X3.out.ltk (g := w.heap.size + 1) (x := y) (by simp); rw [hg] at h0; exact h0
  have ow_heap_size_g8 : Hid (w.heap.size < g8) := by have h0 := X3.out.ltk (g := w.heap.size) (x := x) (by simp); rw [hg] at h0; exact h0
  rw [hg] at hN
  try simp only [hg]
  clear hg
  have X4 : Hid (Bs w [(w.heap.size + 1, y), (w.heap.size, x)] [(g8 + 2, [e14x0, e14x1, e14x2, e14x3, e14x4]), (g8 + 1, [e12x0, e12x1, e12x2, e12x3, e12x4]), (g8, [e14x0, e14x1, e14x2, e14x3, e14x4]), (g7, [e12x0, e12x1, e12x2, e12x3, e12x4])] W4) := hN
  clear hN X3
  have hS : Bs w [(w.heap.size + 1, y), (w.heap.size, x)] ((g8 + 1, [e12x0, e12x1, e12x2, e12x3, e12x4]) :: (g8 + 2, [e14x0, e14x1, e14x2, e14x3, e14x4]) :: [(g8, [e14x0, e14x1, e14x2, e14x3, e14x4]), (g7, [e12x0, e12x1, e12x2, e12x3, e12x4])]) W4 := X4.out.sub (by simp)
  refine (bs_swap hS (L12.out) (L14.out) (by omega) (by have := ow_heap_size_1_g7.out; have := ow_heap_size_g7.out; have := og7_g8.out; have := ow_heap_size_1_g8.out; have := ow_heap_size_g8.out; omega) (by have := ow_heap_size_1_g7.out; have := ow_heap_size_g7.out; have := og7_g8.out; have := ow_heap_size_1_g8.out; have := ow_heap_size_g8.out; omega) (by have := ow_heap_size_1_g7.out; have := ow_heap_size_g7.out; have := og7_g8.out; have := ow_heap_size_1_g8.out; have := ow_heap_size_g8.out; simp only [List.mem_cons, List.not_mem_nil, or_false, forall_eq_or_imp, forall_eq]; omega) (by have := ow_heap_size_1_g7.out; have := ow_heap_size_g7.out; have := og7_g8.out; have := ow_heap_size_1_g8.out; have := ow_heap_size_g8.out; simp only [List.mem_cons, List.not_mem_nil, or_false, forall_eq_or_imp, forall_eq]; omega) s HS0.out HS1.out).mono ?_
  rintro e W5 ⟨rfl, hb⟩
  rw [swp_even HODD.out, swp_even HODD.out] at hb
  have X5 : Hid (Bs w [(w.heap.size + 1, y), (w.heap.size, x)] [(g8 + 1, [e12x0, e12x1, e12x2, e12x3, e12x4]), (g8 + 2, [e14x0, e14x1, e14x2, e14x3, e14x4]), (g8, [e14x0, e14x1, e14x2, e14x3, e14x4]), (g7, [e12x0, e12x1, e12x2, e12x3, e12x4])] W5) := hb
  clear hb hS X4
  obtain ⟨c00, c01, c02, c03, c04⟩ := cells5 (X5.out.row (g := g8 + 1) (x := [e12x0, e12x1, e12x2, e12x3, e12x4]) (by simp))
  have k0 := X5.out.lt (g := g8 + 1) (x := [e12x0, e12x1, e12x2, e12x3, e12x4]) (by simp)
  obtain ⟨c10, c11, c12, c13, c14⟩ := cells5 (X5.out.row (g := g7) (x := [e12x0, e12x1, e12x2, e12x3, e12x4]) (by simp))
  have k1 := X5.out.lt (g := g7) (x := [e12x0, e12x1, e12x2, e12x3, e12x4]) (by simp)
  go_wp2_with (fail)
  clear c00 c01 c02 c03 c04 k0
  clear c10 c11 c12 c13 c14 k1
  have C41 : Hid (∀ w, Calls Try.prog 6 #[.agg #[.int .u64 e12x0, .int .u64 e12x1, .int .u64 e12x2, .int .u64 e12x3, .int .u64 e12x4], .agg #[.int .u64 e12x0, .int .u64 e12x1, .int .u64 e12x2, .int .u64 e12x3, .int .u64 e12x4]] w fun e w' => e = .returned (.bool true) ∧ Below w.heap.size w w') := same_f L12.out L12.out _ (by simp)
  refine (C41.out _).mono ?_
  rintro e W6 ⟨rfl, hb⟩
  have X6 : Hid (Bs w [(w.heap.size + 1, y), (w.heap.size, x)] [(g8 + 1, [e12x0, e12x1, e12x2, e12x3, e12x4]), (g8 + 2, [e14x0, e14x1, e14x2, e14x3, e14x4]), (g8, [e14x0, e14x1, e14x2, e14x3, e14x4]), (g7, [e12x0, e12x1, e12x2, e12x3, e12x4])] W6) := X5.out.below hb
  clear hb X5
  obtain ⟨c00, c01, c02, c03, c04⟩ := cells5 (X6.out.row (g := g8 + 2) (x := [e14x0, e14x1, e14x2, e14x3, e14x4]) (by simp))
  have k0 := X6.out.lt (g := g8 + 2) (x := [e14x0, e14x1, e14x2, e14x3, e14x4]) (by simp)
  obtain ⟨c10, c11, c12, c13, c14⟩ := cells5 (X6.out.row (g := g8) (x := [e14x0, e14x1, e14x2, e14x3, e14x4]) (by simp))
  have k1 := X6.out.lt (g := g8) (x := [e14x0, e14x1, e14x2, e14x3, e14x4]) (by simp)
  go_wp2_with (fail)
  clear c00 c01 c02 c03 c04 k0
  clear c10 c11 c12 c13 c14 k1
  have C46 : Hid (∀ w, Calls Try.prog 6 #[.agg #[.int .u64 e14x0, .int .u64 e14x1, .int .u64 e14x2, .int .u64 e14x3, .int .u64 e14x4], .agg #[.int .u64 e14x0, .int .u64 e14x1, .int .u64 e14x2, .int .u64 e14x3, .int .u64 e14x4]] w fun e w' => e = .returned (.bool true) ∧ Below w.heap.size w w') := same_f L14.out L14.out _ (by simp)
  refine (C46.out _).mono ?_
  rintro e W7 ⟨rfl, hb⟩
  have X7 : Hid (Bs w [(w.heap.size + 1, y), (w.heap.size, x)] [(g8 + 1, [e12x0, e12x1, e12x2, e12x3, e12x4]), (g8 + 2, [e14x0, e14x1, e14x2, e14x3, e14x4]), (g8, [e14x0, e14x1, e14x2, e14x3, e14x4]), (g7, [e12x0, e12x1, e12x2, e12x3, e12x4])] W7) := X6.out.below hb
  clear hb X6
  go_wp2_with (fail)
  have hS : Bs w [(w.heap.size + 1, y), (w.heap.size, x)] ((g8 + 1, [e12x0, e12x1, e12x2, e12x3, e12x4]) :: (g8 + 2, [e14x0, e14x1, e14x2, e14x3, e14x4]) :: [(g8, [e14x0, e14x1, e14x2, e14x3, e14x4]), (g7, [e12x0, e12x1, e12x2, e12x3, e12x4])]) W7 := X7.out.sub (by simp)
  refine (bs_swap hS (L12.out) (L14.out) (by omega) (by have := ow_heap_size_1_g7.out; have := ow_heap_size_g7.out; have := og7_g8.out; have := ow_heap_size_1_g8.out; have := ow_heap_size_g8.out; omega) (by have := ow_heap_size_1_g7.out; have := ow_heap_size_g7.out; have := og7_g8.out; have := ow_heap_size_1_g8.out; have := ow_heap_size_g8.out; omega) (by have := ow_heap_size_1_g7.out; have := ow_heap_size_g7.out; have := og7_g8.out; have := ow_heap_size_1_g8.out; have := ow_heap_size_g8.out; simp only [List.mem_cons, List.not_mem_nil, or_false, forall_eq_or_imp, forall_eq]; omega) (by have := ow_heap_size_1_g7.out; have := ow_heap_size_g7.out; have := og7_g8.out; have := ow_heap_size_1_g8.out; have := ow_heap_size_g8.out; simp only [List.mem_cons, List.not_mem_nil, or_false, forall_eq_or_imp, forall_eq]; omega) s HS0.out HS1.out).mono ?_
  rintro e W8 ⟨rfl, hb⟩
  rw [swp_even HODD.out, swp_even HODD.out] at hb
  have X8 : Hid (Bs w [(w.heap.size + 1, y), (w.heap.size, x)] [(g8 + 1, [e12x0, e12x1, e12x2, e12x3, e12x4]), (g8 + 2, [e14x0, e14x1, e14x2, e14x3, e14x4]), (g8, [e14x0, e14x1, e14x2, e14x3, e14x4]), (g7, [e12x0, e12x1, e12x2, e12x3, e12x4])] W8) := hb
  clear hb hS X7
  go_wp2_with (fail)
  have hS : Bs w [(w.heap.size + 1, y), (w.heap.size, x)] ((g8 + 1, [e12x0, e12x1, e12x2, e12x3, e12x4]) :: [(g8 + 2, [e14x0, e14x1, e14x2, e14x3, e14x4]), (g8, [e14x0, e14x1, e14x2, e14x3, e14x4]), (g7, [e12x0, e12x1, e12x2, e12x3, e12x4])]) W8 := X8.out.sub (by simp)
  refine (bs_swap1 hS (L12.out) (by have := ow_heap_size_1_g7.out; have := ow_heap_size_g7.out; have := og7_g8.out; have := ow_heap_size_1_g8.out; have := ow_heap_size_g8.out; omega) (by have := ow_heap_size_1_g7.out; have := ow_heap_size_g7.out; have := og7_g8.out; have := ow_heap_size_1_g8.out; have := ow_heap_size_g8.out; simp only [List.mem_cons, List.not_mem_nil, or_false, forall_eq_or_imp, forall_eq]; omega) (by have := ow_heap_size_1_g7.out; have := ow_heap_size_g7.out; have := og7_g8.out; have := ow_heap_size_1_g8.out; have := ow_heap_size_g8.out; simp only [List.mem_cons, List.not_mem_nil, or_false, forall_eq_or_imp, forall_eq]; omega) s HS0.out HS1.out).mono ?_
  rintro e W9 ⟨rfl, hb⟩
  have X9 : Hid (Bs w [(w.heap.size + 1, y), (w.heap.size, x)] [(g8 + 1, [e12x0, e12x1, e12x2, e12x3, e12x4]), (g8 + 2, [e14x0, e14x1, e14x2, e14x3, e14x4]), (g8, [e14x0, e14x1, e14x2, e14x3, e14x4]), (g7, [e12x0, e12x1, e12x2, e12x3, e12x4])] W9) := hb
  clear hb hS X8
  obtain ⟨c00, c01, c02, c03, c04⟩ := cells5 (X9.out.row (g := g8 + 1) (x := [e12x0, e12x1, e12x2, e12x3, e12x4]) (by simp))
  have k0 := X9.out.lt (g := g8 + 1) (x := [e12x0, e12x1, e12x2, e12x3, e12x4]) (by simp)
  obtain ⟨c10, c11, c12, c13, c14⟩ := cells5 (X9.out.row (g := g7) (x := [e12x0, e12x1, e12x2, e12x3, e12x4]) (by simp))
  have k1 := X9.out.lt (g := g7) (x := [e12x0, e12x1, e12x2, e12x3, e12x4]) (by simp)
  go_wp2_with (fail)
  clear c00 c01 c02 c03 c04 k0
  clear c10 c11 c12 c13 c14 k1
  have C57 : Hid (∀ w, Calls Try.prog 6 #[.agg #[.int .u64 e12x0, .int .u64 e12x1, .int .u64 e12x2, .int .u64 e12x3, .int .u64 e12x4], .agg #[.int .u64 e12x0, .int .u64 e12x1, .int .u64 e12x2, .int .u64 e12x3, .int .u64 e12x4]] w fun e w' => e = .returned (.bool true) ∧ Below w.heap.size w w') := same_f L12.out L12.out _ (by simp)
  refine (C57.out _).mono ?_
  rintro e W10 ⟨rfl, hb⟩
  have X10 : Hid (Bs w [(w.heap.size + 1, y), (w.heap.size, x)] [(g8 + 1, [e12x0, e12x1, e12x2, e12x3, e12x4]), (g8 + 2, [e14x0, e14x1, e14x2, e14x3, e14x4]), (g8, [e14x0, e14x1, e14x2, e14x3, e14x4]), (g7, [e12x0, e12x1, e12x2, e12x3, e12x4])] W10) := X9.out.below hb
  clear hb X9
  obtain ⟨c00, c01, c02, c03, c04⟩ := cells5 (X10.out.row (g := g8 + 2) (x := [e14x0, e14x1, e14x2, e14x3, e14x4]) (by simp))
  have k0 := X10.out.lt (g := g8 + 2) (x := [e14x0, e14x1, e14x2, e14x3, e14x4]) (by simp)
  obtain ⟨c10, c11, c12, c13, c14⟩ := cells5 (X10.out.row (g := g8) (x := [e14x0, e14x1, e14x2, e14x3, e14x4]) (by simp))
  have k1 := X10.out.lt (g := g8) (x := [e14x0, e14x1, e14x2, e14x3, e14x4]) (by simp)
  go_wp2_with (fail)
  clear c00 c01 c02 c03 c04 k0
  clear c10 c11 c12 c13 c14 k1
  have C61 : Hid (∀ w, Calls Try.prog 6 #[.agg #[.int .u64 e14x0, .int .u64 e14x1, .int .u64 e14x2, .int .u64 e14x3, .int .u64 e14x4], .agg #[.int .u64 e14x0, .int .u64 e14x1, .int .u64 e14x2, .int .u64 e14x3, .int .u64 e14x4]] w fun e w' => e = .returned (.bool true) ∧ Below w.heap.size w w') := same_f L14.out L14.out _ (by simp)
  refine (C61.out _).mono ?_
  rintro e W11 ⟨rfl, hb⟩
  have X11 : Hid (Bs w [(w.heap.size + 1, y), (w.heap.size, x)] [(g8 + 1, [e12x0, e12x1, e12x2, e12x3, e12x4]), (g8 + 2, [e14x0, e14x1, e14x2, e14x3, e14x4]), (g8, [e14x0, e14x1, e14x2, e14x3, e14x4]), (g7, [e12x0, e12x1, e12x2, e12x3, e12x4])] W11) := X10.out.below hb
  clear hb X10
  go_wp2_with (fail)
  have C64 : Hid (∀ w, Calls Try.prog 7 #[] w fun e w' => e = .returned (.bool true) ∧ Below w.heap.size w w') := known_any
  refine (C64.out _).mono ?_
  rintro e W12 ⟨rfl, hb⟩
  have X12 : Hid (Bs w [(w.heap.size + 1, y), (w.heap.size, x)] [(g8 + 1, [e12x0, e12x1, e12x2, e12x3, e12x4]), (g8 + 2, [e14x0, e14x1, e14x2, e14x3, e14x4]), (g8, [e14x0, e14x1, e14x2, e14x3, e14x4]), (g7, [e12x0, e12x1, e12x2, e12x3, e12x4])] W12) := X11.out.below hb
  clear hb X11
  go_wp2
  go_ret
  exact ⟨rfl, X12.out.old⟩
end Go.Proofs.Yteimmjdiaophoab
