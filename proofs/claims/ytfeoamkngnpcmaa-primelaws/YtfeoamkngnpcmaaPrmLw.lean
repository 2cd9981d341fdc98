import Derived.Test.YtfeoamkngnpcmaaPrmLw9
import Derived.Test.YtfeoamkngnpcmaaPrmLw16
import Derived.Test.YtfeoamkngnpcmaaPrmLw21
namespace Go.Proofs.Ytfeoamkngnpcmaa
set_option linter.unusedSimpArgs false
set_option linter.unusedVariables false
open Go.ChangeShapes Go.WideShapes Go.ChangeAt Go.RowKit Go.Pin Go.Prm
set_option maxRecDepth 100000 in
set_option maxHeartbeats 20000000 in
theorem laws_walk (x y z : List Int) (hx : Key17 x) (hy : Key17 y) (hz : Key17 z) (w : World) :
    Calls Try.prog 6 #[.agg (VI .u8 x), .agg (VI .u8 y), .agg (VI .u8 z)] w fun e w' => e = .returned (.bool true) ∧ Below w.heap.size w w' := by
  have HX : Hid (Key17 x) := hx
  have HY : Hid (Key17 y) := hy
  have HZ : Hid (Key17 z) := hz
  have HNL : Hid (0 ≤ w.heap.size) := Nat.zero_le _
  have hs := bs_start3 w x y z
  obtain ⟨W0, hW0⟩ : ∃ W, ((w.alloc (.cells (VI .u8 x) 39)).alloc (.cells (VI .u8 y) 39)).alloc (.cells (VI .u8 z) 39) = W := ⟨_, rfl⟩
  rw [hW0] at hs
  have X0 : Hid (Bs w [(w.heap.size + 2, z), (w.heap.size + 1, y), (w.heap.size, x)] [] W0) := hs
  clear hs hx hy hz
  go_enter Try.func6, Try.ntmps6
  go_wp2_with (with_reducible refine at_list ?_; first | (refine wpList_load_row rfl 39 (.tmp 3) rfl (w.heap.size) rfl 39 (VI .u8 x) (0, 0) _ (X0.out.key (g := w.heap.size) (x := x) (by simp)) Try.underlying39 rfl (HX.out).info ?_))
  obtain ⟨e20x0, e20x1, e20x2, e20x3, e20x4, l20, n20, C20⟩ := block_f (b := x) HX.out
  have L20 : Hid (Lim [e20x0, e20x1, e20x2, e20x3, e20x4]) := l20
  have N20 : Hid _ := n20
  clear l20 n20
  refine (C20.out _).mono ?_
  rintro e W1 ⟨rfl, hb⟩
  have X1 : Hid (Bs w [(w.heap.size + 2, z), (w.heap.size + 1, y), (w.heap.size, x)] [] W1) := X0.out.below hb
  clear hb X0
  go_wp2_with (with_reducible refine at_list ?_; first | (refine wpList_load_row rfl 39 (.tmp 4) rfl (w.heap.size + 1) rfl 39 (VI .u8 y) (0, 0) _ ((X1.out.new [e20x0, e20x1, e20x2, e20x3, e20x4]).key (by simp)) Try.underlying39 rfl (HY.out).info ?_))
  obtain ⟨W2, hW⟩ : ∃ W, (W1.alloc (.cells #[.int .u64 e20x0, .int .u64 e20x1, .int .u64 e20x2, .int .u64 e20x3, .int .u64 e20x4] 29)) = W := ⟨_, rfl⟩
  have hN := (X1.out.new [e20x0, e20x1, e20x2, e20x3, e20x4])
  rw [show (W1.alloc (.cells (VI .u64 [e20x0, e20x1, e20x2, e20x3, e20x4]) 29)) = W2 from hW] at hN
  rw [hW]
  clear hW
  obtain ⟨g7, hg⟩ : ∃ g, W1.heap.size = g := ⟨_, rfl⟩
  have ow_heap_size_2_g7 : Hid (w.heap.size + 2 < g7) := by have h0 := X1.out.ltk (g := w.heap.size + 2) (x := z) (by simp); rw [hg] at h0; exact h0
  have ow_heap_size_1_g7 : Hid (w.heap.size + 1 < g7) := by have h0 := X1.out.ltk (g := w.heap.size + 1) (x := y) (by simp); rw [hg] at h0; exact h0
  have ow_heap_size_g7 : Hid (w.heap.size < g7) := by have h0 := X1.out.ltk (g := w.heap.size) (x := x) (by simp); rw [hg] at h0; exact h0
  rw [hg] at hN
  try simp only [hg]
  clear hg
  have X2 : Hid (Bs w [(w.heap.size + 2, z), (w.heap.size + 1, y), (w.heap.size, x)] [(g7, [e20x0, e20x1, e20x2, e20x3, e20x4])] W2) := hN
  clear hN X1
  obtain ⟨e22x0, e22x1, e22x2, e22x3, e22x4, l22, n22, C22⟩ := block_f (b := y) HY.out
  have L22 : Hid (Lim [e22x0, e22x1, e22x2, e22x3, e22x4]) := l22
  have N22 : Hid _ := n22
  clear l22 n22
  refine (C22.out _).mono ?_
  rintro e W3 ⟨rfl, hb⟩
  have X3 : Hid (Bs w [(w.heap.size + 2, z), (w.heap.size + 1, y), (w.heap.size, x)] [(g7, [e20x0, e20x1, e20x2, e20x3, e20x4])] W3) := X2.out.below hb
  clear hb X2
  go_wp2_with (with_reducible refine at_list ?_; first | (refine wpList_load_row rfl 39 (.tmp 5) rfl (w.heap.size + 2) rfl 39 (VI .u8 z) (0, 0) _ ((X3.out.new [e22x0, e22x1, e22x2, e22x3, e22x4]).key (by simp)) Try.underlying39 rfl (HZ.out).info ?_))
  obtain ⟨W4, hW⟩ : ∃ W, (W3.alloc (.cells #[.int .u64 e22x0, .int .u64 e22x1, .int .u64 e22x2, .int .u64 e22x3, .int .u64 e22x4] 29)) = W := ⟨_, rfl⟩
  have hN := (X3.out.new [e22x0, e22x1, e22x2, e22x3, e22x4])
  rw [show (W3.alloc (.cells (VI .u64 [e22x0, e22x1, e22x2, e22x3, e22x4]) 29)) = W4 from hW] at hN
  rw [hW]
  clear hW
  obtain ⟨g8, hg⟩ : ∃ g, W3.heap.size = g := ⟨_, rfl⟩
  have og7_g8 : Hid (g7 < g8) := by have h0 := X3.out.lt (g := g7) (x := [e20x0, e20x1, e20x2, e20x3, e20x4]) (by simp); rw [hg] at h0; exact h0
  have ow_heap_size_2_g8 : Hid (w.heap.size + 2 < g8) := by have h0 := X3.out.ltk (g := w.heap.size + 2) (x := z) (by simp); rw [hg] at h0; exact h0
  have ow_heap_size_1_g8 : Hid (w.heap.size + 1 < g8) := by have h0 := X3.out.ltk (g := w.heap.size + 1) (x := y) (by simp); rw [hg] at h0; exact h0
  have ow_heap_size_g8 : Hid (w.heap.size < g8) := by have h0 := X3.out.ltk (g := w.heap.size) (x := x) (by simp); rw [hg] at h0; exact h0
  rw [hg] at hN
  try simp only [hg]
  clear hg
  have X4 : Hid (Bs w [(w.heap.size + 2, z), (w.heap.size + 1, y), (w.heap.size, x)] [(g8, [e22x0, e22x1, e22x2, e22x3, e22x4]), (g7, [e20x0, e20x1, e20x2, e20x3, e20x4])] W4) := hN
  clear hN X3
  obtain ⟨e24x0, e24x1, e24x2, e24x3, e24x4, l24, n24, C24⟩ := block_f (b := z) HZ.out
  have L24 : Hid (Lim [e24x0, e24x1, e24x2, e24x3, e24x4]) := l24
  have N24 : Hid _ := n24
  clear l24 n24
  refine (C24.out _).mono ?_
  rintro e W5 ⟨rfl, hb⟩
  have X5 : Hid (Bs w [(w.heap.size + 2, z), (w.heap.size + 1, y), (w.heap.size, x)] [(g8, [e22x0, e22x1, e22x2, e22x3, e22x4]), (g7, [e20x0, e20x1, e20x2, e20x3, e20x4])] W5) := X4.out.below hb
  clear hb X4
  obtain ⟨c00, c01, c02, c03, c04⟩ := cells5 (X5.out.row (g := g7) (x := [e20x0, e20x1, e20x2, e20x3, e20x4]) (by simp))
  have k0 := X5.out.lt (g := g7) (x := [e20x0, e20x1, e20x2, e20x3, e20x4]) (by simp)
  obtain ⟨c10, c11, c12, c13, c14⟩ := cells5 (X5.out.row (g := g8) (x := [e22x0, e22x1, e22x2, e22x3, e22x4]) (by simp))
  have k1 := X5.out.lt (g := g8) (x := [e22x0, e22x1, e22x2, e22x3, e22x4]) (by simp)
  go_wp2_with (fail)
  clear c00 c01 c02 c03 c04 k0
  clear c10 c11 c12 c13 c14 k1
  obtain ⟨W6, hW⟩ : ∃ W, (W5.alloc (.cells #[.int .u64 e24x0, .int .u64 e24x1, .int .u64 e24x2, .int .u64 e24x3, .int .u64 e24x4] 29)) = W := ⟨_, rfl⟩
  have hN := (X5.out.new [e24x0, e24x1, e24x2, e24x3, e24x4])
  rw [show (W5.alloc (.cells (VI .u64 [e24x0, e24x1, e24x2, e24x3, e24x4]) 29)) = W6 from hW] at hN
  rw [hW]
  clear hW
  obtain ⟨g9, hg⟩ : ∃ g, W5.heap.size = g := ⟨_, rfl⟩
  have og8_g9 : Hid (g8 < g9) := by have h0 := X5.out.lt (g := g8) (x := [e22x0, e22x1, e22x2, e22x3, e22x4]) (by simp); rw [hg] at h0; exact h0
  have og7_g9 : Hid (g7 < g9) := by have h0 := X5.out.lt (g := g7) (x := [e20x0, e20x1, e20x2, e20x3, e20x4]) (by simp); rw [hg] at h0; exact h0
  have ow_heap_size_2_g9 : Hid (w.heap.size + 2 < g9) := by have h0 := X5.out.ltk (g := w.heap.size + 2) (x := z) (by simp); rw [hg] at h0; exact h0
  have ow_heap_size_1_g9 : Hid (w.heap.size + 1 < g9) := by have h0 := X5.out.ltk (g := w.heap.size + 1) (x := y) (by simp); rw [hg] at h0; exact h0
  have ow_heap_size_g9 : Hid (w.heap.size < g9) := by have h0 := X5.out.ltk (g := w.heap.size) (x := x) (by simp); rw [hg] at h0; exact h0
  rw [hg] at hN
  try simp only [hg]
  clear hg
  have X6 : Hid (Bs w [(w.heap.size + 2, z), (w.heap.size + 1, y), (w.heap.size, x)] [(g9, [e24x0, e24x1, e24x2, e24x3, e24x4]), (g8, [e22x0, e22x1, e22x2, e22x3, e22x4]), (g7, [e20x0, e20x1, e20x2, e20x3, e20x4])] W6) := hN
  clear hN X5
  obtain ⟨e27x0, e27x1, e27x2, e27x3, e27x4, l27, n27, C27⟩ := add_f L20.out L22.out
  have L27 : Hid (Lim [e27x0, e27x1, e27x2, e27x3, e27x4]) := l27
  have N27 : Hid _ := n27
  clear l27 n27
  refine (C27.out _).mono ?_
  rintro e W7 ⟨rfl, hb⟩
  have X7 : Hid (Bs w [(w.heap.size + 2, z), (w.heap.size + 1, y), (w.heap.size, x)] [(g9, [e24x0, e24x1, e24x2, e24x3, e24x4]), (g8, [e22x0, e22x1, e22x2, e22x3, e22x4]), (g7, [e20x0, e20x1, e20x2, e20x3, e20x4])] W7) := X6.out.below hb
  clear hb X6
  obtain ⟨c00, c01, c02, c03, c04⟩ := cells5 (X7.out.row (g := g8) (x := [e22x0, e22x1, e22x2, e22x3, e22x4]) (by simp))
  have k0 := X7.out.lt (g := g8) (x := [e22x0, e22x1, e22x2, e22x3, e22x4]) (by simp)
  obtain ⟨c10, c11, c12, c13, c14⟩ := cells5 (X7.out.row (g := g7) (x := [e20x0, e20x1, e20x2, e20x3, e20x4]) (by simp))
  have k1 := X7.out.lt (g := g7) (x := [e20x0, e20x1, e20x2, e20x3, e20x4]) (by simp)
  go_wp2_with (fail)
  clear c00 c01 c02 c03 c04 k0
  clear c10 c11 c12 c13 c14 k1
  obtain ⟨W8, hW⟩ : ∃ W, (W7.alloc (.cells #[.int .u64 e27x0, .int .u64 e27x1, .int .u64 e27x2, .int .u64 e27x3, .int .u64 e27x4] 29)) = W := ⟨_, rfl⟩
  have hN := (X7.out.new [e27x0, e27x1, e27x2, e27x3, e27x4])
  rw [show (W7.alloc (.cells (VI .u64 [e27x0, e27x1, e27x2, e27x3, e27x4]) 29)) = W8 from hW] at hN
  rw [hW]
  clear hW
  obtain ⟨g10, hg⟩ : ∃ g, W7.heap.size = g := ⟨_, rfl⟩
  have og9_g10 : Hid (g9 < g10) := by have h0 := X7.out.lt (g := g9) (x := [e24x0, e24x1, e24x2, e24x3, e24x4]) (by simp); rw [hg] at h0; exact h0
  have og8_g10 : Hid (g8 < g10) := by have h0 := X7.out.lt (g := g8) (x := [e22x0, e22x1, e22x2, e22x3, e22x4]) (by simp); rw [hg] at h0; exact h0
  have og7_g10 : Hid (g7 < g10) := by have h0 := X7.out.lt (g := g7) (x := [e20x0, e20x1, e20x2, e20x3, e20x4]) (by simp); rw [hg] at h0; exact h0
  have ow_heap_size_2_g10 : Hid (w.heap.size + 2 < g10) := by have h0 := X7.out.ltk (g := w.heap.size + 2) (x := z) (by simp); rw [hg] at h0; exact h0
  have ow_heap_size_1_g10 : Hid (w.heap.size + 1 < g10) := by have h0 := X7.out.ltk (g := w.heap.size + 1) (x := y) (by simp); rw [hg] at h0; exact h0
  have ow_heap_size_g10 : Hid (w.heap.size < g10) := by have h0 := X7.out.ltk (g := w.heap.size) (x := x) (by simp); rw [hg] at h0; exact h0
  rw [hg] at hN
  try simp only [hg]
  clear hg
  have X8 : Hid (Bs w [(w.heap.size + 2, z), (w.heap.size + 1, y), (w.heap.size, x)] [(g10, [e27x0, e27x1, e27x2, e27x3, e27x4]), (g9, [e24x0, e24x1, e24x2, e24x3, e24x4]), (g8, [e22x0, e22x1, e22x2, e22x3, e22x4]), (g7, [e20x0, e20x1, e20x2, e20x3, e20x4])] W8) := hN
  clear hN X7
  obtain ⟨e30x0, e30x1, e30x2, e30x3, e30x4, l30, n30, C30⟩ := add_f L22.out L20.out
  have L30 : Hid (Lim [e30x0, e30x1, e30x2, e30x3, e30x4]) := l30
  have N30 : Hid _ := n30
  clear l30 n30
  refine (C30.out _).mono ?_
  rintro e W9 ⟨rfl, hb⟩
  have X9 : Hid (Bs w [(w.heap.size + 2, z), (w.heap.size + 1, y), (w.heap.size, x)] [(g10, [e27x0, e27x1, e27x2, e27x3, e27x4]), (g9, [e24x0, e24x1, e24x2, e24x3, e24x4]), (g8, [e22x0, e22x1, e22x2, e22x3, e22x4]), (g7, [e20x0, e20x1, e20x2, e20x3, e20x4])] W9) := X8.out.below hb
  clear hb X8
  obtain ⟨c00, c01, c02, c03, c04⟩ := cells5 (X9.out.row (g := g8) (x := [e22x0, e22x1, e22x2, e22x3, e22x4]) (by simp))
  have k0 := X9.out.lt (g := g8) (x := [e22x0, e22x1, e22x2, e22x3, e22x4]) (by simp)
  obtain ⟨c10, c11, c12, c13, c14⟩ := cells5 (X9.out.row (g := g9) (x := [e24x0, e24x1, e24x2, e24x3, e24x4]) (by simp))
  have k1 := X9.out.lt (g := g9) (x := [e24x0, e24x1, e24x2, e24x3, e24x4]) (by simp)
  go_wp2_with (fail)
  clear c00 c01 c02 c03 c04 k0
  clear c10 c11 c12 c13 c14 k1
  obtain ⟨W10, hW⟩ : ∃ W, (W9.alloc (.cells #[.int .u64 e30x0, .int .u64 e30x1, .int .u64 e30x2, .int .u64 e30x3, .int .u64 e30x4] 29)) = W := ⟨_, rfl⟩
  have hN := (X9.out.new [e30x0, e30x1, e30x2, e30x3, e30x4])
  rw [show (W9.alloc (.cells (VI .u64 [e30x0, e30x1, e30x2, e30x3, e30x4]) 29)) = W10 from hW] at hN
  rw [hW]
  clear hW
  obtain ⟨g11, hg⟩ : ∃ g, W9.heap.size = g := ⟨_, rfl⟩
  have og10_g11 : Hid (g10 < g11) := by have h0 := X9.out.lt (g := g10) (x := [e27x0, e27x1, e27x2, e27x3, e27x4]) (by simp); rw [hg] at h0; exact h0
  have og9_g11 : Hid (g9 < g11) := by have h0 := X9.out.lt (g := g9) (x := [e24x0, e24x1, e24x2, e24x3, e24x4]) (by simp); rw [hg] at h0; exact h0
  have og8_g11 : Hid (g8 < g11) := by have h0 := X9.out.lt (g := g8) (x := [e22x0, e22x1, e22x2, e22x3, e22x4]) (by simp); rw [hg] at h0; exact h0
  have og7_g11 : Hid (g7 < g11) := by have h0 := X9.out.lt (g := g7) (x := [e20x0, e20x1, e20x2, e20x3, e20x4]) (by simp); rw [hg] at h0; exact h0
  have ow_heap_size_2_g11 : Hid (w.heap.size + 2 < g11) := by have h0 := X9.out.ltk (g := w.heap.size + 2) (x := z) (by simp); rw [hg] at h0; exact h0
  have ow_heap_size_1_g11 : Hid (w.heap.size + 1 < g11) := by have h0 := X9.out.ltk (g := w.heap.size + 1) (x := y) (by simp); rw [hg] at h0; exact h0
  have ow_heap_size_g11 : Hid (w.heap.size < g11) := by have h0 := X9.out.ltk (g := w.heap.size) (x := x) (by simp); rw [hg] at h0; exact h0
  rw [hg] at hN
  try simp only [hg]
  clear hg
  have X10 : Hid (Bs w [(w.heap.size + 2, z), (w.heap.size + 1, y), (w.heap.size, x)] [(g11, [e30x0, e30x1, e30x2, e30x3, e30x4]), (g10, [e27x0, e27x1, e27x2, e27x3, e27x4]), (g9, [e24x0, e24x1, e24x2, e24x3, e24x4]), (g8, [e22x0, e22x1, e22x2, e22x3, e22x4]), (g7, [e20x0, e20x1, e20x2, e20x3, e20x4])] W10) := hN
  clear hN X9
  obtain ⟨e33x0, e33x1, e33x2, e33x3, e33x4, l33, n33, C33⟩ := add_f L22.out L24.out
  have L33 : Hid (Lim [e33x0, e33x1, e33x2, e33x3, e33x4]) := l33
  have N33 : Hid _ := n33
  clear l33 n33
  refine (C33.out _).mono ?_
  rintro e W11 ⟨rfl, hb⟩
  have X11 : Hid (Bs w [(w.heap.size + 2, z), (w.heap.size + 1, y), (w.heap.size, x)] [(g11, [e30x0, e30x1, e30x2, e30x3, e30x4]), (g10, [e27x0, e27x1, e27x2, e27x3, e27x4]), (g9, [e24x0, e24x1, e24x2, e24x3, e24x4]), (g8, [e22x0, e22x1, e22x2, e22x3, e22x4]), (g7, [e20x0, e20x1, e20x2, e20x3, e20x4])] W11) := X10.out.below hb
  clear hb X10
  obtain ⟨c00, c01, c02, c03, c04⟩ := cells5 (X11.out.row (g := g10) (x := [e27x0, e27x1, e27x2, e27x3, e27x4]) (by simp))
  have k0 := X11.out.lt (g := g10) (x := [e27x0, e27x1, e27x2, e27x3, e27x4]) (by simp)
  obtain ⟨c10, c11, c12, c13, c14⟩ := cells5 (X11.out.row (g := g9) (x := [e24x0, e24x1, e24x2, e24x3, e24x4]) (by simp))
  have k1 := X11.out.lt (g := g9) (x := [e24x0, e24x1, e24x2, e24x3, e24x4]) (by simp)
  go_wp2_with (fail)
  clear c00 c01 c02 c03 c04 k0
  clear c10 c11 c12 c13 c14 k1
  obtain ⟨W12, hW⟩ : ∃ W, (W11.alloc (.cells #[.int .u64 e33x0, .int .u64 e33x1, .int .u64 e33x2, .int .u64 e33x3, .int .u64 e33x4] 29)) = W := ⟨_, rfl⟩
  have hN := (X11.out.new [e33x0, e33x1, e33x2, e33x3, e33x4])
  rw [show (W11.alloc (.cells (VI .u64 [e33x0, e33x1, e33x2, e33x3, e33x4]) 29)) = W12 from hW] at hN
  rw [hW]
  clear hW
  obtain ⟨g12, hg⟩ : ∃ g, W11.heap.size = g := ⟨_, rfl⟩
  have og11_g12 : Hid (g11 < g12) := by have h0 := X11.out.lt (g := g11) (x := [e30x0, e30x1, e30x2, e30x3, e30x4]) (by simp); rw [hg] at h0; exact h0
  have og10_g12 : Hid (g10 < g12) := by have h0 := X11.out.lt (g := g10) (x := [e27x0, e27x1, e27x2, e27x3, e27x4]) (by simp); rw [hg] at h0; exact h0
  have og9_g12 : Hid (g9 < g12) := by have h0 := X11.out.lt (g := g9) (x := [e24x0, e24x1, e24x2, e24x3, e24x4]) (by simp); rw [hg] at h0; exact h0
  have og8_g12 : Hid (g8 < g12) := by have h0 := X11.out.lt (g := g8) (x := [e22x0, e22x1, e22x2, e22x3, e22x4]) (by simp); rw [hg] at h0; exact h0
  have og7_g12 : Hid (g7 < g12) := by have h0 := X11.out.lt (g := g7) (x := [e20x0, e20x1, e20x2, e20x3, e20x4]) (by simp); rw [hg] at h0; exact h0
  have ow_heap_size_2_g12 : Hid (w.heap.size + 2 < g12) := by have h0 := X11.out.ltk (g := w.heap.size + 2) (x := z) (by simp); rw [hg] at h0; exact h0
  have ow_heap_size_1_g12 : Hid (w.heap.size + 1 < g12) := by have h0 := X11.out.ltk (g := w.heap.size + 1) (x := y) (by simp); rw [hg] at h0; exact h0
  have ow_heap_size_g12 : Hid (w.heap.size < g12) := by have h0 := X11.out.ltk (g := w.heap.size) (x := x) (by simp); rw [hg] at h0; exact h0
  rw [hg] at hN
  try simp only [hg]
  clear hg
  have X12 : Hid (Bs w [(w.heap.size + 2, z), (w.heap.size + 1, y), (w.heap.size, x)] [(g12, [e33x0, e33x1, e33x2, e33x3, e33x4]), (g11, [e30x0, e30x1, e30x2, e30x3, e30x4]), (g10, [e27x0, e27x1, e27x2, e27x3, e27x4]), (g9, [e24x0, e24x1, e24x2, e24x3, e24x4]), (g8, [e22x0, e22x1, e22x2, e22x3, e22x4]), (g7, [e20x0, e20x1, e20x2, e20x3, e20x4])] W12) := hN
  clear hN X11
  obtain ⟨e36x0, e36x1, e36x2, e36x3, e36x4, l36, n36, C36⟩ := add_f L27.out L24.out
  have L36 : Hid (Lim [e36x0, e36x1, e36x2, e36x3, e36x4]) := l36
  have N36 : Hid _ := n36
  clear l36 n36
  refine (C36.out _).mono ?_
  rintro e W13 ⟨rfl, hb⟩
  have X13 : Hid (Bs w [(w.heap.size + 2, z), (w.heap.size + 1, y), (w.heap.size, x)] [(g12, [e33x0, e33x1, e33x2, e33x3, e33x4]), (g11, [e30x0, e30x1, e30x2, e30x3, e30x4]), (g10, [e27x0, e27x1, e27x2, e27x3, e27x4]), (g9, [e24x0, e24x1, e24x2, e24x3, e24x4]), (g8, [e22x0, e22x1, e22x2, e22x3, e22x4]), (g7, [e20x0, e20x1, e20x2, e20x3, e20x4])] W13) := X12.out.below hb
  clear hb X12
  obtain ⟨c00, c01, c02, c03, c04⟩ := cells5 (X13.out.row (g := g7) (x := [e20x0, e20x1, e20x2, e20x3, e20x4]) (by simp))
  have k0 := X13.out.lt (g := g7) (x := [e20x0, e20x1, e20x2, e20x3, e20x4]) (by simp)
  obtain ⟨c10, c11, c12, c13, c14⟩ := cells5 (X13.out.row (g := g12) (x := [e33x0, e33x1, e33x2, e33x3, e33x4]) (by simp))
  have k1 := X13.out.lt (g := g12) (x := [e33x0, e33x1, e33x2, e33x3, e33x4]) (by simp)
  go_wp2_with (fail)
  clear c00 c01 c02 c03 c04 k0
  clear c10 c11 c12 c13 c14 k1
  obtain ⟨W14, hW⟩ : ∃ W, (W13.alloc (.cells #[.int .u64 e36x0, .int .u64 e36x1, .int .u64 e36x2, .int .u64 e36x3, .int .u64 e36x4] 29)) = W := ⟨_, rfl⟩
  have hN := (X13.out.new [e36x0, e36x1, e36x2, e36x3, e36x4])
  rw [show (W13.alloc (.cells (VI .u64 [e36x0, e36x1, e36x2, e36x3, e36x4]) 29)) = W14 from hW] at hN
  rw [hW]
  clear hW
  obtain ⟨g13, hg⟩ : ∃ g, W13.heap.size = g := ⟨_, rfl⟩
  have og12_g13 : Hid (g12 < g13) := by have h0 := X13.out.lt (g := g12) (x := [e33x0, e33x1, e33x2, e33x3, e33x4]) (by simp); rw [hg] at h0; exact h0
  have og11_g13 : Hid (g11 < g13) := by have h0 := X13.out.lt (g := g11) (x := [e30x0, e30x1, e30x2, e30x3, e30x4]) (by simp); rw [hg] at h0; exact h0
  have og10_g13 : Hid (g10 < g13) := by have h0 := X13.out.lt (g := g10) (x := [e27x0, e27x1, e27x2, e27x3, e27x4]) (by simp); rw [hg] at h0; exact h0
  have og9_g13 : Hid (g9 < g13) := by have h0 := X13.out.lt (g := g9) (x := [e24x0, e24x1, e24x2, e24x3, e24x4]) (by simp); rw [hg] at h0; exact h0
  have og8_g13 : Hid (g8 < g13) := by have h0 := X13.out.lt (g := g8) (x := [e22x0, e22x1, e22x2, e22x3, e22x4]) (by simp); rw [hg] at h0; exact h0
  have og7_g13 : Hid (g7 < g13) := by have h0 := X13.out.lt (g := g7) (x := [e20x0, e20x1, e20x2, e20x3, e20x4]) (by simp); rw [hg] at h0; exact h0
  have ow_heap_size_2_g13 : Hid (w.heap.size + 2 < g13) := by have h0 := X13.out.ltk (g := w.heap.size + 2) (x := z) (by simp); rw [hg] at h0; exact h0
  have ow_heap_size_1_g13 : Hid (w.heap.size + 1 < g13) := by have h0 := X13.out.ltk (g := w.heap.size + 1) (x := y) (by simp); rw [hg] at h0; exact h0
  have ow_heap_size_g13 : Hid (w.heap.size < g13) := by have h0 := X13.out.ltk (g := w.heap.size) (x := x) (by simp); rw [hg] at h0; exact h0
  rw [hg] at hN
  try simp only [hg]
  clear hg
  have X14 : Hid (Bs w [(w.heap.size + 2, z), (w.heap.size + 1, y), (w.heap.size, x)] [(g13, [e36x0, e36x1, e36x2, e36x3, e36x4]), (g12, [e33x0, e33x1, e33x2, e33x3, e33x4]), (g11, [e30x0, e30x1, e30x2, e30x3, e30x4]), (g10, [e27x0, e27x1, e27x2, e27x3, e27x4]), (g9, [e24x0, e24x1, e24x2, e24x3, e24x4]), (g8, [e22x0, e22x1, e22x2, e22x3, e22x4]), (g7, [e20x0, e20x1, e20x2, e20x3, e20x4])] W14) := hN
  clear hN X13
  obtain ⟨e39x0, e39x1, e39x2, e39x3, e39x4, l39, n39, C39⟩ := add_f L20.out L33.out
  have L39 : Hid (Lim [e39x0, e39x1, e39x2, e39x3, e39x4]) := l39
  have N39 : Hid _ := n39
  clear l39 n39
  refine (C39.out _).mono ?_
  rintro e W15 ⟨rfl, hb⟩
  have X15 : Hid (Bs w [(w.heap.size + 2, z), (w.heap.size + 1, y), (w.heap.size, x)] [(g13, [e36x0, e36x1, e36x2, e36x3, e36x4]), (g12, [e33x0, e33x1, e33x2, e33x3, e33x4]), (g11, [e30x0, e30x1, e30x2, e30x3, e30x4]), (g10, [e27x0, e27x1, e27x2, e27x3, e27x4]), (g9, [e24x0, e24x1, e24x2, e24x3, e24x4]), (g8, [e22x0, e22x1, e22x2, e22x3, e22x4]), (g7, [e20x0, e20x1, e20x2, e20x3, e20x4])] W15) := X14.out.below hb
  clear hb X14
  go_wp2_with (fail)
  obtain ⟨W16, hW⟩ : ∃ W, (W15.alloc (.cells #[.int .u64 e39x0, .int .u64 e39x1, .int .u64 e39x2, .int .u64 e39x3, .int .u64 e39x4] 29)) = W := ⟨_, rfl⟩
  have hN := (X15.out.new [e39x0, e39x1, e39x2, e39x3, e39x4])
  rw [show (W15.alloc (.cells (VI .u64 [e39x0, e39x1, e39x2, e39x3, e39x4]) 29)) = W16 from hW] at hN
  rw [hW]
  clear hW
  obtain ⟨g14, hg⟩ : ∃ g, W15.heap.size = g := ⟨_, rfl⟩
  have og13_g14 : Hid (g13 < g14) := by have h0 := X15.out.lt (g := g13) (x := [e36x0, e36x1, e36x2, e36x3, e36x4]) (by simp); rw [hg] at h0; exact h0
  have og12_g14 : Hid (g12 < g14) := by have h0 := X15.out.lt (g := g12) (x := [e33x0, e33x1, e33x2, e33x3, e33x4]) (by simp); rw [hg] at h0; exact h0
  have og11_g14 : Hid (g11 < g14) := by have h0 := X15.out.lt (g := g11) (x := [e30x0, e30x1, e30x2, e30x3, e30x4]) (by simp); rw [hg] at h0; exact h0
  have og10_g14 : Hid (g10 < g14) := by have h0 := X15.out.lt (g := g10) (x := [e27x0, e27x1, e27x2, e27x3, e27x4]) (by simp); rw [hg] at h0; exact h0
  have og9_g14 : Hid (g9 < g14) := by have h0 := X15.out.lt (g := g9) (x := [e24x0, e24x1, e24x2, e24x3, e24x4]) (by simp); rw [hg] at h0; exact h0
  have og8_g14 : Hid (g8 < g14) := by have h0 := X15.out.lt (g := g8) (x := [e22x0, e22x1, e22x2, e22x3, e22x4]) (by simp); rw [hg] at h0; exact h0
  have og7_g14 : Hid (g7 < g14) := by have h0 := X15.out.lt (g := g7) (x := [e20x0, e20x1, e20x2, e20x3, e20x4]) (by simp); rw [hg] at h0; exact h0
  have ow_heap_size_2_g14 : Hid (w.heap.size + 2 < g14) := by have h0 := X15.out.ltk (g := w.heap.size + 2) (x := z) (by simp); rw [hg] at h0; exact h0
  have ow_heap_size_1_g14 : Hid (w.heap.size + 1 < g14) := by have h0 := X15.out.ltk (g := w.heap.size + 1) (x := y) (by simp); rw [hg] at h0; exact h0
  have ow_heap_size_g14 : Hid (w.heap.size < g14) := by have h0 := X15.out.ltk (g := w.heap.size) (x := x) (by simp); rw [hg] at h0; exact h0
  rw [hg] at hN
  try simp only [hg]
  clear hg
  have X16 : Hid (Bs w [(w.heap.size + 2, z), (w.heap.size + 1, y), (w.heap.size, x)] [(g14, [e39x0, e39x1, e39x2, e39x3, e39x4]), (g13, [e36x0, e36x1, e36x2, e36x3, e36x4]), (g12, [e33x0, e33x1, e33x2, e33x3, e33x4]), (g11, [e30x0, e30x1, e30x2, e30x3, e30x4]), (g10, [e27x0, e27x1, e27x2, e27x3, e27x4]), (g9, [e24x0, e24x1, e24x2, e24x3, e24x4]), (g8, [e22x0, e22x1, e22x2, e22x3, e22x4]), (g7, [e20x0, e20x1, e20x2, e20x3, e20x4])] W16) := hN
  clear hN X15
  obtain ⟨ka, hka⟩ : ∃ k, bts (num [e27x0, e27x1, e27x2, e27x3, e27x4]) = k := ⟨_, rfl⟩
  have C41 := bytes_f (L27.out) hka
  have lka : ka.length = 17 := by rw [← hka]; exact bts_len _
  have Qka : ∀ w, (Op.equalIn 10000 39 (.agg (VI .u8 ka)) (.agg (VI .u8 ka))).run Try.prog w = .ok true w := fun w => eq17t lka w
  have HQka : Hid (∀ w, (Op.equalIn 10000 39 (.agg (VI .u8 ka)) (.agg (VI .u8 ka))).run Try.prog w = .ok true w) := Qka
  have Hka : Hid (bts (num [e27x0, e27x1, e27x2, e27x3, e27x4]) = ka) := hka
  clear hka lka Qka
  have C43 := bytes_f (L30.out) (b := ka) (by rw [← Hka.out]; simp only [N30.out, N22.out, N20.out, N27.out]; congr 1; exact r_comm _ _)
  obtain ⟨kb, hkb⟩ : ∃ k, bts (num [e36x0, e36x1, e36x2, e36x3, e36x4]) = k := ⟨_, rfl⟩
  have C47 := bytes_f (L36.out) hkb
  have lkb : kb.length = 17 := by rw [← hkb]; exact bts_len _
  have Qkb : ∀ w, (Op.equalIn 10000 39 (.agg (VI .u8 kb)) (.agg (VI .u8 kb))).run Try.prog w = .ok true w := fun w => eq17t lkb w
  have HQkb : Hid (∀ w, (Op.equalIn 10000 39 (.agg (VI .u8 kb)) (.agg (VI .u8 kb))).run Try.prog w = .ok true w) := Qkb
  have Hkb : Hid (bts (num [e36x0, e36x1, e36x2, e36x3, e36x4]) = kb) := hkb
  clear hkb lkb Qkb
  have C49 := bytes_f (L39.out) (b := kb) (by rw [← Hkb.out]; simp only [N39.out, N20.out, N33.out, N22.out, N24.out, N36.out, N27.out]; congr 1; exact (r_assoc _ _ _).symm)
  refine wp_as (c' := rgL9) (by kernel_rfl) ?_
  refine laws_r9  (X16.out.row (g := g10) (x := [e27x0, e27x1, e27x2, e27x3, e27x4]) (by simp)) C41 (X16.out.row (g := g11) (x := [e30x0, e30x1, e30x2, e30x3, e30x4]) (by simp)) C43 HQka.out (X16.out.row (g := g13) (x := [e36x0, e36x1, e36x2, e36x3, e36x4]) (by simp)) C47 (X16.out.row (g := g14) (x := [e39x0, e39x1, e39x2, e39x3, e39x4]) (by simp)) C49 HQkb.out ?_
  intro W17 hb
  have X17 : Hid (Bs w [(w.heap.size + 2, z), (w.heap.size + 1, y), (w.heap.size, x)] [(g14, [e39x0, e39x1, e39x2, e39x3, e39x4]), (g13, [e36x0, e36x1, e36x2, e36x3, e36x4]), (g12, [e33x0, e33x1, e33x2, e33x3, e33x4]), (g11, [e30x0, e30x1, e30x2, e30x3, e30x4]), (g10, [e27x0, e27x1, e27x2, e27x3, e27x4]), (g9, [e24x0, e24x1, e24x2, e24x3, e24x4]), (g8, [e22x0, e22x1, e22x2, e22x3, e22x4]), (g7, [e20x0, e20x1, e20x2, e20x3, e20x4])] W17) := X16.out.below hb
  clear hb X16
  obtain ⟨c00, c01, c02, c03, c04⟩ := cells5 (X17.out.row (g := g7) (x := [e20x0, e20x1, e20x2, e20x3, e20x4]) (by simp))
  have k0 := X17.out.lt (g := g7) (x := [e20x0, e20x1, e20x2, e20x3, e20x4]) (by simp)
  obtain ⟨c10, c11, c12, c13, c14⟩ := cells5 (X17.out.row (g := g8) (x := [e22x0, e22x1, e22x2, e22x3, e22x4]) (by simp))
  have k1 := X17.out.lt (g := g8) (x := [e22x0, e22x1, e22x2, e22x3, e22x4]) (by simp)
  go_wp2_with (fail)
  clear c00 c01 c02 c03 c04 k0
  clear c10 c11 c12 c13 c14 k1
  obtain ⟨e54x0, e54x1, e54x2, e54x3, e54x4, l54, n54, C54⟩ := mul_f L20.out L22.out
  have L54 : Hid (Lim [e54x0, e54x1, e54x2, e54x3, e54x4]) := l54
  have N54 : Hid _ := n54
  clear l54 n54
  refine (C54.out _).mono ?_
  rintro e W18 ⟨rfl, hb⟩
  have X18 : Hid (Bs w [(w.heap.size + 2, z), (w.heap.size + 1, y), (w.heap.size, x)] [(g14, [e39x0, e39x1, e39x2, e39x3, e39x4]), (g13, [e36x0, e36x1, e36x2, e36x3, e36x4]), (g12, [e33x0, e33x1, e33x2, e33x3, e33x4]), (g11, [e30x0, e30x1, e30x2, e30x3, e30x4]), (g10, [e27x0, e27x1, e27x2, e27x3, e27x4]), (g9, [e24x0, e24x1, e24x2, e24x3, e24x4]), (g8, [e22x0, e22x1, e22x2, e22x3, e22x4]), (g7, [e20x0, e20x1, e20x2, e20x3, e20x4])] W18) := X17.out.below hb
  clear hb X17
  obtain ⟨c00, c01, c02, c03, c04⟩ := cells5 (X18.out.row (g := g8) (x := [e22x0, e22x1, e22x2, e22x3, e22x4]) (by simp))
  have k0 := X18.out.lt (g := g8) (x := [e22x0, e22x1, e22x2, e22x3, e22x4]) (by simp)
  obtain ⟨c10, c11, c12, c13, c14⟩ := cells5 (X18.out.row (g := g7) (x := [e20x0, e20x1, e20x2, e20x3, e20x4]) (by simp))
  have k1 := X18.out.lt (g := g7) (x := [e20x0, e20x1, e20x2, e20x3, e20x4]) (by simp)
  go_wp2_with (fail)
  clear c00 c01 c02 c03 c04 k0
  clear c10 c11 c12 c13 c14 k1
  obtain ⟨W19, hW⟩ : ∃ W, (W18.alloc (.cells #[.int .u64 e54x0, .int .u64 e54x1, .int .u64 e54x2, .int .u64 e54x3, .int .u64 e54x4] 29)) = W := ⟨_, rfl⟩
  have hN := (X18.out.new [e54x0, e54x1, e54x2, e54x3, e54x4])
  rw [show (W18.alloc (.cells (VI .u64 [e54x0, e54x1, e54x2, e54x3, e54x4]) 29)) = W19 from hW] at hN
  rw [hW]
  clear hW
  obtain ⟨g15, hg⟩ : ∃ g, W18.heap.size = g := ⟨_, rfl⟩
  have og14_g15 : Hid (g14 < g15) := by have h0 := X18.out.lt (g := g14) (x := [e39x0, e39x1, e39x2, e39x3, e39x4]) (by simp); rw [hg] at h0; exact h0
  have og13_g15 : Hid (g13 < g15) := by have h0 := X18.out.lt (g := g13) (x := [e36x0, e36x1, e36x2, e36x3, e36x4]) (by simp); rw [hg] at h0; exact h0
  have og12_g15 : Hid (g12 < g15) := by have h0 := X18.out.lt (g := g12) (x := [e33x0, e33x1, e33x2, e33x3, e33x4]) (by simp); rw [hg] at h0; exact h0
  have og11_g15 : Hid (g11 < g15) := by have h0 := X18.out.lt (g := g11) (x := [e30x0, e30x1, e30x2, e30x3, e30x4]) (by simp); rw [hg] at h0; exact h0
  have og10_g15 : Hid (g10 < g15) := by have h0 := X18.out.lt (g := g10) (x := [e27x0, e27x1, e27x2, e27x3, e27x4]) (by simp); rw [hg] at h0; exact h0
  have og9_g15 : Hid (g9 < g15) := by have h0 := X18.out.lt (g := g9) (x := [e24x0, e24x1, e24x2, e24x3, e24x4]) (by simp); rw [hg] at h0; exact h0
  have og8_g15 : Hid (g8 < g15) := by have h0 := X18.out.lt (g := g8) (x := [e22x0, e22x1, e22x2, e22x3, e22x4]) (by simp); rw [hg] at h0; exact h0
  have og7_g15 : Hid (g7 < g15) := by have h0 := X18.out.lt (g := g7) (x := [e20x0, e20x1, e20x2, e20x3, e20x4]) (by simp); rw [hg] at h0; exact h0
  have ow_heap_size_2_g15 : Hid (w.heap.size + 2 < g15) := by have h0 := X18.out.ltk (g := w.heap.size + 2) (x := z) (by simp); rw [hg] at h0; exact h0
  have ow_heap_size_1_g15 : Hid (w.heap.size + 1 < g15) := by have h0 := X18.out.ltk (g := w.heap.size + 1) (x := y) (by simp); rw [hg] at h0; exact h0
  have ow_heap_size_g15 : Hid (w.heap.size < g15) := by have h0 := X18.out.ltk (g := w.heap.size) (x := x) (by simp); rw [hg] at h0; exact h0
  rw [hg] at hN
  try simp only [hg]
  clear hg
  have X19 : Hid (Bs w [(w.heap.size + 2, z), (w.heap.size + 1, y), (w.heap.size, x)] [(g15, [e54x0, e54x1, e54x2, e54x3, e54x4]), (g14, [e39x0, e39x1, e39x2, e39x3, e39x4]), (g13, [e36x0, e36x1, e36x2, e36x3, e36x4]), (g12, [e33x0, e33x1, e33x2, e33x3, e33x4]), (g11, [e30x0, e30x1, e30x2, e30x3, e30x4]), (g10, [e27x0, e27x1, e27x2, e27x3, e27x4]), (g9, [e24x0, e24x1, e24x2, e24x3, e24x4]), (g8, [e22x0, e22x1, e22x2, e22x3, e22x4]), (g7, [e20x0, e20x1, e20x2, e20x3, e20x4])] W19) := hN
  clear hN X18
  obtain ⟨e57x0, e57x1, e57x2, e57x3, e57x4, l57, n57, C57⟩ := mul_f L22.out L20.out
  have L57 : Hid (Lim [e57x0, e57x1, e57x2, e57x3, e57x4]) := l57
  have N57 : Hid _ := n57
  clear l57 n57
  refine (C57.out _).mono ?_
  rintro e W20 ⟨rfl, hb⟩
  have X20 : Hid (Bs w [(w.heap.size + 2, z), (w.heap.size + 1, y), (w.heap.size, x)] [(g15, [e54x0, e54x1, e54x2, e54x3, e54x4]), (g14, [e39x0, e39x1, e39x2, e39x3, e39x4]), (g13, [e36x0, e36x1, e36x2, e36x3, e36x4]), (g12, [e33x0, e33x1, e33x2, e33x3, e33x4]), (g11, [e30x0, e30x1, e30x2, e30x3, e30x4]), (g10, [e27x0, e27x1, e27x2, e27x3, e27x4]), (g9, [e24x0, e24x1, e24x2, e24x3, e24x4]), (g8, [e22x0, e22x1, e22x2, e22x3, e22x4]), (g7, [e20x0, e20x1, e20x2, e20x3, e20x4])] W20) := X19.out.below hb
  clear hb X19
  obtain ⟨c00, c01, c02, c03, c04⟩ := cells5 (X20.out.row (g := g8) (x := [e22x0, e22x1, e22x2, e22x3, e22x4]) (by simp))
  have k0 := X20.out.lt (g := g8) (x := [e22x0, e22x1, e22x2, e22x3, e22x4]) (by simp)
  obtain ⟨c10, c11, c12, c13, c14⟩ := cells5 (X20.out.row (g := g9) (x := [e24x0, e24x1, e24x2, e24x3, e24x4]) (by simp))
  have k1 := X20.out.lt (g := g9) (x := [e24x0, e24x1, e24x2, e24x3, e24x4]) (by simp)
  go_wp2_with (fail)
  clear c00 c01 c02 c03 c04 k0
  clear c10 c11 c12 c13 c14 k1
  obtain ⟨W21, hW⟩ : ∃ W, (W20.alloc (.cells #[.int .u64 e57x0, .int .u64 e57x1, .int .u64 e57x2, .int .u64 e57x3, .int .u64 e57x4] 29)) = W := ⟨_, rfl⟩
  have hN := (X20.out.new [e57x0, e57x1, e57x2, e57x3, e57x4])
  rw [show (W20.alloc (.cells (VI .u64 [e57x0, e57x1, e57x2, e57x3, e57x4]) 29)) = W21 from hW] at hN
  rw [hW]
  clear hW
  obtain ⟨g16, hg⟩ : ∃ g, W20.heap.size = g := ⟨_, rfl⟩
  have og15_g16 : Hid (g15 < g16) := by have h0 := X20.out.lt (g := g15) (x := [e54x0, e54x1, e54x2, e54x3, e54x4]) (by simp); rw [hg] at h0; exact h0
  have og14_g16 : Hid (g14 < g16) := by have h0 := X20.out.lt (g := g14) (x := [e39x0, e39x1, e39x2, e39x3, e39x4]) (by simp); rw [hg] at h0; exact h0
  have og13_g16 : Hid (g13 < g16) := by have h0 := X20.out.lt (g := g13) (x := [e36x0, e36x1, e36x2, e36x3, e36x4]) (by simp); rw [hg] at h0; exact h0
  have og12_g16 : Hid (g12 < g16) := by have h0 := X20.out.lt (g := g12) (x := [e33x0, e33x1, e33x2, e33x3, e33x4]) (by simp); rw [hg] at h0; exact h0
  have og11_g16 : Hid (g11 < g16) := by have h0 := X20.out.lt (g := g11) (x := [e30x0, e30x1, e30x2, e30x3, e30x4]) (by simp); rw [hg] at h0; exact h0
  have og10_g16 : Hid (g10 < g16) := by have h0 := X20.out.lt (g := g10) (x := [e27x0, e27x1, e27x2, e27x3, e27x4]) (by simp); rw [hg] at h0; exact h0
  have og9_g16 : Hid (g9 < g16) := by have h0 := X20.out.lt (g := g9) (x := [e24x0, e24x1, e24x2, e24x3, e24x4]) (by simp); rw [hg] at h0; exact h0
  have og8_g16 : Hid (g8 < g16) := by have h0 := X20.out.lt (g := g8) (x := [e22x0, e22x1, e22x2, e22x3, e22x4]) (by simp); rw [hg] at h0; exact h0
  have og7_g16 : Hid (g7 < g16) := by have h0 := X20.out.lt (g := g7) (x := [e20x0, e20x1, e20x2, e20x3, e20x4]) (by simp); rw [hg] at h0; exact h0
  have ow_heap_size_2_g16 : Hid (w.heap.size + 2 < g16) := by have h0 := X20.out.ltk (g := w.heap.size + 2) (x := z) (by simp); rw [hg] at h0; exact h0
  have ow_heap_size_1_g16 : Hid (w.heap.size + 1 < g16) := by have h0 := X20.out.ltk (g := w.heap.size + 1) (x := y) (by simp); rw [hg] at h0; exact h0
  have ow_heap_size_g16 : Hid (w.heap.size < g16) := by have h0 := X20.out.ltk (g := w.heap.size) (x := x) (by simp); rw [hg] at h0; exact h0
  rw [hg] at hN
  try simp only [hg]
  clear hg
  have X21 : Hid (Bs w [(w.heap.size + 2, z), (w.heap.size + 1, y), (w.heap.size, x)] [(g16, [e57x0, e57x1, e57x2, e57x3, e57x4]), (g15, [e54x0, e54x1, e54x2, e54x3, e54x4]), (g14, [e39x0, e39x1, e39x2, e39x3, e39x4]), (g13, [e36x0, e36x1, e36x2, e36x3, e36x4]), (g12, [e33x0, e33x1, e33x2, e33x3, e33x4]), (g11, [e30x0, e30x1, e30x2, e30x3, e30x4]), (g10, [e27x0, e27x1, e27x2, e27x3, e27x4]), (g9, [e24x0, e24x1, e24x2, e24x3, e24x4]), (g8, [e22x0, e22x1, e22x2, e22x3, e22x4]), (g7, [e20x0, e20x1, e20x2, e20x3, e20x4])] W21) := hN
  clear hN X20
  obtain ⟨e60x0, e60x1, e60x2, e60x3, e60x4, l60, n60, C60⟩ := mul_f L22.out L24.out
  have L60 : Hid (Lim [e60x0, e60x1, e60x2, e60x3, e60x4]) := l60
  have N60 : Hid _ := n60
  clear l60 n60
  refine (C60.out _).mono ?_
  rintro e W22 ⟨rfl, hb⟩
  have X22 : Hid (Bs w [(w.heap.size + 2, z), (w.heap.size + 1, y), (w.heap.size, x)] [(g16, [e57x0, e57x1, e57x2, e57x3, e57x4]), (g15, [e54x0, e54x1, e54x2, e54x3, e54x4]), (g14, [e39x0, e39x1, e39x2, e39x3, e39x4]), (g13, [e36x0, e36x1, e36x2, e36x3, e36x4]), (g12, [e33x0, e33x1, e33x2, e33x3, e33x4]), (g11, [e30x0, e30x1, e30x2, e30x3, e30x4]), (g10, [e27x0, e27x1, e27x2, e27x3, e27x4]), (g9, [e24x0, e24x1, e24x2, e24x3, e24x4]), (g8, [e22x0, e22x1, e22x2, e22x3, e22x4]), (g7, [e20x0, e20x1, e20x2, e20x3, e20x4])] W22) := X21.out.below hb
  clear hb X21
  obtain ⟨c00, c01, c02, c03, c04⟩ := cells5 (X22.out.row (g := g15) (x := [e54x0, e54x1, e54x2, e54x3, e54x4]) (by simp))
  have k0 := X22.out.lt (g := g15) (x := [e54x0, e54x1, e54x2, e54x3, e54x4]) (by simp)
  obtain ⟨c10, c11, c12, c13, c14⟩ := cells5 (X22.out.row (g := g9) (x := [e24x0, e24x1, e24x2, e24x3, e24x4]) (by simp))
  have k1 := X22.out.lt (g := g9) (x := [e24x0, e24x1, e24x2, e24x3, e24x4]) (by simp)
  go_wp2_with (fail)
  clear c00 c01 c02 c03 c04 k0
  clear c10 c11 c12 c13 c14 k1
  obtain ⟨W23, hW⟩ : ∃ W, (W22.alloc (.cells #[.int .u64 e60x0, .int .u64 e60x1, .int .u64 e60x2, .int .u64 e60x3, .int .u64 e60x4] 29)) = W := ⟨_, rfl⟩
  have hN := (X22.out.new [e60x0, e60x1, e60x2, e60x3, e60x4])
  rw [show (W22.alloc (.cells (VI .u64 [e60x0, e60x1, e60x2, e60x3, e60x4]) 29)) = W23 from hW] at hN
  rw [hW]
  clear hW
  obtain ⟨g17, hg⟩ : ∃ g, W22.heap.size = g := ⟨_, rfl⟩
  have og16_g17 : Hid (g16 < g17) := by have h0 := X22.out.lt (g := g16) (x := [e57x0, e57x1, e57x2, e57x3, e57x4]) (by simp); rw [hg] at h0; exact h0
  have og15_g17 : Hid (g15 < g17) := by have h0 := X22.out.lt (g := g15) (x := [e54x0, e54x1, e54x2, e54x3, e54x4]) (by simp); rw [hg] at h0; exact h0
  have og14_g17 : Hid (g14 < g17) := by have h0 := X22.out.lt (g := g14) (x := [e39x0, e39x1, e39x2, e39x3, e39x4]) (by simp); rw [hg] at h0; exact h0
  have og13_g17 : Hid (g13 < g17) := by have h0 := X22.out.lt (g := g13) (x := [e36x0, e36x1, e36x2, e36x3, e36x4]) (by simp); rw [hg] at h0; exact h0
  have og12_g17 : Hid (g12 < g17) := by have h0 := X22.out.lt (g := g12) (x := [e33x0, e33x1, e33x2, e33x3, e33x4]) (by simp); rw [hg] at h0; exact h0
  have og11_g17 : Hid (g11 < g17) := by have h0 := X22.out.lt (g := g11) (x := [e30x0, e30x1, e30x2, e30x3, e30x4]) (by simp); rw [hg] at h0; exact h0
  have og10_g17 : Hid (g10 < g17) := by have h0 := X22.out.lt (g := g10) (x := [e27x0, e27x1, e27x2, e27x3, e27x4]) (by simp); rw [hg] at h0; exact h0
  have og9_g17 : Hid (g9 < g17) := by have h0 := X22.out.lt (g := g9) (x := [e24x0, e24x1, e24x2, e24x3, e24x4]) (by simp); rw [hg] at h0; exact h0
  have og8_g17 : Hid (g8 < g17) := by have h0 := X22.out.lt (g := g8) (x := [e22x0, e22x1, e22x2, e22x3, e22x4]) (by simp); rw [hg] at h0; exact h0
  have og7_g17 : Hid (g7 < g17) := by have h0 := X22.out.lt (g := g7) (x := [e20x0, e20x1, e20x2, e20x3, e20x4]) (by simp); rw [hg] at h0; exact h0
  have ow_heap_size_2_g17 : Hid (w.heap.size + 2 < g17) := by have h0 := X22.out.ltk (g := w.heap.size + 2) (x := z) (by simp); rw [hg] at h0; exact h0
  have ow_heap_size_1_g17 : Hid (w.heap.size + 1 < g17) := by have h0 := X22.out.ltk (g := w.heap.size + 1) (x := y) (by simp); rw [hg] at h0; exact h0
  have ow_heap_size_g17 : Hid (w.heap.size < g17) := by have h0 := X22.out.ltk (g := w.heap.size) (x := x) (by simp); rw [hg] at h0; exact h0
  rw [hg] at hN
  try simp only [hg]
  clear hg
  have X23 : Hid (Bs w [(w.heap.size + 2, z), (w.heap.size + 1, y), (w.heap.size, x)] [(g17, [e60x0, e60x1, e60x2, e60x3, e60x4]), (g16, [e57x0, e57x1, e57x2, e57x3, e57x4]), (g15, [e54x0, e54x1, e54x2, e54x3, e54x4]), (g14, [e39x0, e39x1, e39x2, e39x3, e39x4]), (g13, [e36x0, e36x1, e36x2, e36x3, e36x4]), (g12, [e33x0, e33x1, e33x2, e33x3, e33x4]), (g11, [e30x0, e30x1, e30x2, e30x3, e30x4]), (g10, [e27x0, e27x1, e27x2, e27x3, e27x4]), (g9, [e24x0, e24x1, e24x2, e24x3, e24x4]), (g8, [e22x0, e22x1, e22x2, e22x3, e22x4]), (g7, [e20x0, e20x1, e20x2, e20x3, e20x4])] W23) := hN
  clear hN X22
  obtain ⟨e63x0, e63x1, e63x2, e63x3, e63x4, l63, n63, C63⟩ := mul_f L54.out L24.out
  have L63 : Hid (Lim [e63x0, e63x1, e63x2, e63x3, e63x4]) := l63
  have N63 : Hid _ := n63
  clear l63 n63
  refine (C63.out _).mono ?_
  rintro e W24 ⟨rfl, hb⟩
  have X24 : Hid (Bs w [(w.heap.size + 2, z), (w.heap.size + 1, y), (w.heap.size, x)] [(g17, [e60x0, e60x1, e60x2, e60x3, e60x4]), (g16, [e57x0, e57x1, e57x2, e57x3, e57x4]), (g15, [e54x0, e54x1, e54x2, e54x3, e54x4]), (g14, [e39x0, e39x1, e39x2, e39x3, e39x4]), (g13, [e36x0, e36x1, e36x2, e36x3, e36x4]), (g12, [e33x0, e33x1, e33x2, e33x3, e33x4]), (g11, [e30x0, e30x1, e30x2, e30x3, e30x4]), (g10, [e27x0, e27x1, e27x2, e27x3, e27x4]), (g9, [e24x0, e24x1, e24x2, e24x3, e24x4]), (g8, [e22x0, e22x1, e22x2, e22x3, e22x4]), (g7, [e20x0, e20x1, e20x2, e20x3, e20x4])] W24) := X23.out.below hb
  clear hb X23
  obtain ⟨_, _, _, _, _, _, hy0, hy1, hy2, hy3, hy4, hz0, hz1, hz2, hz3, hz4⟩ := row5 (X24.out.row (g := g13) (x := [e36x0, e36x1, e36x2, e36x3, e36x4]) (by simp)) rfl
  go_upto_region 15 with fail
  clear hy0 hy1 hy2 hy3 hy4 hz0 hz1 hz2 hz3 hz4
  have hS : Bs w [(w.heap.size + 2, z), (w.heap.size + 1, y), (w.heap.size, x)] ((g13, [e36x0, e36x1, e36x2, e36x3, e36x4]) :: [(g17, [e60x0, e60x1, e60x2, e60x3, e60x4]), (g16, [e57x0, e57x1, e57x2, e57x3, e57x4]), (g15, [e54x0, e54x1, e54x2, e54x3, e54x4]), (g14, [e39x0, e39x1, e39x2, e39x3, e39x4]), (g12, [e33x0, e33x1, e33x2, e33x3, e33x4]), (g11, [e30x0, e30x1, e30x2, e30x3, e30x4]), (g10, [e27x0, e27x1, e27x2, e27x3, e27x4]), (g9, [e24x0, e24x1, e24x2, e24x3, e24x4]), (g8, [e22x0, e22x1, e22x2, e22x3, e22x4]), (g7, [e20x0, e20x1, e20x2, e20x3, e20x4])]) W24 := X24.out.sub (by simp)
  have hN := hS.store5 (by have := HNL.out; have := ow_heap_size_2_g7.out; have := ow_heap_size_1_g7.out; have := ow_heap_size_g7.out; have := og7_g8.out; have := ow_heap_size_2_g8.out; have := ow_heap_size_1_g8.out; have := ow_heap_size_g8.out; have := og8_g9.out; have := og7_g9.out; have := ow_heap_size_2_g9.out; have := ow_heap_size_1_g9.out; have := ow_heap_size_g9.out; have := og9_g10.out; have := og8_g10.out; have := og7_g10.out; have := ow_heap_size_2_g10.out; have := ow_heap_size_1_g10.out; have := ow_heap_size_g10.out; have := og10_g11.out; have := og9_g11.out; have := og8_g11.out; have := og7_g11.out; have := ow_heap_size_2_g11.out; have := ow_heap_size_1_g11.out; have := ow_heap_size_g11.out; have := og11_g12.out; have := og10_g12.out; have := og9_g12.out; have := og8_g12.out; have := og7_g12.out; have := ow_heap_size_2_g12.out; have := ow_heap_size_1_g12.out; have := ow_heap_size_g12.out; have := og12_g13.out; have := og11_g13.out; have := og10_g13.out; have := og9_g13.out; have := og8_g13.out; have := og7_g13.out; have := ow_heap_size_2_g13.out; have := ow_heap_size_1_g13.out; have := ow_heap_size_g13.out; have := og13_g14.out; have := og12_g14.out; have := og11_g14.out; have := og10_g14.out; have := og9_g14.out; have := og8_g14.out; have := og7_g14.out; have := ow_heap_size_2_g14.out; have := ow_heap_size_1_g14.out; have := ow_heap_size_g14.out; have := og14_g15.out; have := og13_g15.out; have := og12_g15.out; have := og11_g15.out; have := og10_g15.out; have := og9_g15.out; have := og8_g15.out; have := og7_g15.out; have := ow_heap_size_2_g15.out; have := ow_heap_size_1_g15.out; have := ow_heap_size_g15.out; have := og15_g16.out; have := og14_g16.out; have := og13_g16.out; have := og12_g16.out; have := og11_g16.out; have := og10_g16.out; have := og9_g16.out; have := og8_g16.out; have := og7_g16.out; have := ow_heap_size_2_g16.out; have := ow_heap_size_1_g16.out; have := ow_heap_size_g16.out; have := og16_g17.out; have := og15_g17.out; have := og14_g17.out; have := og13_g17.out; have := og12_g17.out; have := og11_g17.out; have := og10_g17.out; have := og9_g17.out; have := og8_g17.out; have := og7_g17.out; have := ow_heap_size_2_g17.out; have := ow_heap_size_1_g17.out; have := ow_heap_size_g17.out; omega) (by have := HNL.out; have := ow_heap_size_2_g7.out; have := ow_heap_size_1_g7.out; have := ow_heap_size_g7.out; have := og7_g8.out; have := ow_heap_size_2_g8.out; have := ow_heap_size_1_g8.out; have := ow_heap_size_g8.out; have := og8_g9.out; have := og7_g9.out; have := ow_heap_size_2_g9.out; have := ow_heap_size_1_g9.out; have := ow_heap_size_g9.out; have := og9_g10.out; have := og8_g10.out; have := og7_g10.out; have := ow_heap_size_2_g10.out; have := ow_heap_size_1_g10.out; have := ow_heap_size_g10.out; have := og10_g11.out; have := og9_g11.out; have := og8_g11.out; have := og7_g11.out; have := ow_heap_size_2_g11.out; have := ow_heap_size_1_g11.out; have := ow_heap_size_g11.out; have := og11_g12.out; have := og10_g12.out; have := og9_g12.out; have := og8_g12.out; have := og7_g12.out; have := ow_heap_size_2_g12.out; have := ow_heap_size_1_g12.out; have := ow_heap_size_g12.out; have := og12_g13.out; have := og11_g13.out; have := og10_g13.out; have := og9_g13.out; have := og8_g13.out; have := og7_g13.out; have := ow_heap_size_2_g13.out; have := ow_heap_size_1_g13.out; have := ow_heap_size_g13.out; have := og13_g14.out; have := og12_g14.out; have := og11_g14.out; have := og10_g14.out; have := og9_g14.out; have := og8_g14.out; have := og7_g14.out; have := ow_heap_size_2_g14.out; have := ow_heap_size_1_g14.out; have := ow_heap_size_g14.out; have := og14_g15.out; have := og13_g15.out; have := og12_g15.out; have := og11_g15.out; have := og10_g15.out; have := og9_g15.out; have := og8_g15.out; have := og7_g15.out; have := ow_heap_size_2_g15.out; have := ow_heap_size_1_g15.out; have := ow_heap_size_g15.out; have := og15_g16.out; have := og14_g16.out; have := og13_g16.out; have := og12_g16.out; have := og11_g16.out; have := og10_g16.out; have := og9_g16.out; have := og8_g16.out; have := og7_g16.out; have := ow_heap_size_2_g16.out; have := ow_heap_size_1_g16.out; have := ow_heap_size_g16.out; have := og16_g17.out; have := og15_g17.out; have := og14_g17.out; have := og13_g17.out; have := og12_g17.out; have := og11_g17.out; have := og10_g17.out; have := og9_g17.out; have := og8_g17.out; have := og7_g17.out; have := ow_heap_size_2_g17.out; have := ow_heap_size_1_g17.out; have := ow_heap_size_g17.out; simp only [List.mem_cons, List.not_mem_nil, or_false, forall_eq_or_imp, forall_eq]; omega) (by have := HNL.out; have := ow_heap_size_2_g7.out; have := ow_heap_size_1_g7.out; have := ow_heap_size_g7.out; have := og7_g8.out; have := ow_heap_size_2_g8.out; have := ow_heap_size_1_g8.out; have := ow_heap_size_g8.out; have := og8_g9.out; have := og7_g9.out; have := ow_heap_size_2_g9.out; have := ow_heap_size_1_g9.out; have := ow_heap_size_g9.out; have := og9_g10.out; have := og8_g10.out; have := og7_g10.out; have := ow_heap_size_2_g10.out; have := ow_heap_size_1_g10.out; have := ow_heap_size_g10.out; have := og10_g11.out; have := og9_g11.out; have := og8_g11.out; have := og7_g11.out; have := ow_heap_size_2_g11.out; have := ow_heap_size_1_g11.out; have := ow_heap_size_g11.out; have := og11_g12.out; have := og10_g12.out; have := og9_g12.out; have := og8_g12.out; have := og7_g12.out; have := ow_heap_size_2_g12.out; have := ow_heap_size_1_g12.out; have := ow_heap_size_g12.out; have := og12_g13.out; have := og11_g13.out; have := og10_g13.out; have := og9_g13.out; have := og8_g13.out; have := og7_g13.out; have := ow_heap_size_2_g13.out; have := ow_heap_size_1_g13.out; have := ow_heap_size_g13.out; have := og13_g14.out; have := og12_g14.out; have := og11_g14.out; have := og10_g14.out; have := og9_g14.out; have := og8_g14.out; have := og7_g14.out; have := ow_heap_size_2_g14.out; have := ow_heap_size_1_g14.out; have := ow_heap_size_g14.out; have := og14_g15.out; have := og13_g15.out; have := og12_g15.out; have := og11_g15.out; have := og10_g15.out; have := og9_g15.out; have := og8_g15.out; have := og7_g15.out; have := ow_heap_size_2_g15.out; have := ow_heap_size_1_g15.out; have := ow_heap_size_g15.out; have := og15_g16.out; have := og14_g16.out; have := og13_g16.out; have := og12_g16.out; have := og11_g16.out; have := og10_g16.out; have := og9_g16.out; have := og8_g16.out; have := og7_g16.out; have := ow_heap_size_2_g16.out; have := ow_heap_size_1_g16.out; have := ow_heap_size_g16.out; have := og16_g17.out; have := og15_g17.out; have := og14_g17.out; have := og13_g17.out; have := og12_g17.out; have := og11_g17.out; have := og10_g17.out; have := og9_g17.out; have := og8_g17.out; have := og7_g17.out; have := ow_heap_size_2_g17.out; have := ow_heap_size_1_g17.out; have := ow_heap_size_g17.out; simp only [List.mem_cons, List.not_mem_nil, or_false, forall_eq_or_imp, forall_eq]; omega) rfl e63x0 e63x1 e63x2 e63x3 e63x4
  obtain ⟨W25, hW⟩ : ∃ W, (((((W24.setCell ⟨g13, 0, none⟩ (.int .u64 e63x0)).setCell ⟨g13, 1, none⟩ (.int .u64 e63x1)).setCell ⟨g13, 2, none⟩ (.int .u64 e63x2)).setCell ⟨g13, 3, none⟩ (.int .u64 e63x3)).setCell ⟨g13, 4, none⟩ (.int .u64 e63x4)) = W := ⟨_, rfl⟩
  rw [hW] at hN ⊢
  have X25 : Hid (Bs w [(w.heap.size + 2, z), (w.heap.size + 1, y), (w.heap.size, x)] [(g13, [e63x0, e63x1, e63x2, e63x3, e63x4]), (g17, [e60x0, e60x1, e60x2, e60x3, e60x4]), (g16, [e57x0, e57x1, e57x2, e57x3, e57x4]), (g15, [e54x0, e54x1, e54x2, e54x3, e54x4]), (g14, [e39x0, e39x1, e39x2, e39x3, e39x4]), (g12, [e33x0, e33x1, e33x2, e33x3, e33x4]), (g11, [e30x0, e30x1, e30x2, e30x3, e30x4]), (g10, [e27x0, e27x1, e27x2, e27x3, e27x4]), (g9, [e24x0, e24x1, e24x2, e24x3, e24x4]), (g8, [e22x0, e22x1, e22x2, e22x3, e22x4]), (g7, [e20x0, e20x1, e20x2, e20x3, e20x4])] W25) := hN
  clear hN hS hW X24
  obtain ⟨c00, c01, c02, c03, c04⟩ := cells5 (X25.out.row (g := g7) (x := [e20x0, e20x1, e20x2, e20x3, e20x4]) (by simp))
  have k0 := X25.out.lt (g := g7) (x := [e20x0, e20x1, e20x2, e20x3, e20x4]) (by simp)
  obtain ⟨c10, c11, c12, c13, c14⟩ := cells5 (X25.out.row (g := g17) (x := [e60x0, e60x1, e60x2, e60x3, e60x4]) (by simp))
  have k1 := X25.out.lt (g := g17) (x := [e60x0, e60x1, e60x2, e60x3, e60x4]) (by simp)
  go_wp2_with (fail)
  clear c00 c01 c02 c03 c04 k0
  clear c10 c11 c12 c13 c14 k1
  obtain ⟨e66x0, e66x1, e66x2, e66x3, e66x4, l66, n66, C66⟩ := mul_f L20.out L60.out
  have L66 : Hid (Lim [e66x0, e66x1, e66x2, e66x3, e66x4]) := l66
  have N66 : Hid _ := n66
  clear l66 n66
  refine (C66.out _).mono ?_
  rintro e W26 ⟨rfl, hb⟩
  have X26 : Hid (Bs w [(w.heap.size + 2, z), (w.heap.size + 1, y), (w.heap.size, x)] [(g13, [e63x0, e63x1, e63x2, e63x3, e63x4]), (g17, [e60x0, e60x1, e60x2, e60x3, e60x4]), (g16, [e57x0, e57x1, e57x2, e57x3, e57x4]), (g15, [e54x0, e54x1, e54x2, e54x3, e54x4]), (g14, [e39x0, e39x1, e39x2, e39x3, e39x4]), (g12, [e33x0, e33x1, e33x2, e33x3, e33x4]), (g11, [e30x0, e30x1, e30x2, e30x3, e30x4]), (g10, [e27x0, e27x1, e27x2, e27x3, e27x4]), (g9, [e24x0, e24x1, e24x2, e24x3, e24x4]), (g8, [e22x0, e22x1, e22x2, e22x3, e22x4]), (g7, [e20x0, e20x1, e20x2, e20x3, e20x4])] W26) := X25.out.below hb
  clear hb X25
  obtain ⟨_, _, _, _, _, _, hy0, hy1, hy2, hy3, hy4, hz0, hz1, hz2, hz3, hz4⟩ := row5 (X26.out.row (g := g14) (x := [e39x0, e39x1, e39x2, e39x3, e39x4]) (by simp)) rfl
  go_upto_region 16 with fail
  clear hy0 hy1 hy2 hy3 hy4 hz0 hz1 hz2 hz3 hz4
  have hS : Bs w [(w.heap.size + 2, z), (w.heap.size + 1, y), (w.heap.size, x)] ((g14, [e39x0, e39x1, e39x2, e39x3, e39x4]) :: [(g13, [e63x0, e63x1, e63x2, e63x3, e63x4]), (g17, [e60x0, e60x1, e60x2, e60x3, e60x4]), (g16, [e57x0, e57x1, e57x2, e57x3, e57x4]), (g15, [e54x0, e54x1, e54x2, e54x3, e54x4]), (g12, [e33x0, e33x1, e33x2, e33x3, e33x4]), (g11, [e30x0, e30x1, e30x2, e30x3, e30x4]), (g10, [e27x0, e27x1, e27x2, e27x3, e27x4]), (g9, [e24x0, e24x1, e24x2, e24x3, e24x4]), (g8, [e22x0, e22x1, e22x2, e22x3, e22x4]), (g7, [e20x0, e20x1, e20x2, e20x3, e20x4])]) W26 := X26.out.sub (by simp)
  have hN := hS.store5 (by have := HNL.out; have := ow_heap_size_2_g7.out; have := ow_heap_size_1_g7.out; have := ow_heap_size_g7.out; have := og7_g8.out; have := ow_heap_size_2_g8.out; have := ow_heap_size_1_g8.out; have := ow_heap_size_g8.out; have := og8_g9.out; have := og7_g9.out; have := ow_heap_size_2_g9.out; have := ow_heap_size_1_g9.out; have := ow_heap_size_g9.out; have := og9_g10.out; have := og8_g10.out; have := og7_g10.out; have := ow_heap_size_2_g10.out; have := ow_heap_size_1_g10.out; have := ow_heap_size_g10.out; have := og10_g11.out; have := og9_g11.out; have := og8_g11.out; have := og7_g11.out; have := ow_heap_size_2_g11.out; have := ow_heap_size_1_g11.out; have := ow_heap_size_g11.out; have := og11_g12.out; have := og10_g12.out; have := og9_g12.out; have := og8_g12.out; have := og7_g12.out; have := ow_heap_size_2_g12.out; have := ow_heap_size_1_g12.out; have := ow_heap_size_g12.out; have := og12_g13.out; have := og11_g13.out; have := og10_g13.out; have := og9_g13.out; have := og8_g13.out; have := og7_g13.out; have := ow_heap_size_2_g13.out; have := ow_heap_size_1_g13.out; have := ow_heap_size_g13.out; have := og13_g14.out; have := og12_g14.out; have := og11_g14.out; have := og10_g14.out; have := og9_g14.out; have := og8_g14.out; have := og7_g14.out; have := ow_heap_size_2_g14.out; have := ow_heap_size_1_g14.out; have := ow_heap_size_g14.out; have := og14_g15.out; have := og13_g15.out; have := og12_g15.out; have := og11_g15.out; have := og10_g15.out; have := og9_g15.out; have := og8_g15.out; have := og7_g15.out; have := ow_heap_size_2_g15.out; have := ow_heap_size_1_g15.out; have := ow_heap_size_g15.out; have := og15_g16.out; have := og14_g16.out; have := og13_g16.out; have := og12_g16.out; have := og11_g16.out; have := og10_g16.out; have := og9_g16.out; have := og8_g16.out; have := og7_g16.out; have := ow_heap_size_2_g16.out; have := ow_heap_size_1_g16.out; have := ow_heap_size_g16.out; have := og16_g17.out; have := og15_g17.out; have := og14_g17.out; have := og13_g17.out; have := og12_g17.out; have := og11_g17.out; have := og10_g17.out; have := og9_g17.out; have := og8_g17.out; have := og7_g17.out; have := ow_heap_size_2_g17.out; have := ow_heap_size_1_g17.out; have := ow_heap_size_g17.out; omega) (by have := HNL.out; have := ow_heap_size_2_g7.out; have := ow_heap_size_1_g7.out; have := ow_heap_size_g7.out; have := og7_g8.out; have := ow_heap_size_2_g8.out; have := ow_heap_size_1_g8.out; have := ow_heap_size_g8.out; have := og8_g9.out; have := og7_g9.out; have := ow_heap_size_2_g9.out; have := ow_heap_size_1_g9.out; have := ow_heap_size_g9.out; have := og9_g10.out; have := og8_g10.out; have := og7_g10.out; have := ow_heap_size_2_g10.out; have := ow_heap_size_1_g10.out; have := ow_heap_size_g10.out; have := og10_g11.out; have := og9_g11.out; have := og8_g11.out; have := og7_g11.out; have := ow_heap_size_2_g11.out; have := ow_heap_size_1_g11.out; have := ow_heap_size_g11.out; have := og11_g12.out; have := og10_g12.out; have := og9_g12.out; have := og8_g12.out; have := og7_g12.out; have := ow_heap_size_2_g12.out; have := ow_heap_size_1_g12.out; have := ow_heap_size_g12.out; have := og12_g13.out; have := og11_g13.out; have := og10_g13.out; have := og9_g13.out; have := og8_g13.out; have := og7_g13.out; have := ow_heap_size_2_g13.out; have := ow_heap_size_1_g13.out; have := ow_heap_size_g13.out; have := og13_g14.out; have := og12_g14.out; have := og11_g14.out; have := og10_g14.out; have := og9_g14.out; have := og8_g14.out; have := og7_g14.out; have := ow_heap_size_2_g14.out; have := ow_heap_size_1_g14.out; have := ow_heap_size_g14.out; have := og14_g15.out; have := og13_g15.out; have := og12_g15.out; have := og11_g15.out; have := og10_g15.out; have := og9_g15.out; have := og8_g15.out; have := og7_g15.out; have := ow_heap_size_2_g15.out; have := ow_heap_size_1_g15.out; have := ow_heap_size_g15.out; have := og15_g16.out; have := og14_g16.out; have := og13_g16.out; have := og12_g16.out; have := og11_g16.out; have := og10_g16.out; have := og9_g16.out; have := og8_g16.out; have := og7_g16.out; have := ow_heap_size_2_g16.out; have := ow_heap_size_1_g16.out; have := ow_heap_size_g16.out; have := og16_g17.out; have := og15_g17.out; have := og14_g17.out; have := og13_g17.out; have := og12_g17.out; have := og11_g17.out; have := og10_g17.out; have := og9_g17.out; have := og8_g17.out; have := og7_g17.out; have := ow_heap_size_2_g17.out; have := ow_heap_size_1_g17.out; have := ow_heap_size_g17.out; simp only [List.mem_cons, List.not_mem_nil, or_false, forall_eq_or_imp, forall_eq]; omega) (by have := HNL.out; have := ow_heap_size_2_g7.out; have := ow_heap_size_1_g7.out; have := ow_heap_size_g7.out; have := og7_g8.out; have := ow_heap_size_2_g8.out; have := ow_heap_size_1_g8.out; have := ow_heap_size_g8.out; have := og8_g9.out; have := og7_g9.out; have := ow_heap_size_2_g9.out; have := ow_heap_size_1_g9.out; have := ow_heap_size_g9.out; have := og9_g10.out; have := og8_g10.out; have := og7_g10.out; have := ow_heap_size_2_g10.out; have := ow_heap_size_1_g10.out; have := ow_heap_size_g10.out; have := og10_g11.out; have := og9_g11.out; have := og8_g11.out; have := og7_g11.out; have := ow_heap_size_2_g11.out; have := ow_heap_size_1_g11.out; have := ow_heap_size_g11.out; have := og11_g12.out; have := og10_g12.out; have := og9_g12.out; have := og8_g12.out; have := og7_g12.out; have := ow_heap_size_2_g12.out; have := ow_heap_size_1_g12.out; have := ow_heap_size_g12.out; have := og12_g13.out; have := og11_g13.out; have := og10_g13.out; have := og9_g13.out; have := og8_g13.out; have := og7_g13.out; have := ow_heap_size_2_g13.out; have := ow_heap_size_1_g13.out; have := ow_heap_size_g13.out; have := og13_g14.out; have := og12_g14.out; have := og11_g14.out; have := og10_g14.out; have := og9_g14.out; have := og8_g14.out; have := og7_g14.out; have := ow_heap_size_2_g14.out; have := ow_heap_size_1_g14.out; have := ow_heap_size_g14.out; have := og14_g15.out; have := og13_g15.out; have := og12_g15.out; have := og11_g15.out; have := og10_g15.out; have := og9_g15.out; have := og8_g15.out; have := og7_g15.out; have := ow_heap_size_2_g15.out; have := ow_heap_size_1_g15.out; have := ow_heap_size_g15.out; have := og15_g16.out; have := og14_g16.out; have := og13_g16.out; have := og12_g16.out; have := og11_g16.out; have := og10_g16.out; have := og9_g16.out; have := og8_g16.out; have := og7_g16.out; have := ow_heap_size_2_g16.out; have := ow_heap_size_1_g16.out; have := ow_heap_size_g16.out; have := og16_g17.out; have := og15_g17.out; have := og14_g17.out; have := og13_g17.out; have := og12_g17.out; have := og11_g17.out; have := og10_g17.out; have := og9_g17.out; have := og8_g17.out; have := og7_g17.out; have := ow_heap_size_2_g17.out; have := ow_heap_size_1_g17.out; have := ow_heap_size_g17.out; simp only [List.mem_cons, List.not_mem_nil, or_false, forall_eq_or_imp, forall_eq]; omega) rfl e66x0 e66x1 e66x2 e66x3 e66x4
  obtain ⟨W27, hW⟩ : ∃ W, (((((W26.setCell ⟨g14, 0, none⟩ (.int .u64 e66x0)).setCell ⟨g14, 1, none⟩ (.int .u64 e66x1)).setCell ⟨g14, 2, none⟩ (.int .u64 e66x2)).setCell ⟨g14, 3, none⟩ (.int .u64 e66x3)).setCell ⟨g14, 4, none⟩ (.int .u64 e66x4)) = W := ⟨_, rfl⟩
  rw [hW] at hN ⊢
  have X27 : Hid (Bs w [(w.heap.size + 2, z), (w.heap.size + 1, y), (w.heap.size, x)] [(g14, [e66x0, e66x1, e66x2, e66x3, e66x4]), (g13, [e63x0, e63x1, e63x2, e63x3, e63x4]), (g17, [e60x0, e60x1, e60x2, e60x3, e60x4]), (g16, [e57x0, e57x1, e57x2, e57x3, e57x4]), (g15, [e54x0, e54x1, e54x2, e54x3, e54x4]), (g12, [e33x0, e33x1, e33x2, e33x3, e33x4]), (g11, [e30x0, e30x1, e30x2, e30x3, e30x4]), (g10, [e27x0, e27x1, e27x2, e27x3, e27x4]), (g9, [e24x0, e24x1, e24x2, e24x3, e24x4]), (g8, [e22x0, e22x1, e22x2, e22x3, e22x4]), (g7, [e20x0, e20x1, e20x2, e20x3, e20x4])] W27) := hN
  clear hN hS hW X26
  go_wp2_with (fail)
  obtain ⟨kc, hkc⟩ : ∃ k, bts (num [e54x0, e54x1, e54x2, e54x3, e54x4]) = k := ⟨_, rfl⟩
  have C68 := bytes_f (L54.out) hkc
  have lkc : kc.length = 17 := by rw [← hkc]; exact bts_len _
  have Qkc : ∀ w, (Op.equalIn 10000 39 (.agg (VI .u8 kc)) (.agg (VI .u8 kc))).run Try.prog w = .ok true w := fun w => eq17t lkc w
  have HQkc : Hid (∀ w, (Op.equalIn 10000 39 (.agg (VI .u8 kc)) (.agg (VI .u8 kc))).run Try.prog w = .ok true w) := Qkc
  have Hkc : Hid (bts (num [e54x0, e54x1, e54x2, e54x3, e54x4]) = kc) := hkc
  clear hkc lkc Qkc
  have C70 := bytes_f (L57.out) (b := kc) (by rw [← Hkc.out]; simp only [N57.out, N22.out, N20.out, N54.out]; congr 1; exact m_comm _ _)
  obtain ⟨kd, hkd⟩ : ∃ k, bts (num [e63x0, e63x1, e63x2, e63x3, e63x4]) = k := ⟨_, rfl⟩
  have C74 := bytes_f (L63.out) hkd
  have lkd : kd.length = 17 := by rw [← hkd]; exact bts_len _
  have Qkd : ∀ w, (Op.equalIn 10000 39 (.agg (VI .u8 kd)) (.agg (VI .u8 kd))).run Try.prog w = .ok true w := fun w => eq17t lkd w
  have HQkd : Hid (∀ w, (Op.equalIn 10000 39 (.agg (VI .u8 kd)) (.agg (VI .u8 kd))).run Try.prog w = .ok true w) := Qkd
  have Hkd : Hid (bts (num [e63x0, e63x1, e63x2, e63x3, e63x4]) = kd) := hkd
  clear hkd lkd Qkd
  have C76 := bytes_f (L66.out) (b := kd) (by rw [← Hkd.out]; simp only [N66.out, N20.out, N60.out, N22.out, N24.out, N63.out, N54.out]; congr 1; exact (m_assoc _ _ _).symm)
  refine wp_as (c' := rgL16) (by kernel_rfl) ?_
  refine laws_r16  (X27.out.row (g := g15) (x := [e54x0, e54x1, e54x2, e54x3, e54x4]) (by simp)) C68 (X27.out.row (g := g16) (x := [e57x0, e57x1, e57x2, e57x3, e57x4]) (by simp)) C70 HQkc.out (X27.out.row (g := g13) (x := [e63x0, e63x1, e63x2, e63x3, e63x4]) (by simp)) C74 (X27.out.row (g := g14) (x := [e66x0, e66x1, e66x2, e66x3, e66x4]) (by simp)) C76 HQkd.out ?_
  intro W28 hb
  have X28 : Hid (Bs w [(w.heap.size + 2, z), (w.heap.size + 1, y), (w.heap.size, x)] [(g14, [e66x0, e66x1, e66x2, e66x3, e66x4]), (g13, [e63x0, e63x1, e63x2, e63x3, e63x4]), (g17, [e60x0, e60x1, e60x2, e60x3, e60x4]), (g16, [e57x0, e57x1, e57x2, e57x3, e57x4]), (g15, [e54x0, e54x1, e54x2, e54x3, e54x4]), (g12, [e33x0, e33x1, e33x2, e33x3, e33x4]), (g11, [e30x0, e30x1, e30x2, e30x3, e30x4]), (g10, [e27x0, e27x1, e27x2, e27x3, e27x4]), (g9, [e24x0, e24x1, e24x2, e24x3, e24x4]), (g8, [e22x0, e22x1, e22x2, e22x3, e22x4]), (g7, [e20x0, e20x1, e20x2, e20x3, e20x4])] W28) := X27.out.below hb
  clear hb X27
  obtain ⟨c00, c01, c02, c03, c04⟩ := cells5 (X28.out.row (g := g7) (x := [e20x0, e20x1, e20x2, e20x3, e20x4]) (by simp))
  have k0 := X28.out.lt (g := g7) (x := [e20x0, e20x1, e20x2, e20x3, e20x4]) (by simp)
  obtain ⟨c10, c11, c12, c13, c14⟩ := cells5 (X28.out.row (g := g9) (x := [e24x0, e24x1, e24x2, e24x3, e24x4]) (by simp))
  have k1 := X28.out.lt (g := g9) (x := [e24x0, e24x1, e24x2, e24x3, e24x4]) (by simp)
  go_wp2_with (fail)
  clear c00 c01 c02 c03 c04 k0
  clear c10 c11 c12 c13 c14 k1
  obtain ⟨e81x0, e81x1, e81x2, e81x3, e81x4, l81, n81, C81⟩ := mul_f L20.out L24.out
  have L81 : Hid (Lim [e81x0, e81x1, e81x2, e81x3, e81x4]) := l81
  have N81 : Hid _ := n81
  clear l81 n81
  refine (C81.out _).mono ?_
  rintro e W29 ⟨rfl, hb⟩
  have X29 : Hid (Bs w [(w.heap.size + 2, z), (w.heap.size + 1, y), (w.heap.size, x)] [(g14, [e66x0, e66x1, e66x2, e66x3, e66x4]), (g13, [e63x0, e63x1, e63x2, e63x3, e63x4]), (g17, [e60x0, e60x1, e60x2, e60x3, e60x4]), (g16, [e57x0, e57x1, e57x2, e57x3, e57x4]), (g15, [e54x0, e54x1, e54x2, e54x3, e54x4]), (g12, [e33x0, e33x1, e33x2, e33x3, e33x4]), (g11, [e30x0, e30x1, e30x2, e30x3, e30x4]), (g10, [e27x0, e27x1, e27x2, e27x3, e27x4]), (g9, [e24x0, e24x1, e24x2, e24x3, e24x4]), (g8, [e22x0, e22x1, e22x2, e22x3, e22x4]), (g7, [e20x0, e20x1, e20x2, e20x3, e20x4])] W29) := X28.out.below hb
  clear hb X28
  obtain ⟨c00, c01, c02, c03, c04⟩ := cells5 (X29.out.row (g := g7) (x := [e20x0, e20x1, e20x2, e20x3, e20x4]) (by simp))
  have k0 := X29.out.lt (g := g7) (x := [e20x0, e20x1, e20x2, e20x3, e20x4]) (by simp)
  obtain ⟨c10, c11, c12, c13, c14⟩ := cells5 (X29.out.row (g := g12) (x := [e33x0, e33x1, e33x2, e33x3, e33x4]) (by simp))
  have k1 := X29.out.lt (g := g12) (x := [e33x0, e33x1, e33x2, e33x3, e33x4]) (by simp)
  go_wp2_with (fail)
  clear c00 c01 c02 c03 c04 k0
  clear c10 c11 c12 c13 c14 k1
  obtain ⟨W30, hW⟩ : ∃ W, (W29.alloc (.cells #[.int .u64 e81x0, .int .u64 e81x1, .int .u64 e81x2, .int .u64 e81x3, .int .u64 e81x4] 29)) = W := ⟨_, rfl⟩
  have hN := (X29.out.new [e81x0, e81x1, e81x2, e81x3, e81x4])
  rw [show (W29.alloc (.cells (VI .u64 [e81x0, e81x1, e81x2, e81x3, e81x4]) 29)) = W30 from hW] at hN
  rw [hW]
  clear hW
  obtain ⟨g18, hg⟩ : ∃ g, W29.heap.size = g := ⟨_, rfl⟩
  have og14_g18 : Hid (g14 < g18) := by have h0 := X29.out.lt (g := g14) (x := [e66x0, e66x1, e66x2, e66x3, e66x4]) (by simp); rw [hg] at h0; exact h0
  have og13_g18 : Hid (g13 < g18) := by have h0 := X29.out.lt (g := g13) (x := [e63x0, e63x1, e63x2, e63x3, e63x4]) (by simp); rw [hg] at h0; exact h0
  have og17_g18 : Hid (g17 < g18) := by have h0 := X29.out.lt (g := g17) (x := [e60x0, e60x1, e60x2, e60x3, e60x4]) (by simp); rw [hg] at h0; exact h0
  have og16_g18 : Hid (g16 < g18) := by have h0 := X29.out.lt (g := g16) (x := [e57x0, e57x1, e57x2, e57x3, e57x4]) (by simp); rw [hg] at h0; exact h0
  have og15_g18 : Hid (g15 < g18) := by have h0 := X29.out.lt (g := g15) (x := [e54x0, e54x1, e54x2, e54x3, e54x4]) (by simp); rw [hg] at h0; exact h0
  have og12_g18 : Hid (g12 < g18) := by have h0 := X29.out.lt (g := g12) (x := [e33x0, e33x1, e33x2, e33x3, e33x4]) (by simp); rw [hg] at h0; exact h0
  have og11_g18 : Hid (g11 < g18) := by have h0 := X29.out.lt (g := g11) (x := [e30x0, e30x1, e30x2, e30x3, e30x4]) (by simp); rw [hg] at h0; exact h0
  have og10_g18 : Hid (g10 < g18) := by have h0 := X29.out.lt (g := g10) (x := [e27x0, e27x1, e27x2, e27x3, e27x4]) (by simp); rw [hg] at h0; exact h0
  have og9_g18 : Hid (g9 < g18) := by have h0 := X29.out.lt (g := g9) (x := [e24x0, e24x1, e24x2, e24x3, e24x4]) (by simp); rw [hg] at h0; exact h0
  have og8_g18 : Hid (g8 < g18) := by have h0 := X29.out.lt (g := g8) (x := [e22x0, e22x1, e22x2, e22x3, e22x4]) (by simp); rw [hg] at h0; exact h0
  have og7_g18 : Hid (g7 < g18) := by have h0 := X29.out.lt (g := g7) (x := [e20x0, e20x1, e20x2, e20x3, e20x4]) (by simp); rw [hg] at h0; exact h0
  have ow_heap_size_2_g18 : Hid (w.heap.size + 2 < g18) := by have h0 := X29.out.ltk (g := w.heap.size + 2) (x := z) (by simp); rw [hg] at h0; exact h0
  have ow_heap_size_1_g18 : Hid (w.heap.size + 1 < g18) := by have h0 := X29.out.ltk (g := w.heap.size + 1) (x := y) (by simp); rw [hg] at h0; exact h0
  have ow_heap_size_g18 : Hid (w.heap.size < g18) := by have h0 := X29.out.ltk (g := w.heap.size) (x := x) (by simp); rw [hg] at h0; exact h0
  rw [hg] at hN
  try simp only [hg]
  clear hg
  have X30 : Hid (Bs w [(w.heap.size + 2, z), (w.heap.size + 1, y), (w.heap.size, x)] [(g18, [e81x0, e81x1, e81x2, e81x3, e81x4]), (g14, [e66x0, e66x1, e66x2, e66x3, e66x4]), (g13, [e63x0, e63x1, e63x2, e63x3, e63x4]), (g17, [e60x0, e60x1, e60x2, e60x3, e60x4]), (g16, [e57x0, e57x1, e57x2, e57x3, e57x4]), (g15, [e54x0, e54x1, e54x2, e54x3, e54x4]), (g12, [e33x0, e33x1, e33x2, e33x3, e33x4]), (g11, [e30x0, e30x1, e30x2, e30x3, e30x4]), (g10, [e27x0, e27x1, e27x2, e27x3, e27x4]), (g9, [e24x0, e24x1, e24x2, e24x3, e24x4]), (g8, [e22x0, e22x1, e22x2, e22x3, e22x4]), (g7, [e20x0, e20x1, e20x2, e20x3, e20x4])] W30) := hN
  clear hN X29
  obtain ⟨e84x0, e84x1, e84x2, e84x3, e84x4, l84, n84, C84⟩ := mul_f L20.out L33.out
  have L84 : Hid (Lim [e84x0, e84x1, e84x2, e84x3, e84x4]) := l84
  have N84 : Hid _ := n84
  clear l84 n84
  refine (C84.out _).mono ?_
  rintro e W31 ⟨rfl, hb⟩
  have X31 : Hid (Bs w [(w.heap.size + 2, z), (w.heap.size + 1, y), (w.heap.size, x)] [(g18, [e81x0, e81x1, e81x2, e81x3, e81x4]), (g14, [e66x0, e66x1, e66x2, e66x3, e66x4]), (g13, [e63x0, e63x1, e63x2, e63x3, e63x4]), (g17, [e60x0, e60x1, e60x2, e60x3, e60x4]), (g16, [e57x0, e57x1, e57x2, e57x3, e57x4]), (g15, [e54x0, e54x1, e54x2, e54x3, e54x4]), (g12, [e33x0, e33x1, e33x2, e33x3, e33x4]), (g11, [e30x0, e30x1, e30x2, e30x3, e30x4]), (g10, [e27x0, e27x1, e27x2, e27x3, e27x4]), (g9, [e24x0, e24x1, e24x2, e24x3, e24x4]), (g8, [e22x0, e22x1, e22x2, e22x3, e22x4]), (g7, [e20x0, e20x1, e20x2, e20x3, e20x4])] W31) := X30.out.below hb
  clear hb X30
  obtain ⟨_, _, _, _, _, _, hy0, hy1, hy2, hy3, hy4, hz0, hz1, hz2, hz3, hz4⟩ := row5 (X31.out.row (g := g13) (x := [e63x0, e63x1, e63x2, e63x3, e63x4]) (by simp)) rfl
  go_upto_region 20 with fail
  clear hy0 hy1 hy2 hy3 hy4 hz0 hz1 hz2 hz3 hz4
  have hS : Bs w [(w.heap.size + 2, z), (w.heap.size + 1, y), (w.heap.size, x)] ((g13, [e63x0, e63x1, e63x2, e63x3, e63x4]) :: [(g18, [e81x0, e81x1, e81x2, e81x3, e81x4]), (g14, [e66x0, e66x1, e66x2, e66x3, e66x4]), (g17, [e60x0, e60x1, e60x2, e60x3, e60x4]), (g16, [e57x0, e57x1, e57x2, e57x3, e57x4]), (g15, [e54x0, e54x1, e54x2, e54x3, e54x4]), (g12, [e33x0, e33x1, e33x2, e33x3, e33x4]), (g11, [e30x0, e30x1, e30x2, e30x3, e30x4]), (g10, [e27x0, e27x1, e27x2, e27x3, e27x4]), (g9, [e24x0, e24x1, e24x2, e24x3, e24x4]), (g8, [e22x0, e22x1, e22x2, e22x3, e22x4]), (g7, [e20x0, e20x1, e20x2, e20x3, e20x4])]) W31 := X31.out.sub (by simp)
  have hN := hS.store5 (by have := HNL.out; have := ow_heap_size_2_g7.out; have := ow_heap_size_1_g7.out; have := ow_heap_size_g7.out; have := og7_g8.out; have := ow_heap_size_2_g8.out; have := ow_heap_size_1_g8.out; have := ow_heap_size_g8.out; have := og8_g9.out; have := og7_g9.out; have := ow_heap_size_2_g9.out; have := ow_heap_size_1_g9.out; have := ow_heap_size_g9.out; have := og9_g10.out; have := og8_g10.out; have := og7_g10.out; have := ow_heap_size_2_g10.out; have := ow_heap_size_1_g10.out; have := ow_heap_size_g10.out; have := og10_g11.out; have := og9_g11.out; have := og8_g11.out; have := og7_g11.out; have := ow_heap_size_2_g11.out; have := ow_heap_size_1_g11.out; have := ow_heap_size_g11.out; have := og11_g12.out; have := og10_g12.out; have := og9_g12.out; have := og8_g12.out; have := og7_g12.out; have := ow_heap_size_2_g12.out; have := ow_heap_size_1_g12.out; have := ow_heap_size_g12.out; have := og12_g13.out; have := og11_g13.out; have := og10_g13.out; have := og9_g13.out; have := og8_g13.out; have := og7_g13.out; have := ow_heap_size_2_g13.out; have := ow_heap_size_1_g13.out; have := ow_heap_size_g13.out; have := og13_g14.out; have := og12_g14.out; have := og11_g14.out; have := og10_g14.out; have := og9_g14.out; have := og8_g14.out; have := og7_g14.out; have := ow_heap_size_2_g14.out; have := ow_heap_size_1_g14.out; have := ow_heap_size_g14.out; have := og14_g15.out; have := og13_g15.out; have := og12_g15.out; have := og11_g15.out; have := og10_g15.out; have := og9_g15.out; have := og8_g15.out; have := og7_g15.out; have := ow_heap_size_2_g15.out; have := ow_heap_size_1_g15.out; have := ow_heap_size_g15.out; have := og15_g16.out; have := og14_g16.out; have := og13_g16.out; have := og12_g16.out; have := og11_g16.out; have := og10_g16.out; have := og9_g16.out; have := og8_g16.out; have := og7_g16.out; have := ow_heap_size_2_g16.out; have := ow_heap_size_1_g16.out; have := ow_heap_size_g16.out; have := og16_g17.out; have := og15_g17.out; have := og14_g17.out; have := og13_g17.out; have := og12_g17.out; have := og11_g17.out; have := og10_g17.out; have := og9_g17.out; have := og8_g17.out; have := og7_g17.out; have := ow_heap_size_2_g17.out; have := ow_heap_size_1_g17.out; have := ow_heap_size_g17.out; have := og14_g18.out; have := og13_g18.out; have := og17_g18.out; have := og16_g18.out; have := og15_g18.out; have := og12_g18.out; have := og11_g18.out; have := og10_g18.out; have := og9_g18.out; have := og8_g18.out; have := og7_g18.out; have := ow_heap_size_2_g18.out; have := ow_heap_size_1_g18.out; have := ow_heap_size_g18.out; omega) (by have := HNL.out; have := ow_heap_size_2_g7.out; have := ow_heap_size_1_g7.out; have := ow_heap_size_g7.out; have := og7_g8.out; have := ow_heap_size_2_g8.out; have := ow_heap_size_1_g8.out; have := ow_heap_size_g8.out; have := og8_g9.out; have := og7_g9.out; have := ow_heap_size_2_g9.out; have := ow_heap_size_1_g9.out; have := ow_heap_size_g9.out; have := og9_g10.out; have := og8_g10.out; have := og7_g10.out; have := ow_heap_size_2_g10.out; have := ow_heap_size_1_g10.out; have := ow_heap_size_g10.out; have := og10_g11.out; have := og9_g11.out; have := og8_g11.out; have := og7_g11.out; have := ow_heap_size_2_g11.out; have := ow_heap_size_1_g11.out; have := ow_heap_size_g11.out; have := og11_g12.out; have := og10_g12.out; have := og9_g12.out; have := og8_g12.out; have := og7_g12.out; have := ow_heap_size_2_g12.out; have := ow_heap_size_1_g12.out; have := ow_heap_size_g12.out; have := og12_g13.out; have := og11_g13.out; have := og10_g13.out; have := og9_g13.out; have := og8_g13.out; have := og7_g13.out; have := ow_heap_size_2_g13.out; have := ow_heap_size_1_g13.out; have := ow_heap_size_g13.out; have := og13_g14.out; have := og12_g14.out; have := og11_g14.out; have := og10_g14.out; have := og9_g14.out; have := og8_g14.out; have := og7_g14.out; have := ow_heap_size_2_g14.out; have := ow_heap_size_1_g14.out; have := ow_heap_size_g14.out; have := og14_g15.out; have := og13_g15.out; have := og12_g15.out; have := og11_g15.out; have := og10_g15.out; have := og9_g15.out; have := og8_g15.out; have := og7_g15.out; have := ow_heap_size_2_g15.out; have := ow_heap_size_1_g15.out; have := ow_heap_size_g15.out; have := og15_g16.out; have := og14_g16.out; have := og13_g16.out; have := og12_g16.out; have := og11_g16.out; have := og10_g16.out; have := og9_g16.out; have := og8_g16.out; have := og7_g16.out; have := ow_heap_size_2_g16.out; have := ow_heap_size_1_g16.out; have := ow_heap_size_g16.out; have := og16_g17.out; have := og15_g17.out; have := og14_g17.out; have := og13_g17.out; have := og12_g17.out; have := og11_g17.out; have := og10_g17.out; have := og9_g17.out; have := og8_g17.out; have := og7_g17.out; have := ow_heap_size_2_g17.out; have := ow_heap_size_1_g17.out; have := ow_heap_size_g17.out; have := og14_g18.out; have := og13_g18.out; have := og17_g18.out; have := og16_g18.out; have := og15_g18.out; have := og12_g18.out; have := og11_g18.out; have := og10_g18.out; have := og9_g18.out; have := og8_g18.out; have := og7_g18.out; have := ow_heap_size_2_g18.out; have := ow_heap_size_1_g18.out; have := ow_heap_size_g18.out; simp only [List.mem_cons, List.not_mem_nil, or_false, forall_eq_or_imp, forall_eq]; omega) (by have := HNL.out; have := ow_heap_size_2_g7.out; have := ow_heap_size_1_g7.out; have := ow_heap_size_g7.out; have := og7_g8.out; have := ow_heap_size_2_g8.out; have := ow_heap_size_1_g8.out; have := ow_heap_size_g8.out; have := og8_g9.out; have := og7_g9.out; have := ow_heap_size_2_g9.out; have := ow_heap_size_1_g9.out; have := ow_heap_size_g9.out; have := og9_g10.out; have := og8_g10.out; have := og7_g10.out; have := ow_heap_size_2_g10.out; have := ow_heap_size_1_g10.out; have := ow_heap_size_g10.out; have := og10_g11.out; have := og9_g11.out; have := og8_g11.out; have := og7_g11.out; have := ow_heap_size_2_g11.out; have := ow_heap_size_1_g11.out; have := ow_heap_size_g11.out; have := og11_g12.out; have := og10_g12.out; have := og9_g12.out; have := og8_g12.out; have := og7_g12.out; have := ow_heap_size_2_g12.out; have := ow_heap_size_1_g12.out; have := ow_heap_size_g12.out; have := og12_g13.out; have := og11_g13.out; have := og10_g13.out; have := og9_g13.out; have := og8_g13.out; have := og7_g13.out; have := ow_heap_size_2_g13.out; have := ow_heap_size_1_g13.out; have := ow_heap_size_g13.out; have := og13_g14.out; have := og12_g14.out; have := og11_g14.out; have := og10_g14.out; have := og9_g14.out; have := og8_g14.out; have := og7_g14.out; have := ow_heap_size_2_g14.out; have := ow_heap_size_1_g14.out; have := ow_heap_size_g14.out; have := og14_g15.out; have := og13_g15.out; have := og12_g15.out; have := og11_g15.out; have := og10_g15.out; have := og9_g15.out; have := og8_g15.out; have := og7_g15.out; have := ow_heap_size_2_g15.out; have := ow_heap_size_1_g15.out; have := ow_heap_size_g15.out; have := og15_g16.out; have := og14_g16.out; have := og13_g16.out; have := og12_g16.out; have := og11_g16.out; have := og10_g16.out; have := og9_g16.out; have := og8_g16.out; have := og7_g16.out; have := ow_heap_size_2_g16.out; have := ow_heap_size_1_g16.out; have := ow_heap_size_g16.out; have := og16_g17.out; have := og15_g17.out; have := og14_g17.out; have := og13_g17.out; have := og12_g17.out; have := og11_g17.out; have := og10_g17.out; have := og9_g17.out; have := og8_g17.out; have := og7_g17.out; have := ow_heap_size_2_g17.out; have := ow_heap_size_1_g17.out; have := ow_heap_size_g17.out; have := og14_g18.out; have := og13_g18.out; have := og17_g18.out; have := og16_g18.out; have := og15_g18.out; have := og12_g18.out; have := og11_g18.out; have := og10_g18.out; have := og9_g18.out; have := og8_g18.out; have := og7_g18.out; have := ow_heap_size_2_g18.out; have := ow_heap_size_1_g18.out; have := ow_heap_size_g18.out; simp only [List.mem_cons, List.not_mem_nil, or_false, forall_eq_or_imp, forall_eq]; omega) rfl e84x0 e84x1 e84x2 e84x3 e84x4
  obtain ⟨W32, hW⟩ : ∃ W, (((((W31.setCell ⟨g13, 0, none⟩ (.int .u64 e84x0)).setCell ⟨g13, 1, none⟩ (.int .u64 e84x1)).setCell ⟨g13, 2, none⟩ (.int .u64 e84x2)).setCell ⟨g13, 3, none⟩ (.int .u64 e84x3)).setCell ⟨g13, 4, none⟩ (.int .u64 e84x4)) = W := ⟨_, rfl⟩
  rw [hW] at hN ⊢
  have X32 : Hid (Bs w [(w.heap.size + 2, z), (w.heap.size + 1, y), (w.heap.size, x)] [(g13, [e84x0, e84x1, e84x2, e84x3, e84x4]), (g18, [e81x0, e81x1, e81x2, e81x3, e81x4]), (g14, [e66x0, e66x1, e66x2, e66x3, e66x4]), (g17, [e60x0, e60x1, e60x2, e60x3, e60x4]), (g16, [e57x0, e57x1, e57x2, e57x3, e57x4]), (g15, [e54x0, e54x1, e54x2, e54x3, e54x4]), (g12, [e33x0, e33x1, e33x2, e33x3, e33x4]), (g11, [e30x0, e30x1, e30x2, e30x3, e30x4]), (g10, [e27x0, e27x1, e27x2, e27x3, e27x4]), (g9, [e24x0, e24x1, e24x2, e24x3, e24x4]), (g8, [e22x0, e22x1, e22x2, e22x3, e22x4]), (g7, [e20x0, e20x1, e20x2, e20x3, e20x4])] W32) := hN
  clear hN hS hW X31
  obtain ⟨c00, c01, c02, c03, c04⟩ := cells5 (X32.out.row (g := g15) (x := [e54x0, e54x1, e54x2, e54x3, e54x4]) (by simp))
  have k0 := X32.out.lt (g := g15) (x := [e54x0, e54x1, e54x2, e54x3, e54x4]) (by simp)
  obtain ⟨c10, c11, c12, c13, c14⟩ := cells5 (X32.out.row (g := g18) (x := [e81x0, e81x1, e81x2, e81x3, e81x4]) (by simp))
  have k1 := X32.out.lt (g := g18) (x := [e81x0, e81x1, e81x2, e81x3, e81x4]) (by simp)
  go_wp2_with (fail)
  clear c00 c01 c02 c03 c04 k0
  clear c10 c11 c12 c13 c14 k1
  obtain ⟨e87x0, e87x1, e87x2, e87x3, e87x4, l87, n87, C87⟩ := add_f L54.out L81.out
  have L87 : Hid (Lim [e87x0, e87x1, e87x2, e87x3, e87x4]) := l87
  have N87 : Hid _ := n87
  clear l87 n87
  refine (C87.out _).mono ?_
  rintro e W33 ⟨rfl, hb⟩
  have X33 : Hid (Bs w [(w.heap.size + 2, z), (w.heap.size + 1, y), (w.heap.size, x)] [(g13, [e84x0, e84x1, e84x2, e84x3, e84x4]), (g18, [e81x0, e81x1, e81x2, e81x3, e81x4]), (g14, [e66x0, e66x1, e66x2, e66x3, e66x4]), (g17, [e60x0, e60x1, e60x2, e60x3, e60x4]), (g16, [e57x0, e57x1, e57x2, e57x3, e57x4]), (g15, [e54x0, e54x1, e54x2, e54x3, e54x4]), (g12, [e33x0, e33x1, e33x2, e33x3, e33x4]), (g11, [e30x0, e30x1, e30x2, e30x3, e30x4]), (g10, [e27x0, e27x1, e27x2, e27x3, e27x4]), (g9, [e24x0, e24x1, e24x2, e24x3, e24x4]), (g8, [e22x0, e22x1, e22x2, e22x3, e22x4]), (g7, [e20x0, e20x1, e20x2, e20x3, e20x4])] W33) := X32.out.below hb
  clear hb X32
  obtain ⟨_, _, _, _, _, _, hy0, hy1, hy2, hy3, hy4, hz0, hz1, hz2, hz3, hz4⟩ := row5 (X33.out.row (g := g14) (x := [e66x0, e66x1, e66x2, e66x3, e66x4]) (by simp)) rfl
  go_upto_region 21 with fail
  clear hy0 hy1 hy2 hy3 hy4 hz0 hz1 hz2 hz3 hz4
  have hS : Bs w [(w.heap.size + 2, z), (w.heap.size + 1, y), (w.heap.size, x)] ((g14, [e66x0, e66x1, e66x2, e66x3, e66x4]) :: [(g13, [e84x0, e84x1, e84x2, e84x3, e84x4]), (g18, [e81x0, e81x1, e81x2, e81x3, e81x4]), (g17, [e60x0, e60x1, e60x2, e60x3, e60x4]), (g16, [e57x0, e57x1, e57x2, e57x3, e57x4]), (g15, [e54x0, e54x1, e54x2, e54x3, e54x4]), (g12, [e33x0, e33x1, e33x2, e33x3, e33x4]), (g11, [e30x0, e30x1, e30x2, e30x3, e30x4]), (g10, [e27x0, e27x1, e27x2, e27x3, e27x4]), (g9, [e24x0, e24x1, e24x2, e24x3, e24x4]), (g8, [e22x0, e22x1, e22x2, e22x3, e22x4]), (g7, [e20x0, e20x1, e20x2, e20x3, e20x4])]) W33 := X33.out.sub (by simp)
  have hN := hS.store5 (by have := HNL.out; have := ow_heap_size_2_g7.out; have := ow_heap_size_1_g7.out; have := ow_heap_size_g7.out; have := og7_g8.out; have := ow_heap_size_2_g8.out; have := ow_heap_size_1_g8.out; have := ow_heap_size_g8.out; have := og8_g9.out; have := og7_g9.out; have := ow_heap_size_2_g9.out; have := ow_heap_size_1_g9.out; have := ow_heap_size_g9.out; have := og9_g10.out; have := og8_g10.out; have := og7_g10.out; have := ow_heap_size_2_g10.out; have := ow_heap_size_1_g10.out; have := ow_heap_size_g10.out; have := og10_g11.out; have := og9_g11.out; have := og8_g11.out; have := og7_g11.out; have := ow_heap_size_2_g11.out; have := ow_heap_size_1_g11.out; have := ow_heap_size_g11.out; have := og11_g12.out; have := og10_g12.out; have := og9_g12.out; have := og8_g12.out; have := og7_g12.out; have := ow_heap_size_2_g12.out; have := ow_heap_size_1_g12.out; have := ow_heap_size_g12.out; have := og12_g13.out; have := og11_g13.out; have := og10_g13.out; have := og9_g13.out; have := og8_g13.out; have := og7_g13.out; have := ow_heap_size_2_g13.out; have := ow_heap_size_1_g13.out; have := ow_heap_size_g13.out; have := og13_g14.out; have := og12_g14.out; have := og11_g14.out; have := og10_g14.out; have := og9_g14.out; have := og8_g14.out; have := og7_g14.out; have := ow_heap_size_2_g14.out; have := ow_heap_size_1_g14.out; have := ow_heap_size_g14.out; have := og14_g15.out; have := og13_g15.out; have := og12_g15.out; have := og11_g15.out; have := og10_g15.out; have := og9_g15.out; have := og8_g15.out; have := og7_g15.out; have := ow_heap_size_2_g15.out; have := ow_heap_size_1_g15.out; have := ow_heap_size_g15.out; have := og15_g16.out; have := og14_g16.out; have := og13_g16.out; have := og12_g16.out; have := og11_g16.out; have := og10_g16.out; have := og9_g16.out; have := og8_g16.out; have := og7_g16.out; have := ow_heap_size_2_g16.out; have := ow_heap_size_1_g16.out; have := ow_heap_size_g16.out; have := og16_g17.out; have := og15_g17.out; have := og14_g17.out; have := og13_g17.out; have := og12_g17.out; have := og11_g17.out; have := og10_g17.out; have := og9_g17.out; have := og8_g17.out; have := og7_g17.out; have := ow_heap_size_2_g17.out; have := ow_heap_size_1_g17.out; have := ow_heap_size_g17.out; have := og14_g18.out; have := og13_g18.out; have := og17_g18.out; have := og16_g18.out; have := og15_g18.out; have := og12_g18.out; have := og11_g18.out; have := og10_g18.out; have := og9_g18.out; have := og8_g18.out; have := og7_g18.out; have := ow_heap_size_2_g18.out; have := ow_heap_size_1_g18.out; have := ow_heap_size_g18.out; omega) (by have := HNL.out; have := ow_heap_size_2_g7.out; have := ow_heap_size_1_g7.out; have := ow_heap_size_g7.out; have := og7_g8.out; have := ow_heap_size_2_g8.out; have := ow_heap_size_1_g8.out; have := ow_heap_size_g8.out; have := og8_g9.out; have := og7_g9.out; have := ow_heap_size_2_g9.out; have := ow_heap_size_1_g9.out; have := ow_heap_size_g9.out; have := og9_g10.out; have := og8_g10.out; have := og7_g10.out; have := ow_heap_size_2_g10.out; have := ow_heap_size_1_g10.out; have := ow_heap_size_g10.out; have := og10_g11.out; have := og9_g11.out; have := og8_g11.out; have := og7_g11.out; have := ow_heap_size_2_g11.out; have := ow_heap_size_1_g11.out; have := ow_heap_size_g11.out; have := og11_g12.out; have := og10_g12.out; have := og9_g12.out; have := og8_g12.out; have := og7_g12.out; have := ow_heap_size_2_g12.out; have := ow_heap_size_1_g12.out; have := ow_heap_size_g12.out; have := og12_g13.out; have := og11_g13.out; have := og10_g13.out; have := og9_g13.out; have := og8_g13.out; have := og7_g13.out; have := ow_heap_size_2_g13.out; have := ow_heap_size_1_g13.out; have := ow_heap_size_g13.out; have := og13_g14.out; have := og12_g14.out; have := og11_g14.out; have := og10_g14.out; have := og9_g14.out; have := og8_g14.out; have := og7_g14.out; have := ow_heap_size_2_g14.out; have := ow_heap_size_1_g14.out; have := ow_heap_size_g14.out; have := og14_g15.out; have := og13_g15.out; have := og12_g15.out; have := og11_g15.out; have := og10_g15.out; have := og9_g15.out; have := og8_g15.out; have := og7_g15.out; have := ow_heap_size_2_g15.out; have := ow_heap_size_1_g15.out; have := ow_heap_size_g15.out; have := og15_g16.out; have := og14_g16.out; have := og13_g16.out; have := og12_g16.out; have := og11_g16.out; have := og10_g16.out; have := og9_g16.out; have := og8_g16.out; have := og7_g16.out; have := ow_heap_size_2_g16.out; have := ow_heap_size_1_g16.out; have := ow_heap_size_g16.out; have := og16_g17.out; have := og15_g17.out; have := og14_g17.out; have := og13_g17.out; have := og12_g17.out; have := og11_g17.out; have := og10_g17.out; have := og9_g17.out; have := og8_g17.out; have := og7_g17.out; have := ow_heap_size_2_g17.out; have := ow_heap_size_1_g17.out; have := ow_heap_size_g17.out; have := og14_g18.out; have := og13_g18.out; have := og17_g18.out; have := og16_g18.out; have := og15_g18.out; have := og12_g18.out; have := og11_g18.out; have := og10_g18.out; have := og9_g18.out; have := og8_g18.out; have := og7_g18.out; have := ow_heap_size_2_g18.out; have := ow_heap_size_1_g18.out; have := ow_heap_size_g18.out; simp only [List.mem_cons, List.not_mem_nil, or_false, forall_eq_or_imp, forall_eq]; omega) (by have := HNL.out; have := ow_heap_size_2_g7.out; have := ow_heap_size_1_g7.out; have := ow_heap_size_g7.out; have := og7_g8.out; have := ow_heap_size_2_g8.out; have := ow_heap_size_1_g8.out; have := ow_heap_size_g8.out; have := og8_g9.out; have := og7_g9.out; have := ow_heap_size_2_g9.out; have := ow_heap_size_1_g9.out; have := ow_heap_size_g9.out; have := og9_g10.out; have := og8_g10.out; have := og7_g10.out; have := ow_heap_size_2_g10.out; have := ow_heap_size_1_g10.out; have := ow_heap_size_g10.out; have := og10_g11.out; have := og9_g11.out; have := og8_g11.out; have := og7_g11.out; have := ow_heap_size_2_g11.out; have := ow_heap_size_1_g11.out; have := ow_heap_size_g11.out; have := og11_g12.out; have := og10_g12.out; have := og9_g12.out; have := og8_g12.out; have := og7_g12.out; have := ow_heap_size_2_g12.out; have := ow_heap_size_1_g12.out; have := ow_heap_size_g12.out; have := og12_g13.out; have := og11_g13.out; have := og10_g13.out; have := og9_g13.out; have := og8_g13.out; have := og7_g13.out; have := ow_heap_size_2_g13.out; have := ow_heap_size_1_g13.out; have := ow_heap_size_g13.out; have := og13_g14.out; have := og12_g14.out; have := og11_g14.out; have := og10_g14.out; have := og9_g14.out; have := og8_g14.out; have := og7_g14.out; have := ow_heap_size_2_g14.out; have := ow_heap_size_1_g14.out; have := ow_heap_size_g14.out; have := og14_g15.out; have := og13_g15.out; have := og12_g15.out; have := og11_g15.out; have := og10_g15.out; have := og9_g15.out; have := og8_g15.out; have := og7_g15.out; have := ow_heap_size_2_g15.out; have := ow_heap_size_1_g15.out; have := ow_heap_size_g15.out; have := og15_g16.out; have := og14_g16.out; have := og13_g16.out; have := og12_g16.out; have := og11_g16.out; have := og10_g16.out; have := og9_g16.out; have := og8_g16.out; have := og7_g16.out; have := ow_heap_size_2_g16.out; have := ow_heap_size_1_g16.out; have := ow_heap_size_g16.out; have := og16_g17.out; have := og15_g17.out; have := og14_g17.out; have := og13_g17.out; have := og12_g17.out; have := og11_g17.out; have := og10_g17.out; have := og9_g17.out; have := og8_g17.out; have := og7_g17.out; have := ow_heap_size_2_g17.out; have := ow_heap_size_1_g17.out; have := ow_heap_size_g17.out; have := og14_g18.out; have := og13_g18.out; have := og17_g18.out; have := og16_g18.out; have := og15_g18.out; have := og12_g18.out; have := og11_g18.out; have := og10_g18.out; have := og9_g18.out; have := og8_g18.out; have := og7_g18.out; have := ow_heap_size_2_g18.out; have := ow_heap_size_1_g18.out; have := ow_heap_size_g18.out; simp only [List.mem_cons, List.not_mem_nil, or_false, forall_eq_or_imp, forall_eq]; omega) rfl e87x0 e87x1 e87x2 e87x3 e87x4
  obtain ⟨W34, hW⟩ : ∃ W, (((((W33.setCell ⟨g14, 0, none⟩ (.int .u64 e87x0)).setCell ⟨g14, 1, none⟩ (.int .u64 e87x1)).setCell ⟨g14, 2, none⟩ (.int .u64 e87x2)).setCell ⟨g14, 3, none⟩ (.int .u64 e87x3)).setCell ⟨g14, 4, none⟩ (.int .u64 e87x4)) = W := ⟨_, rfl⟩
  rw [hW] at hN ⊢
  have X34 : Hid (Bs w [(w.heap.size + 2, z), (w.heap.size + 1, y), (w.heap.size, x)] [(g14, [e87x0, e87x1, e87x2, e87x3, e87x4]), (g13, [e84x0, e84x1, e84x2, e84x3, e84x4]), (g18, [e81x0, e81x1, e81x2, e81x3, e81x4]), (g17, [e60x0, e60x1, e60x2, e60x3, e60x4]), (g16, [e57x0, e57x1, e57x2, e57x3, e57x4]), (g15, [e54x0, e54x1, e54x2, e54x3, e54x4]), (g12, [e33x0, e33x1, e33x2, e33x3, e33x4]), (g11, [e30x0, e30x1, e30x2, e30x3, e30x4]), (g10, [e27x0, e27x1, e27x2, e27x3, e27x4]), (g9, [e24x0, e24x1, e24x2, e24x3, e24x4]), (g8, [e22x0, e22x1, e22x2, e22x3, e22x4]), (g7, [e20x0, e20x1, e20x2, e20x3, e20x4])] W34) := hN
  clear hN hS hW X33
  go_wp2_with (fail)
  obtain ⟨ke, hke⟩ : ∃ k, bts (num [e84x0, e84x1, e84x2, e84x3, e84x4]) = k := ⟨_, rfl⟩
  have C89 := bytes_f (L84.out) hke
  have lke : ke.length = 17 := by rw [← hke]; exact bts_len _
  have Qke : ∀ w, (Op.equalIn 10000 39 (.agg (VI .u8 ke)) (.agg (VI .u8 ke))).run Try.prog w = .ok true w := fun w => eq17t lke w
  have HQke : Hid (∀ w, (Op.equalIn 10000 39 (.agg (VI .u8 ke)) (.agg (VI .u8 ke))).run Try.prog w = .ok true w) := Qke
  have Hke : Hid (bts (num [e84x0, e84x1, e84x2, e84x3, e84x4]) = ke) := hke
  clear hke lke Qke
  have C91 := bytes_f (L87.out) (b := ke) (by rw [← Hke.out]; simp only [N87.out, N54.out, N20.out, N22.out, N81.out, N24.out, N84.out, N33.out]; congr 1; exact (m_dist _ _ _).symm)
  have C94 : Hid (∀ w, Calls Try.prog 12 #[] w fun e w' => e = .returned (.bool true) ∧ Below w.heap.size w w') := known_any
  refine wp_as (c' := rgL21) (by kernel_rfl) ?_
  refine laws_r21  (X34.out.row (g := g13) (x := [e84x0, e84x1, e84x2, e84x3, e84x4]) (by simp)) C89 (X34.out.row (g := g14) (x := [e87x0, e87x1, e87x2, e87x3, e87x4]) (by simp)) C91 HQke.out C94 ?_
  intro W35 hb
  have X35 : Hid (Bs w [(w.heap.size + 2, z), (w.heap.size + 1, y), (w.heap.size, x)] [(g14, [e87x0, e87x1, e87x2, e87x3, e87x4]), (g13, [e84x0, e84x1, e84x2, e84x3, e84x4]), (g18, [e81x0, e81x1, e81x2, e81x3, e81x4]), (g17, [e60x0, e60x1, e60x2, e60x3, e60x4]), (g16, [e57x0, e57x1, e57x2, e57x3, e57x4]), (g15, [e54x0, e54x1, e54x2, e54x3, e54x4]), (g12, [e33x0, e33x1, e33x2, e33x3, e33x4]), (g11, [e30x0, e30x1, e30x2, e30x3, e30x4]), (g10, [e27x0, e27x1, e27x2, e27x3, e27x4]), (g9, [e24x0, e24x1, e24x2, e24x3, e24x4]), (g8, [e22x0, e22x1, e22x2, e22x3, e22x4]), (g7, [e20x0, e20x1, e20x2, e20x3, e20x4])] W35) := X34.out.below hb
  clear hb X34
  go_wp2
  go_ret
  exact ⟨rfl, X35.out.old⟩
end Go.Proofs.Ytfeoamkngnpcmaa
