import Derived.Test.YteimmjdiaophoaaFldRing6
import Derived.Test.YteimmjdiaophoaaFldRing9
import Derived.Test.YteimmjdiaophoaaFldRing13
import Derived.Test.YteimmjdiaophoaaFldRing16
namespace Go.Proofs.Yteimmjdiaophoaa
set_option linter.unusedSimpArgs false
open Go.ChangeShapes Go.WideShapes Go.ChangeAt Go.RowKit Go.Pin Go.Fld
theorem wp_as {P : Program} {c c' : Code} {Q : Exit → Act → World → Prop} {a : Act} {w : World} (h : c = c') (hc : Code.wp P c' Q a w) : Code.wp P c Q a w := by rw [h]; exact hc
set_option maxRecDepth 100000 in
set_option maxHeartbeats 20000000 in
theorem ring_walk (x y z : List Int) (hx : Key32 x) (hy : Key32 y) (hz : Key32 z) (n : Nat) (hn : n < 4294967296) (w : World) :
    Calls Try.prog 6 #[.agg (VI .u8 x), .agg (VI .u8 y), .agg (VI .u8 z), .int .u32 (n : Int)] w fun e w' => e = .returned (.bool true) ∧ Below w.heap.size w w' := by
  have HX : Hid (Key32 x) := hx
  have HY : Hid (Key32 y) := hy
  have HZ : Hid (Key32 z) := hz
  have HN : Hid (n < 4294967296) := hn
  have hs := bs_start3 w x y z
  obtain ⟨W0, hW0⟩ : ∃ W, ((w.alloc (.cells (VI .u8 x) 40)).alloc (.cells (VI .u8 y) 40)).alloc (.cells (VI .u8 z) 40) = W := ⟨_, rfl⟩
  rw [hW0] at hs
  have X0 : Hid (Bs w [(w.heap.size + 2, z), (w.heap.size + 1, y), (w.heap.size, x)] [] W0) := hs
  clear hs hx hy hz
  go_enter Try.func6, Try.ntmps6
  go_wp2_with (with_reducible refine at_list ?_; first | (refine wpList_load_row rfl 40 (.tmp 4) rfl (w.heap.size) rfl 40 (VI .u8 x) (0, 0) _ (X0.out.key (g := w.heap.size) (x := x) (by simp)) Try.underlying40 rfl (HX.out).info ?_))
  obtain ⟨e19x0, e19x1, e19x2, e19x3, e19x4, l19, n19, C19⟩ := dec_f (b := x) HX.out
  have L19 : Hid (Lim [e19x0, e19x1, e19x2, e19x3, e19x4]) := l19
  have N19 : Hid _ := n19
  clear l19 n19
  refine (C19.out _).mono ?_
  rintro e W1 ⟨rfl, hb⟩
  have X1 : Hid (Bs w [(w.heap.size + 2, z), (w.heap.size + 1, y), (w.heap.size, x)] [] W1) := X0.out.below hb
  clear hb X0
  go_wp2_with (with_reducible refine at_list ?_; first | (refine wpList_load_row rfl 40 (.tmp 5) rfl (w.heap.size + 1) rfl 40 (VI .u8 y) (0, 0) _ ((X1.out.new [e19x0, e19x1, e19x2, e19x3, e19x4]).key (by simp)) Try.underlying40 rfl (HY.out).info ?_))
  obtain ⟨W2, hW⟩ : ∃ W, (W1.alloc (.cells #[.int .u64 e19x0, .int .u64 e19x1, .int .u64 e19x2, .int .u64 e19x3, .int .u64 e19x4] 27)) = W := ⟨_, rfl⟩
  have hN := (X1.out.new [e19x0, e19x1, e19x2, e19x3, e19x4])
  rw [show (W1.alloc (.cells (VI .u64 [e19x0, e19x1, e19x2, e19x3, e19x4]) 27)) = W2 from hW] at hN
  rw [hW]
  clear hW
  obtain ⟨g9, hg⟩ : ∃ g, W1.heap.size = g := ⟨_, rfl⟩
  rw [hg] at hN
  try simp only [hg]
  clear hg
  have X2 : Hid (Bs w [(w.heap.size + 2, z), (w.heap.size + 1, y), (w.heap.size, x)] [(g9, [e19x0, e19x1, e19x2, e19x3, e19x4])] W2) := hN
  clear hN X1
  obtain ⟨e21x0, e21x1, e21x2, e21x3, e21x4, l21, n21, C21⟩ := dec_f (b := y) HY.out
  have L21 : Hid (Lim [e21x0, e21x1, e21x2, e21x3, e21x4]) := l21
  have N21 : Hid _ := n21
  clear l21 n21
  refine (C21.out _).mono ?_
  rintro e W3 ⟨rfl, hb⟩
  have X3 : Hid (Bs w [(w.heap.size + 2, z), (w.heap.size + 1, y), (w.heap.size, x)] [(g9, [e19x0, e19x1, e19x2, e19x3, e19x4])] W3) := X2.out.below hb
  clear hb X2
  go_wp2_with (with_reducible refine at_list ?_; first | (refine wpList_load_row rfl 40 (.tmp 6) rfl (w.heap.size + 2) rfl 40 (VI .u8 z) (0, 0) _ ((X3.out.new [e21x0, e21x1, e21x2, e21x3, e21x4]).key (by simp)) Try.underlying40 rfl (HZ.out).info ?_))
  obtain ⟨W4, hW⟩ : ∃ W, (W3.alloc (.cells #[.int .u64 e21x0, .int .u64 e21x1, .int .u64 e21x2, .int .u64 e21x3, .int .u64 e21x4] 27)) = W := ⟨_, rfl⟩
  have hN := (X3.out.new [e21x0, e21x1, e21x2, e21x3, e21x4])
  rw [show (W3.alloc (.cells (VI .u64 [e21x0, e21x1, e21x2, e21x3, e21x4]) 27)) = W4 from hW] at hN
  rw [hW]
  clear hW
  obtain ⟨g10, hg⟩ : ∃ g, W3.heap.size = g := ⟨_, rfl⟩
  rw [hg] at hN
  try simp only [hg]
  clear hg
  have X4 : Hid (Bs w [(w.heap.size + 2, z), (w.heap.size + 1, y), (w.heap.size, x)] [(g10, [e21x0, e21x1, e21x2, e21x3, e21x4]), (g9, [e19x0, e19x1, e19x2, e19x3, e19x4])] W4) := hN
  clear hN X3
  obtain ⟨e23x0, e23x1, e23x2, e23x3, e23x4, l23, n23, C23⟩ := dec_f (b := z) HZ.out
  have L23 : Hid (Lim [e23x0, e23x1, e23x2, e23x3, e23x4]) := l23
  have N23 : Hid _ := n23
  clear l23 n23
  refine (C23.out _).mono ?_
  rintro e W5 ⟨rfl, hb⟩
  have X5 : Hid (Bs w [(w.heap.size + 2, z), (w.heap.size + 1, y), (w.heap.size, x)] [(g10, [e21x0, e21x1, e21x2, e21x3, e21x4]), (g9, [e19x0, e19x1, e19x2, e19x3, e19x4])] W5) := X4.out.below hb
  clear hb X4
  obtain ⟨c00, c01, c02, c03, c04⟩ := cells5 (X5.out.row (g := g9) (x := [e19x0, e19x1, e19x2, e19x3, e19x4]) (by simp))
  have k0 := X5.out.lt (g := g9) (x := [e19x0, e19x1, e19x2, e19x3, e19x4]) (by simp)
  obtain ⟨c10, c11, c12, c13, c14⟩ := cells5 (X5.out.row (g := g10) (x := [e21x0, e21x1, e21x2, e21x3, e21x4]) (by simp))
  have k1 := X5.out.lt (g := g10) (x := [e21x0, e21x1, e21x2, e21x3, e21x4]) (by simp)
  go_wp2_with (fail)
  clear c00 c01 c02 c03 c04 k0
  clear c10 c11 c12 c13 c14 k1
  obtain ⟨W6, hW⟩ : ∃ W, (W5.alloc (.cells #[.int .u64 e23x0, .int .u64 e23x1, .int .u64 e23x2, .int .u64 e23x3, .int .u64 e23x4] 27)) = W := ⟨_, rfl⟩
  have hN := (X5.out.new [e23x0, e23x1, e23x2, e23x3, e23x4])
  rw [show (W5.alloc (.cells (VI .u64 [e23x0, e23x1, e23x2, e23x3, e23x4]) 27)) = W6 from hW] at hN
  rw [hW]
  clear hW
  obtain ⟨g11, hg⟩ : ∃ g, W5.heap.size = g := ⟨_, rfl⟩
  rw [hg] at hN
  try simp only [hg]
  clear hg
  have X6 : Hid (Bs w [(w.heap.size + 2, z), (w.heap.size + 1, y), (w.heap.size, x)] [(g11, [e23x0, e23x1, e23x2, e23x3, e23x4]), (g10, [e21x0, e21x1, e21x2, e21x3, e21x4]), (g9, [e19x0, e19x1, e19x2, e19x3, e19x4])] W6) := hN
  clear hN X5
  obtain ⟨e27x0, e27x1, e27x2, e27x3, e27x4, l27, n27, C27⟩ := add_f L19.out L21.out
  have L27 : Hid (Lim [e27x0, e27x1, e27x2, e27x3, e27x4]) := l27
  have N27 : Hid _ := n27
  clear l27 n27
  refine (C27.out _).mono ?_
  rintro e W7 ⟨rfl, hb⟩
  have X7 : Hid (Bs w [(w.heap.size + 2, z), (w.heap.size + 1, y), (w.heap.size, x)] [(g11, [e23x0, e23x1, e23x2, e23x3, e23x4]), (g10, [e21x0, e21x1, e21x2, e21x3, e21x4]), (g9, [e19x0, e19x1, e19x2, e19x3, e19x4])] W7) := X6.out.below hb
  clear hb X6
  go_wp2_with (fail)
  obtain ⟨W8, hW⟩ : ∃ W, (W7.alloc (.cells #[.int .u64 e27x0, .int .u64 e27x1, .int .u64 e27x2, .int .u64 e27x3, .int .u64 e27x4] 27)) = W := ⟨_, rfl⟩
  have hN := (X7.out.new [e27x0, e27x1, e27x2, e27x3, e27x4])
  rw [show (W7.alloc (.cells (VI .u64 [e27x0, e27x1, e27x2, e27x3, e27x4]) 27)) = W8 from hW] at hN
  rw [hW]
  clear hW
  obtain ⟨g13, hg⟩ : ∃ g, W7.heap.size = g := ⟨_, rfl⟩
  rw [hg] at hN
  try simp only [hg]
  clear hg
  have X8 : Hid (Bs w [(w.heap.size + 2, z), (w.heap.size + 1, y), (w.heap.size, x)] [(g13, [e27x0, e27x1, e27x2, e27x3, e27x4]), (g11, [e23x0, e23x1, e23x2, e23x3, e23x4]), (g10, [e21x0, e21x1, e21x2, e21x3, e21x4]), (g9, [e19x0, e19x1, e19x2, e19x3, e19x4])] W8) := hN
  clear hN X7
  obtain ⟨e32x0, e32x1, e32x2, e32x3, e32x4, l32, n32, C32⟩ := add_f L21.out L19.out
  have L32 : Hid (Lim [e32x0, e32x1, e32x2, e32x3, e32x4]) := l32
  have N32 : Hid _ := n32
  clear l32 n32
  have C33 : Hid (∀ w, Calls Try.prog 21 #[.agg #[.int .u64 e27x0, .int .u64 e27x1, .int .u64 e27x2, .int .u64 e27x3, .int .u64 e27x4], .agg #[.int .u64 e32x0, .int .u64 e32x1, .int .u64 e32x2, .int .u64 e32x3, .int .u64 e32x4]] w fun e w' => e = .returned (.bool true) ∧ Below w.heap.size w w') := same_f L27.out L32.out _ (by simp only [decide_eq_true_eq, num_zero, N27.out, N19.out, N21.out, N32.out]; exact r_comm _ _)
  obtain ⟨e39x0, e39x1, e39x2, e39x3, e39x4, l39, n39, C39⟩ := add_f L27.out L23.out
  have L39 : Hid (Lim [e39x0, e39x1, e39x2, e39x3, e39x4]) := l39
  have N39 : Hid _ := n39
  clear l39 n39
  obtain ⟨e45x0, e45x1, e45x2, e45x3, e45x4, l45, n45, C45⟩ := add_f L21.out L23.out
  have L45 : Hid (Lim [e45x0, e45x1, e45x2, e45x3, e45x4]) := l45
  have N45 : Hid _ := n45
  clear l45 n45
  obtain ⟨e46x0, e46x1, e46x2, e46x3, e46x4, l46, n46, C46⟩ := add_f L19.out L45.out
  have L46 : Hid (Lim [e46x0, e46x1, e46x2, e46x3, e46x4]) := l46
  have N46 : Hid _ := n46
  clear l46 n46
  have C47 : Hid (∀ w, Calls Try.prog 21 #[.agg #[.int .u64 e39x0, .int .u64 e39x1, .int .u64 e39x2, .int .u64 e39x3, .int .u64 e39x4], .agg #[.int .u64 e46x0, .int .u64 e46x1, .int .u64 e46x2, .int .u64 e46x3, .int .u64 e46x4]] w fun e w' => e = .returned (.bool true) ∧ Below w.heap.size w w') := same_f L39.out L46.out _ (by simp only [decide_eq_true_eq, num_zero, N39.out, N27.out, N19.out, N21.out, N23.out, N46.out, N45.out]; exact r_assoc _ _ _)
  obtain ⟨e54x0, e54x1, e54x2, e54x3, e54x4, l54, n54, C54⟩ := sub_f L27.out L21.out
  have L54 : Hid (Lim [e54x0, e54x1, e54x2, e54x3, e54x4]) := l54
  have N54 : Hid _ := n54
  clear l54 n54
  have C56 : Hid (∀ w, Calls Try.prog 21 #[.agg #[.int .u64 e54x0, .int .u64 e54x1, .int .u64 e54x2, .int .u64 e54x3, .int .u64 e54x4], .agg #[.int .u64 e19x0, .int .u64 e19x1, .int .u64 e19x2, .int .u64 e19x3, .int .u64 e19x4]] w fun e w' => e = .returned (.bool true) ∧ Below w.heap.size w w') := same_f L54.out L19.out _ (by simp only [decide_eq_true_eq, num_zero, N54.out, N27.out, N19.out, N21.out]; exact r_sub _ _ (Nat.mod_lt _ (by decide)) (Nat.mod_lt _ (by decide)))
  obtain ⟨e64x0, e64x1, e64x2, e64x3, e64x4, l64, n64, C64⟩ := sub_f L19.out L21.out
  have L64 : Hid (Lim [e64x0, e64x1, e64x2, e64x3, e64x4]) := l64
  have N64 : Hid _ := n64
  clear l64 n64
  obtain ⟨e66x0, e66x1, e66x2, e66x3, e66x4, l66, n66, C66⟩ := add_f L64.out L21.out
  have L66 : Hid (Lim [e66x0, e66x1, e66x2, e66x3, e66x4]) := l66
  have N66 : Hid _ := n66
  clear l66 n66
  have C68 : Hid (∀ w, Calls Try.prog 21 #[.agg #[.int .u64 e66x0, .int .u64 e66x1, .int .u64 e66x2, .int .u64 e66x3, .int .u64 e66x4], .agg #[.int .u64 e19x0, .int .u64 e19x1, .int .u64 e19x2, .int .u64 e19x3, .int .u64 e19x4]] w fun e w' => e = .returned (.bool true) ∧ Below w.heap.size w w') := same_f L66.out L19.out _ (by simp only [decide_eq_true_eq, num_zero, N66.out, N64.out, N19.out, N21.out]; exact r_subadd _ _ (Nat.mod_lt _ (by decide)) (Nat.mod_lt _ (by decide)))
  refine wp_as (c' := rgR6) (by kernel_rfl) ?_
  refine ring_r6 HN (X8.out.row (g := g13) (x := [e27x0, e27x1, e27x2, e27x3, e27x4]) (by simp)) (X8.out.row (g := g10) (x := [e21x0, e21x1, e21x2, e21x3, e21x4]) (by simp)) (X8.out.row (g := g9) (x := [e19x0, e19x1, e19x2, e19x3, e19x4]) (by simp)) C32 C33 (X8.out.row (g := g11) (x := [e23x0, e23x1, e23x2, e23x3, e23x4]) (by simp)) C39 C45 C46 C47 C54 C56 C64 C66 C68 ?_
  intro W9 hb
  have X9 : Hid (Bs w [(w.heap.size + 2, z), (w.heap.size + 1, y), (w.heap.size, x)] [(g13, [e27x0, e27x1, e27x2, e27x3, e27x4]), (g11, [e23x0, e23x1, e23x2, e23x3, e23x4]), (g10, [e21x0, e21x1, e21x2, e21x3, e21x4]), (g9, [e19x0, e19x1, e19x2, e19x3, e19x4])] W9) := X8.out.below hb
  clear hb X8
  obtain ⟨c00, c01, c02, c03, c04⟩ := cells5 (X9.out.row (g := g9) (x := [e19x0, e19x1, e19x2, e19x3, e19x4]) (by simp))
  have k0 := X9.out.lt (g := g9) (x := [e19x0, e19x1, e19x2, e19x3, e19x4]) (by simp)
  obtain ⟨c10, c11, c12, c13, c14⟩ := cells5 (X9.out.row (g := g10) (x := [e21x0, e21x1, e21x2, e21x3, e21x4]) (by simp))
  have k1 := X9.out.lt (g := g10) (x := [e21x0, e21x1, e21x2, e21x3, e21x4]) (by simp)
  go_wp2_with (fail)
  clear c00 c01 c02 c03 c04 k0
  clear c10 c11 c12 c13 c14 k1
  obtain ⟨e74x0, e74x1, e74x2, e74x3, e74x4, l74, n74, C74⟩ := mul_f L19.out L21.out
  have L74 : Hid (Lim [e74x0, e74x1, e74x2, e74x3, e74x4]) := l74
  have N74 : Hid _ := n74
  clear l74 n74
  refine (C74.out _).mono ?_
  rintro e W10 ⟨rfl, hb⟩
  have X10 : Hid (Bs w [(w.heap.size + 2, z), (w.heap.size + 1, y), (w.heap.size, x)] [(g13, [e27x0, e27x1, e27x2, e27x3, e27x4]), (g11, [e23x0, e23x1, e23x2, e23x3, e23x4]), (g10, [e21x0, e21x1, e21x2, e21x3, e21x4]), (g9, [e19x0, e19x1, e19x2, e19x3, e19x4])] W10) := X9.out.below hb
  clear hb X9
  go_wp2_with (fail)
  obtain ⟨W11, hW⟩ : ∃ W, (W10.alloc (.cells #[.int .u64 e74x0, .int .u64 e74x1, .int .u64 e74x2, .int .u64 e74x3, .int .u64 e74x4] 27)) = W := ⟨_, rfl⟩
  have hN := (X10.out.new [e74x0, e74x1, e74x2, e74x3, e74x4])
  rw [show (W10.alloc (.cells (VI .u64 [e74x0, e74x1, e74x2, e74x3, e74x4]) 27)) = W11 from hW] at hN
  rw [hW]
  clear hW
  obtain ⟨g14, hg⟩ : ∃ g, W10.heap.size = g := ⟨_, rfl⟩
  rw [hg] at hN
  try simp only [hg]
  clear hg
  have X11 : Hid (Bs w [(w.heap.size + 2, z), (w.heap.size + 1, y), (w.heap.size, x)] [(g14, [e74x0, e74x1, e74x2, e74x3, e74x4]), (g13, [e27x0, e27x1, e27x2, e27x3, e27x4]), (g11, [e23x0, e23x1, e23x2, e23x3, e23x4]), (g10, [e21x0, e21x1, e21x2, e21x3, e21x4]), (g9, [e19x0, e19x1, e19x2, e19x3, e19x4])] W11) := hN
  clear hN X10
  obtain ⟨e79x0, e79x1, e79x2, e79x3, e79x4, l79, n79, C79⟩ := mul_f L21.out L19.out
  have L79 : Hid (Lim [e79x0, e79x1, e79x2, e79x3, e79x4]) := l79
  have N79 : Hid _ := n79
  clear l79 n79
  have C80 : Hid (∀ w, Calls Try.prog 21 #[.agg #[.int .u64 e74x0, .int .u64 e74x1, .int .u64 e74x2, .int .u64 e74x3, .int .u64 e74x4], .agg #[.int .u64 e79x0, .int .u64 e79x1, .int .u64 e79x2, .int .u64 e79x3, .int .u64 e79x4]] w fun e w' => e = .returned (.bool true) ∧ Below w.heap.size w w') := same_f L74.out L79.out _ (by simp only [decide_eq_true_eq, num_zero, N74.out, N19.out, N21.out, N79.out]; exact m_comm _ _)
  obtain ⟨e86x0, e86x1, e86x2, e86x3, e86x4, l86, n86, C86⟩ := mul_f L74.out L23.out
  have L86 : Hid (Lim [e86x0, e86x1, e86x2, e86x3, e86x4]) := l86
  have N86 : Hid _ := n86
  clear l86 n86
  obtain ⟨e92x0, e92x1, e92x2, e92x3, e92x4, l92, n92, C92⟩ := mul_f L21.out L23.out
  have L92 : Hid (Lim [e92x0, e92x1, e92x2, e92x3, e92x4]) := l92
  have N92 : Hid _ := n92
  clear l92 n92
  obtain ⟨e93x0, e93x1, e93x2, e93x3, e93x4, l93, n93, C93⟩ := mul_f L19.out L92.out
  have L93 : Hid (Lim [e93x0, e93x1, e93x2, e93x3, e93x4]) := l93
  have N93 : Hid _ := n93
  clear l93 n93
  have C94 : Hid (∀ w, Calls Try.prog 21 #[.agg #[.int .u64 e86x0, .int .u64 e86x1, .int .u64 e86x2, .int .u64 e86x3, .int .u64 e86x4], .agg #[.int .u64 e93x0, .int .u64 e93x1, .int .u64 e93x2, .int .u64 e93x3, .int .u64 e93x4]] w fun e w' => e = .returned (.bool true) ∧ Below w.heap.size w w') := same_f L86.out L93.out _ (by simp only [decide_eq_true_eq, num_zero, N86.out, N74.out, N19.out, N21.out, N23.out, N93.out, N92.out]; exact m_assoc _ _ _)
  obtain ⟨e103x0, e103x1, e103x2, e103x3, e103x4, l103, n103, C103⟩ := add_f L21.out L23.out
  have L103 : Hid (Lim [e103x0, e103x1, e103x2, e103x3, e103x4]) := l103
  have N103 : Hid _ := n103
  clear l103 n103
  obtain ⟨e104x0, e104x1, e104x2, e104x3, e104x4, l104, n104, C104⟩ := mul_f L19.out L103.out
  have L104 : Hid (Lim [e104x0, e104x1, e104x2, e104x3, e104x4]) := l104
  have N104 : Hid _ := n104
  clear l104 n104
  obtain ⟨e110x0, e110x1, e110x2, e110x3, e110x4, l110, n110, C110⟩ := mul_f L19.out L23.out
  have L110 : Hid (Lim [e110x0, e110x1, e110x2, e110x3, e110x4]) := l110
  have N110 : Hid _ := n110
  clear l110 n110
  obtain ⟨e111x0, e111x1, e111x2, e111x3, e111x4, l111, n111, C111⟩ := add_f L74.out L110.out
  have L111 : Hid (Lim [e111x0, e111x1, e111x2, e111x3, e111x4]) := l111
  have N111 : Hid _ := n111
  clear l111 n111
  have C112 : Hid (∀ w, Calls Try.prog 21 #[.agg #[.int .u64 e104x0, .int .u64 e104x1, .int .u64 e104x2, .int .u64 e104x3, .int .u64 e104x4], .agg #[.int .u64 e111x0, .int .u64 e111x1, .int .u64 e111x2, .int .u64 e111x3, .int .u64 e111x4]] w fun e w' => e = .returned (.bool true) ∧ Below w.heap.size w w') := same_f L104.out L111.out _ (by simp only [decide_eq_true_eq, num_zero, N104.out, N19.out, N103.out, N21.out, N23.out, N111.out, N74.out, N110.out]; exact m_dist _ _ _)
  refine wp_as (c' := rgR9) (by kernel_rfl) ?_
  refine ring_r9 HN (X11.out.row (g := g14) (x := [e74x0, e74x1, e74x2, e74x3, e74x4]) (by simp)) (X11.out.row (g := g10) (x := [e21x0, e21x1, e21x2, e21x3, e21x4]) (by simp)) (X11.out.row (g := g9) (x := [e19x0, e19x1, e19x2, e19x3, e19x4]) (by simp)) C79 C80 (X11.out.row (g := g11) (x := [e23x0, e23x1, e23x2, e23x3, e23x4]) (by simp)) C86 C92 C93 C94 C103 C104 C110 C111 C112 ?_
  intro W12 hb
  have X12 : Hid (Bs w [(w.heap.size + 2, z), (w.heap.size + 1, y), (w.heap.size, x)] [(g14, [e74x0, e74x1, e74x2, e74x3, e74x4]), (g13, [e27x0, e27x1, e27x2, e27x3, e27x4]), (g11, [e23x0, e23x1, e23x2, e23x3, e23x4]), (g10, [e21x0, e21x1, e21x2, e21x3, e21x4]), (g9, [e19x0, e19x1, e19x2, e19x3, e19x4])] W12) := X11.out.below hb
  clear hb X11
  go_wp2_with (fail)
  obtain ⟨W13, hW⟩ : ∃ W, (W12.alloc (.cells #[.int .u64 0, .int .u64 0, .int .u64 0, .int .u64 0, .int .u64 0] 27)) = W := ⟨_, rfl⟩
  have hN := (X12.out.new [0, 0, 0, 0, 0])
  rw [show (W12.alloc (.cells (VI .u64 [0, 0, 0, 0, 0]) 27)) = W13 from hW] at hN
  rw [hW]
  clear hW
  obtain ⟨g15, hg⟩ : ∃ g, W12.heap.size = g := ⟨_, rfl⟩
  rw [hg] at hN
  try simp only [hg]
  clear hg
  have X13 : Hid (Bs w [(w.heap.size + 2, z), (w.heap.size + 1, y), (w.heap.size, x)] [(g15, [0, 0, 0, 0, 0]), (g14, [e74x0, e74x1, e74x2, e74x3, e74x4]), (g13, [e27x0, e27x1, e27x2, e27x3, e27x4]), (g11, [e23x0, e23x1, e23x2, e23x3, e23x4]), (g10, [e21x0, e21x1, e21x2, e21x3, e21x4]), (g9, [e19x0, e19x1, e19x2, e19x3, e19x4])] W13) := hN
  clear hN X12
  obtain ⟨e116x0, e116x1, e116x2, e116x3, e116x4, l116, n116, C116⟩ := dec_f (b := (kk 1)) (kk_key 1 (by decide) (by decide))
  have L116 : Hid (Lim [e116x0, e116x1, e116x2, e116x3, e116x4]) := l116
  have N116 : Hid _ := n116
  clear l116 n116
  refine (C116.out _).mono ?_
  rintro e W14 ⟨rfl, hb⟩
  have X14 : Hid (Bs w [(w.heap.size + 2, z), (w.heap.size + 1, y), (w.heap.size, x)] [(g15, [0, 0, 0, 0, 0]), (g14, [e74x0, e74x1, e74x2, e74x3, e74x4]), (g13, [e27x0, e27x1, e27x2, e27x3, e27x4]), (g11, [e23x0, e23x1, e23x2, e23x3, e23x4]), (g10, [e21x0, e21x1, e21x2, e21x3, e21x4]), (g9, [e19x0, e19x1, e19x2, e19x3, e19x4])] W14) := X13.out.below hb
  clear hb X13
  go_wp2_with (fail)
  obtain ⟨W15, hW⟩ : ∃ W, (W14.alloc (.cells #[.int .u64 e116x0, .int .u64 e116x1, .int .u64 e116x2, .int .u64 e116x3, .int .u64 e116x4] 27)) = W := ⟨_, rfl⟩
  have hN := (X14.out.new [e116x0, e116x1, e116x2, e116x3, e116x4])
  rw [show (W14.alloc (.cells (VI .u64 [e116x0, e116x1, e116x2, e116x3, e116x4]) 27)) = W15 from hW] at hN
  rw [hW]
  clear hW
  obtain ⟨g16, hg⟩ : ∃ g, W14.heap.size = g := ⟨_, rfl⟩
  rw [hg] at hN
  try simp only [hg]
  clear hg
  have X15 : Hid (Bs w [(w.heap.size + 2, z), (w.heap.size + 1, y), (w.heap.size, x)] [(g16, [e116x0, e116x1, e116x2, e116x3, e116x4]), (g15, [0, 0, 0, 0, 0]), (g14, [e74x0, e74x1, e74x2, e74x3, e74x4]), (g13, [e27x0, e27x1, e27x2, e27x3, e27x4]), (g11, [e23x0, e23x1, e23x2, e23x3, e23x4]), (g10, [e21x0, e21x1, e21x2, e21x3, e21x4]), (g9, [e19x0, e19x1, e19x2, e19x3, e19x4])] W15) := hN
  clear hN X14
  obtain ⟨e120x0, e120x1, e120x2, e120x3, e120x4, l120, n120, C120⟩ := add_f L19.out (lim_small 0 (by decide) (by decide))
  have L120 : Hid (Lim [e120x0, e120x1, e120x2, e120x3, e120x4]) := l120
  have N120 : Hid _ := n120
  clear l120 n120
  have C122 : Hid (∀ w, Calls Try.prog 21 #[.agg #[.int .u64 e120x0, .int .u64 e120x1, .int .u64 e120x2, .int .u64 e120x3, .int .u64 e120x4], .agg #[.int .u64 e19x0, .int .u64 e19x1, .int .u64 e19x2, .int .u64 e19x3, .int .u64 e19x4]] w fun e w' => e = .returned (.bool true) ∧ Below w.heap.size w w') := same_f L120.out L19.out _ (by simp only [decide_eq_true_eq, num_zero, N120.out, N19.out]; exact r_zero _ (Nat.mod_lt _ (by decide)))
  obtain ⟨e128x0, e128x1, e128x2, e128x3, e128x4, l128, n128, C128⟩ := mul_f L19.out L116.out
  have L128 : Hid (Lim [e128x0, e128x1, e128x2, e128x3, e128x4]) := l128
  have N128 : Hid _ := n128
  clear l128 n128
  have C130 : Hid (∀ w, Calls Try.prog 21 #[.agg #[.int .u64 e128x0, .int .u64 e128x1, .int .u64 e128x2, .int .u64 e128x3, .int .u64 e128x4], .agg #[.int .u64 e19x0, .int .u64 e19x1, .int .u64 e19x2, .int .u64 e19x3, .int .u64 e19x4]] w fun e w' => e = .returned (.bool true) ∧ Below w.heap.size w w') := same_f L128.out L19.out _ (by simp only [decide_eq_true_eq, N128.out, N19.out, N116.out, nb_one]; exact m_one _ (Nat.mod_lt _ (by decide)))
  obtain ⟨e137x0, e137x1, e137x2, e137x3, e137x4, l137, n137, C137⟩ := mul_f L19.out (lim_small 0 (by decide) (by decide))
  have L137 : Hid (Lim [e137x0, e137x1, e137x2, e137x3, e137x4]) := l137
  have N137 : Hid _ := n137
  clear l137 n137
  have C139 : Hid (∀ w, Calls Try.prog 21 #[.agg #[.int .u64 e137x0, .int .u64 e137x1, .int .u64 e137x2, .int .u64 e137x3, .int .u64 e137x4], .agg #[.int .u64 0, .int .u64 0, .int .u64 0, .int .u64 0, .int .u64 0]] w fun e w' => e = .returned (.bool true) ∧ Below w.heap.size w w') := same_f L137.out (lim_small 0 (by decide) (by decide)) _ (by simp only [decide_eq_true_eq, N137.out, N19.out, num_zero]; exact m_zero _)
  obtain ⟨e146x0, e146x1, e146x2, e146x3, e146x4, l146, n146, C146⟩ := sub_f L19.out L19.out
  have L146 : Hid (Lim [e146x0, e146x1, e146x2, e146x3, e146x4]) := l146
  have N146 : Hid _ := n146
  clear l146 n146
  have C148 : Hid (∀ w, Calls Try.prog 21 #[.agg #[.int .u64 e146x0, .int .u64 e146x1, .int .u64 e146x2, .int .u64 e146x3, .int .u64 e146x4], .agg #[.int .u64 0, .int .u64 0, .int .u64 0, .int .u64 0, .int .u64 0]] w fun e w' => e = .returned (.bool true) ∧ Below w.heap.size w w') := same_f L146.out (lim_small 0 (by decide) (by decide)) _ (by simp only [decide_eq_true_eq, N146.out, N19.out, num_zero]; exact r_self _ (Nat.mod_lt _ (by decide)))
  obtain ⟨e154x0, e154x1, e154x2, e154x3, e154x4, l154, n154, C154⟩ := square_f L19.out
  have L154 : Hid (Lim [e154x0, e154x1, e154x2, e154x3, e154x4]) := l154
  have N154 : Hid _ := n154
  clear l154 n154
  obtain ⟨e158x0, e158x1, e158x2, e158x3, e158x4, l158, n158, C158⟩ := mul_f L19.out L19.out
  have L158 : Hid (Lim [e158x0, e158x1, e158x2, e158x3, e158x4]) := l158
  have N158 : Hid _ := n158
  clear l158 n158
  have C159 : Hid (∀ w, Calls Try.prog 21 #[.agg #[.int .u64 e154x0, .int .u64 e154x1, .int .u64 e154x2, .int .u64 e154x3, .int .u64 e154x4], .agg #[.int .u64 e158x0, .int .u64 e158x1, .int .u64 e158x2, .int .u64 e158x3, .int .u64 e158x4]] w fun e w' => e = .returned (.bool true) ∧ Below w.heap.size w w') := same_f L154.out L158.out _ (by simp only [decide_eq_true_eq, N154.out, N19.out, N158.out])
  refine wp_as (c' := rgR13) (by kernel_rfl) ?_
  refine ring_r13 HN (X15.out.row (g := g9) (x := [e19x0, e19x1, e19x2, e19x3, e19x4]) (by simp)) (X15.out.row (g := g15) (x := [0, 0, 0, 0, 0]) (by simp)) C120 C122 (X15.out.row (g := g16) (x := [e116x0, e116x1, e116x2, e116x3, e116x4]) (by simp)) C128 C130 C137 C139 C146 C148 C154 C158 C159 ?_
  intro W16 hb
  have X16 : Hid (Bs w [(w.heap.size + 2, z), (w.heap.size + 1, y), (w.heap.size, x)] [(g16, [e116x0, e116x1, e116x2, e116x3, e116x4]), (g15, [0, 0, 0, 0, 0]), (g14, [e74x0, e74x1, e74x2, e74x3, e74x4]), (g13, [e27x0, e27x1, e27x2, e27x3, e27x4]), (g11, [e23x0, e23x1, e23x2, e23x3, e23x4]), (g10, [e21x0, e21x1, e21x2, e21x3, e21x4]), (g9, [e19x0, e19x1, e19x2, e19x3, e19x4])] W16) := X15.out.below hb
  clear hb X15
  go_wp2_with (with_reducible refine at_list ?_; refine hold_store 40 (.tmp 17) (.tmp 173) rfl ?_)
  refine store_row_new rfl 40 (.tmp 17) (.tmp 173) rfl W16.heap.size (VI .u8 (b4 n)) rfl rfl rfl 40 (VI .u8 (List.replicate 32 0)) ((b4_key n HN.out)).info rfl (VI_one _ _) ?_
  go_wp2_with (fail)
  obtain ⟨W17, hW⟩ : ∃ W, (W16.alloc (.cells (VI .u8 (b4 n)) 40)) = W := ⟨_, rfl⟩
  have hN := (X16.out.newk (b4 n))
  rw [show (W16.alloc (.cells (VI .u8 (b4 n)) 40)) = W17 from hW] at hN
  rw [hW]
  clear hW
  obtain ⟨g17, hg⟩ : ∃ g, W16.heap.size = g := ⟨_, rfl⟩
  rw [hg] at hN
  try simp only [hg]
  clear hg
  have X17 : Hid (Bs w [(g17, (b4 n)), (w.heap.size + 2, z), (w.heap.size + 1, y), (w.heap.size, x)] [(g16, [e116x0, e116x1, e116x2, e116x3, e116x4]), (g15, [0, 0, 0, 0, 0]), (g14, [e74x0, e74x1, e74x2, e74x3, e74x4]), (g13, [e27x0, e27x1, e27x2, e27x3, e27x4]), (g11, [e23x0, e23x1, e23x2, e23x3, e23x4]), (g10, [e21x0, e21x1, e21x2, e21x3, e21x4]), (g9, [e19x0, e19x1, e19x2, e19x3, e19x4])] W17) := hN
  clear hN X16
  obtain ⟨e177x0, e177x1, e177x2, e177x3, e177x4, l177, n177, C177⟩ := scale_f L19.out n HN.out
  have L177 : Hid (Lim [e177x0, e177x1, e177x2, e177x3, e177x4]) := l177
  have N177 : Hid _ := n177
  clear l177 n177
  obtain ⟨e181x0, e181x1, e181x2, e181x3, e181x4, l181, n181, C181⟩ := dec_f (b := (b4 n)) (b4_key n HN.out)
  have L181 : Hid (Lim [e181x0, e181x1, e181x2, e181x3, e181x4]) := l181
  have N181 : Hid _ := n181
  clear l181 n181
  obtain ⟨e182x0, e182x1, e182x2, e182x3, e182x4, l182, n182, C182⟩ := mul_f L19.out L181.out
  have L182 : Hid (Lim [e182x0, e182x1, e182x2, e182x3, e182x4]) := l182
  have N182 : Hid _ := n182
  clear l182 n182
  have C183 : Hid (∀ w, Calls Try.prog 21 #[.agg #[.int .u64 e177x0, .int .u64 e177x1, .int .u64 e177x2, .int .u64 e177x3, .int .u64 e177x4], .agg #[.int .u64 e182x0, .int .u64 e182x1, .int .u64 e182x2, .int .u64 e182x3, .int .u64 e182x4]] w fun e w' => e = .returned (.bool true) ∧ Below w.heap.size w w') := same_f L177.out L182.out _ (by simp only [decide_eq_true_eq, N177.out, N19.out, N182.out, N181.out, nb_b4 n HN.out])
  have C185 : Hid (∀ w, Calls Try.prog 15 #[] w fun e w' => e = .returned (.bool true) ∧ Below w.heap.size w w') := known_any
  refine wp_as (c' := rgR16) (by kernel_rfl) ?_
  refine ring_r16 HN (X17.out.row (g := g9) (x := [e19x0, e19x1, e19x2, e19x3, e19x4]) (by simp)) C177 (X17.out.key (g := g17) (x := (b4 n)) (by simp)) C181 C182 C183 C185 ?_
  intro W18 hb
  have X18 : Hid (Bs w [(g17, (b4 n)), (w.heap.size + 2, z), (w.heap.size + 1, y), (w.heap.size, x)] [(g16, [e116x0, e116x1, e116x2, e116x3, e116x4]), (g15, [0, 0, 0, 0, 0]), (g14, [e74x0, e74x1, e74x2, e74x3, e74x4]), (g13, [e27x0, e27x1, e27x2, e27x3, e27x4]), (g11, [e23x0, e23x1, e23x2, e23x3, e23x4]), (g10, [e21x0, e21x1, e21x2, e21x3, e21x4]), (g9, [e19x0, e19x1, e19x2, e19x3, e19x4])] W18) := X17.out.below hb
  clear hb X17
  go_wp2
  go_ret
  exact ⟨rfl, X18.out.old⟩
end Go.Proofs.Yteimmjdiaophoaa
