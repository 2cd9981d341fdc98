import Derived.Test.YtlffamcifahbjaaMgav
namespace Go.Proofs.Ytlffamcifahbjaa
set_option linter.unusedSimpArgs false
set_option linter.unusedVariables false
open Go.ChangeShapes Go.WideShapes Go.ChangeAt Go.RowKit Go.Pin Go.Fld
/-- the binary digit number t of 32 bytes -/
def kbit (k : List Int) (t : Nat) : Nat := (k.getD (t / 8) 0).toNat / 2 ^ (t % 8) % 2
/-- the ladder: a, b, c, d, last -/
structure Lad where
  a : Nat
  b : Nat
  c : Nat
  d : Nat
  s : Nat
def Lad.swap (q : Lad) (t : Nat) : Lad := if t % 2 = 1 then ⟨q.c, q.d, q.a, q.b, q.s⟩ else q
def Lad.climb (x : Nat) (q : Lad) : Lad := match clm x q.a q.b q.c q.d with | (a, b, c, d) => ⟨a, b, c, d, q.s⟩
def Lad.round (x g : Nat) (q : Lad) : Lad := let q' := Lad.climb x (q.swap (q.s + g)); ⟨q'.a, q'.b, q'.c, q'.d, g⟩
def lad (f : Nat → Nat) (x : Nat) : Nat → Lad
  | 0 => ⟨1, 0, x, 1, 0⟩
  | i + 1 => (lad f x i).round x (f (254 - i))
def lend (q : Lad) : Nat := (q.swap q.s).a * qwn (q.swap q.s).b 5 % P
def ux (u : List Int) : Nat := nb u % 2 ^ 255 % P
/-- what Shared answers -/
def shn (k u : List Int) : Nat := lend (lad (kbit (clk k)) (ux u) 255)
def rlog : List (Int × Int) := (3, 7) :: (3, 7) :: clog
def slog (i : Nat) : List (Int × Int) := (List.replicate i rlog).flatten
theorem slog_succ (i : Nat) : slog (i + 1) = slog i ++ ([(3, 7), (3, 7)] ++ clog) := by
  unfold slog
  rw [List.replicate_succ', List.flatten_append]
  simp [rlog]
theorem slog_len (i : Nat) : (slog i).length = 20 * i := by
  induction i with
  | zero => rfl
  | succ i ih => rw [slog_succ, List.length_append, ih]; simp [clog]; omega
def shlog : List (Int × Int) := slog 255 ++ [(3, 7), (3, 7), (3, 6), (3, 3)]
theorem shlog_len : shlog.length = 5104 := by unfold shlog; rw [List.length_append, slog_len]; rfl
theorem kbit_le (k : List Int) (t : Nat) : kbit k t < 2 := Nat.mod_lt _ (by decide)
theorem lad_s (f : Nat → Nat) (hf : ∀ t, f t < 2) (x : Nat) : ∀ i, (lad f x i).s < 2
  | 0 => Nat.zero_lt_succ 1
  | i + 1 => hf _
theorem lend_lt (q : Lad) : lend q < P := Nat.mod_lt _ (by decide)
theorem shn_lt (k u : List Int) : shn k u < P := lend_lt _
theorem bit_and (y : Int) (r : Nat) (h0 : 0 ≤ y) (h1 : y < 256) (hr : r < 8) : bits .and .u64 (IntKind.u64.wrap (y / 2 ^ min r 8)) 1 = ((y.toNat / 2 ^ r % 2 : Nat) : Int) := by
  have h : ∀ n : Fin 256, ∀ r : Fin 8, bits .and .u64 (IntKind.u64.wrap ((n.val : Int) / 2 ^ min r.val 8)) 1 = ((n.val / 2 ^ r.val % 2 : Nat) : Int) := by decide +kernel
  have := h ⟨y.toNat, by omega⟩ ⟨r, hr⟩
  rw [show ((y.toNat : Nat) : Int) = y by omega] at this
  exact this
theorem wrap_two (s g : Nat) (hs : s < 2) (hg : g < 2) : IntKind.u64.wrap ((s : Int) + (g : Int)) = (s : Int) + (g : Int) := by
  have h : ∀ s g : Fin 2, IntKind.u64.wrap ((s.val : Int) + (g.val : Int)) = (s.val : Int) + (g.val : Int) := by decide +kernel
  exact h ⟨s, hs⟩ ⟨g, hg⟩
theorem num_swp (t : Nat) (a b : List Int) : num (swp (t : Int) a b) = if t % 2 = 1 then num b else num a := by
  unfold swp
  by_cases h : t % 2 = 1
  · rw [if_pos h, if_pos (by omega)]
  · rw [if_neg h, if_neg (by omega)]
theorem lad_next {f : Nat → Nat} {x n : Nat} {a b c d a' b' c' d' : List Int} (na : num a = (lad f x n).a) (nb : num b = (lad f x n).b) (nc : num c = (lad f x n).c) (nd : num d = (lad f x n).d) {t : Nat} (ht : t = (lad f x n).s + f (254 - n))
    (hc : clm x (num (swp (t : Int) a c)) (num (swp (t : Int) b d)) (num (swp (t : Int) c a)) (num (swp (t : Int) d b)) = (num a', num b', num c', num d')) :
    num a' = (lad f x (n + 1)).a ∧ num b' = (lad f x (n + 1)).b ∧ num c' = (lad f x (n + 1)).c ∧ num d' = (lad f x (n + 1)).d := by
  have e : lad f x (n + 1) = (lad f x n).round x (f (254 - n)) := rfl
  rw [num_swp, num_swp, num_swp, num_swp, na, nb, nc, nd] at hc
  rw [e]
  unfold Lad.round Lad.climb Lad.swap
  rw [← ht]
  by_cases h : t % 2 = 1
  · simp only [if_pos h] at hc ⊢
    rw [hc]; exact ⟨rfl, rfl, rfl, rfl⟩
  · simp only [if_neg h] at hc ⊢
    rw [hc]; exact ⟨rfl, rfl, rfl, rfl⟩
/-- what a round finds -/
def LadW (B : Nat) (w : World) (rv : Value) (l : List (Int × Int)) (T : Nat) (rest : List (Nat × Obj)) (f : Nat → Nat) (x n : Nat) (w' : World) : Prop :=
  ∃ a b c d : List Int, Lim a ∧ Lim b ∧ Lim c ∧ Lim d ∧ num a = (lad f x n).a ∧ num b = (lad f x n).b ∧ num c = (lad f x n).c ∧ num d = (lad f x n).d ∧ Ev B w rv (l ++ slog n) ((T, ro a b c d) :: rest) w'
set_option maxRecDepth 100000 in
set_option maxHeartbeats 8000000 in
theorem shared_any {B : Nat} {w : World} {rv : Value} {l : List (Int × Int)} {bx : List (Nat × Obj)} {wr : World} {k u : List Int} (h : Ev B w rv l bx wr) (hl : l.length ≤ 700000) (hk : Key32 k) (hu : Key32 u) :
    Calls Try.prog 11 #[rv, .agg (VI .u8 k), .agg (VI .u8 u)] wr fun e w' => e = .returned (.agg (VI .u8 (bts (shn k u)))) ∧ Ev B w rv (l ++ shlog) bx w' := by
  have HK : Hid (Key32 k) := hk
  have HU : Hid (Key32 u) := hu
  have HC : Hid (Key32 (clk k)) := clk_key hk
  have HL : Hid (l.length ≤ 700000) := hl
  obtain ⟨x0, x1, x2, x3, x4, lx, nx, CX⟩ := dec_f hu
  have LX : Hid (Lim [x0, x1, x2, x3, x4]) := lx
  have NX : Hid (num [x0, x1, x2, x3, x4] = ux u) := nx
  have C1 : Hid (∀ w, Calls Try.prog 22 #[.agg (VI .u8 (kk 1))] w fun e w' => e = .returned (.agg #[.int .u64 1, .int .u64 0, .int .u64 0, .int .u64 0, .int .u64 0]) ∧ Below w.heap.size w w') := fun w => dec_is (n := 1) (by decide) (by decide) (by decide) w
  have CC : Hid (∀ w, Calls Try.prog 19 #[.agg (VI .u8 k)] w fun e w' => e = .returned (.agg (VI .u8 (clk k))) ∧ Below w.heap.size w w') := fun w => clamp_any k hk w
  -- the boxes
  have h3 := ((h.new (bxK k)).new (bxK u)).new (bxK (List.replicate 32 0))
  have f3 : ∀ p ∈ ((((wr.alloc (bxK k)).heap.size, bxK u) :: (wr.heap.size, bxK k) :: bx) : List (Nat × Obj)), p.1 ≠ ((wr.alloc (bxK k)).alloc (bxK u)).heap.size := fun p hp => Nat.ne_of_lt (((h.new (bxK k)).new (bxK u)).lt (g := p.1) (x := p.2) hp)
  simp only [size_alloc] at h3 f3
  obtain ⟨W3, hW⟩ : ∃ W, ((wr.alloc (bxK k)).alloc (bxK u)).alloc (bxK (List.replicate 32 0)) = W := ⟨_, rfl⟩
  have hW' : ((wr.alloc (.cells (VI .u8 k) 23)).alloc (.cells (VI .u8 u) 23)).alloc (.cells #[.int .u8 0, .int .u8 0, .int .u8 0, .int .u8 0, .int .u8 0, .int .u8 0, .int .u8 0, .int .u8 0, .int .u8 0, .int .u8 0, .int .u8 0, .int .u8 0, .int .u8 0, .int .u8 0, .int .u8 0, .int .u8 0, .int .u8 0, .int .u8 0, .int .u8 0, .int .u8 0, .int .u8 0, .int .u8 0, .int .u8 0, .int .u8 0, .int .u8 0, .int .u8 0, .int .u8 0, .int .u8 0, .int .u8 0, .int .u8 0, .int .u8 0, .int .u8 0] 23) = W3 := hW
  rw [hW] at h3
  obtain ⟨gk, hg⟩ : ∃ g, wr.heap.size = g := ⟨_, rfl⟩
  rw [hg] at h3 f3
  have X3 : Hid (Ev B w rv l ((gk + 1 + 1, bxK (List.replicate 32 0)) :: (gk + 1, bxK u) :: (gk, bxK k) :: bx) W3) := h3
  have F3 : Hid (∀ p ∈ (((gk + 1, bxK u) :: (gk, bxK k) :: bx) : List (Nat × Obj)), p.1 ≠ gk + 1 + 1) := f3
  clear h hl hk hu h3 f3 hW lx nx
  go_enter Try.func11, Try.ntmps11
  go_wp2_with (with_reducible refine at_list ?_; first | (refine wpList_load_row rfl 23 (.tmp 4) rfl gk rfl 23 (VI .u8 k) (0, 0) _ (X3.out.row (g := gk) (x := bxK k) (by simp)) Try.underlying23 rfl HK.out.info ?_))
  refine (CC.out _).mono ?_
  rintro e W4 ⟨rfl, hb⟩
  have X4 := X3.out.below hb
  have X4 : Hid _ := X4
  clear hb X3 hW' hg
  go_wp2_with (with_reducible refine at_list ?_; refine hold_store 23 (.tmp 7) (.tmp 15) rfl ?_)
  refine store_row_new rfl 23 (.tmp 7) (.tmp 15) rfl W4.heap.size (VI .u8 (clk k)) rfl rfl rfl 23 (VI .u8 (List.replicate 32 0)) (HC.out.info) (by simp [HC.out.len]) (VI_one _ _) ?_
  have ng_gc : W4.heap.size ≠ gk + 1 + 1 := Nat.ne_of_gt (X4.out.lt (g := gk + 1 + 1) (x := bxK (List.replicate 32 0)) (by simp))
  have hN := X4.out.new (bxK (clk k))
  obtain ⟨W5, hW⟩ : ∃ W, W4.alloc (bxK (clk k)) = W := ⟨_, rfl⟩
  rw [hW] at hN
  rw [show W4.alloc (.cells (VI .u8 (clk k)) 23) = W5 from hW]
  clear hW
  obtain ⟨gc, hg⟩ : ∃ g, W4.heap.size = g := ⟨_, rfl⟩
  rw [hg] at hN ng_gc
  try simp only [hg]
  clear hg
  have NG_gc : Hid (gc ≠ gk + 1 + 1) := ng_gc
  have X5 : Hid (Ev B w rv l ((gc, bxK (clk k)) :: (gk + 1 + 1, bxK (List.replicate 32 0)) :: (gk + 1, bxK u) :: (gk, bxK k) :: bx) W5) := hN
  clear hN ng_gc X4
  go_wp2_with (with_reducible refine at_list ?_; first | (refine wpList_load_row rfl 23 (.tmp 5) rfl (gk + 1) rfl 23 (VI .u8 u) (0, 0) _ (X5.out.row (g := gk + 1) (x := bxK u) (by simp)) Try.underlying23 rfl HU.out.info ?_))
  refine (CX.out _).mono ?_
  rintro e W6 ⟨rfl, hb⟩
  have X6 : Hid (Ev B w rv l ((gc, bxK (clk k)) :: (gk + 1 + 1, bxK (List.replicate 32 0)) :: (gk + 1, bxK u) :: (gk, bxK k) :: bx) W6) := X5.out.below hb
  clear hb X5
  go_wp2_with (with_reducible refine at_list ?_; refine hold_store 51 (.tmp 8) (.tmp 17) rfl ?_)
  refine store_row_new rfl 51 (.tmp 8) (.tmp 17) rfl W6.heap.size (VI .u64 [x0, x1, x2, x3, x4]) rfl rfl rfl 51 (VI .u64 [0, 0, 0, 0, 0]) (infoE5' rfl) (rfl) (VI_one _ _) ?_
  have ng_gx : W6.heap.size ≠ gk + 1 + 1 := Nat.ne_of_gt (X6.out.lt (g := gk + 1 + 1) (x := bxK (List.replicate 32 0)) (by simp))
  have hN := X6.out.new (bxE [x0, x1, x2, x3, x4])
  obtain ⟨W7, hW⟩ : ∃ W, W6.alloc (bxE [x0, x1, x2, x3, x4]) = W := ⟨_, rfl⟩
  rw [hW] at hN
  rw [show W6.alloc (.cells (VI .u64 [x0, x1, x2, x3, x4]) 51) = W7 from hW]
  clear hW
  obtain ⟨gx, hg⟩ : ∃ g, W6.heap.size = g := ⟨_, rfl⟩
  rw [hg] at hN ng_gx
  try simp only [hg]
  clear hg
  have NG_gx : Hid (gx ≠ gk + 1 + 1) := ng_gx
  have X7 : Hid (Ev B w rv l ((gx, bxE [x0, x1, x2, x3, x4]) :: (gc, bxK (clk k)) :: (gk + 1 + 1, bxK (List.replicate 32 0)) :: (gk + 1, bxK u) :: (gk, bxK k) :: bx) W7) := hN
  clear hN ng_gx X6
  go_wp2_with fail
  refine (C1.out _).mono ?_
  rintro e W8 ⟨rfl, hb⟩
  have X8 : Hid (Ev B w rv l ((gx, bxE [x0, x1, x2, x3, x4]) :: (gc, bxK (clk k)) :: (gk + 1 + 1, bxK (List.replicate 32 0)) :: (gk + 1, bxK u) :: (gk, bxK k) :: bx) W8) := X7.out.below hb
  clear hb X7
  go_wp2_with (with_reducible refine at_list ?_; refine hold_store 51 (.tmp 9) (.tmp 19) rfl ?_)
  refine store_row_new rfl 51 (.tmp 9) (.tmp 19) rfl W8.heap.size (VI .u64 [1, 0, 0, 0, 0]) rfl rfl rfl 51 (VI .u64 [0, 0, 0, 0, 0]) (infoE5' rfl) (rfl) (VI_one _ _) ?_
  have ng_go : W8.heap.size ≠ gk + 1 + 1 := Nat.ne_of_gt (X8.out.lt (g := gk + 1 + 1) (x := bxK (List.replicate 32 0)) (by simp))
  have hN := X8.out.new (bxE [1, 0, 0, 0, 0])
  obtain ⟨W9, hW⟩ : ∃ W, W8.alloc (bxE [1, 0, 0, 0, 0]) = W := ⟨_, rfl⟩
  rw [hW] at hN
  rw [show W8.alloc (.cells (VI .u64 [1, 0, 0, 0, 0]) 51) = W9 from hW]
  clear hW
  obtain ⟨go, hg⟩ : ∃ g, W8.heap.size = g := ⟨_, rfl⟩
  rw [hg] at hN ng_go
  try simp only [hg]
  clear hg
  have NG_go : Hid (go ≠ gk + 1 + 1) := ng_go
  have X9 : Hid (Ev B w rv l ((go, bxE [1, 0, 0, 0, 0]) :: (gx, bxE [x0, x1, x2, x3, x4]) :: (gc, bxK (clk k)) :: (gk + 1 + 1, bxK (List.replicate 32 0)) :: (gk + 1, bxK u) :: (gk, bxK k) :: bx) W9) := hN
  clear hN ng_go X8
  obtain ⟨c00, c01, c02, c03, c04⟩ := cells5 (X9.out.row (g := go) (x := bxE [1, 0, 0, 0, 0]) (by simp))
  obtain ⟨c10, c11, c12, c13, c14⟩ := cells5 (X9.out.row (g := gx) (x := bxE [x0, x1, x2, x3, x4]) (by simp))
  go_wp2_with (with_reducible refine at_list ?_; refine hold_store 54 (.tmp 10) (.tmp 23) rfl ?_)
  clear c00 c01 c02 c03 c04 c10 c11 c12 c13 c14
  refine store_row_new rfl 54 (.tmp 10) (.tmp 23) rfl W9.heap.size (VI .u64 ([1, 0, 0, 0, 0] ++ ([0, 0, 0, 0, 0] ++ ([x0, x1, x2, x3, x4] ++ [1, 0, 0, 0, 0])))) rfl rfl rfl 54 (VI .u64 (List.replicate 20 0)) (by kernel_rfl) rfl (VI_one _ _) ?_
  have ng_T : W9.heap.size ≠ gk + 1 + 1 := Nat.ne_of_gt (X9.out.lt (g := gk + 1 + 1) (x := bxK (List.replicate 32 0)) (by simp))
  have nt : ∀ p ∈ (((go, bxE [1, 0, 0, 0, 0]) :: (gx, bxE [x0, x1, x2, x3, x4]) :: (gc, bxK (clk k)) :: (gk + 1 + 1, bxK (List.replicate 32 0)) :: (gk + 1, bxK u) :: (gk, bxK k) :: bx) : List (Nat × Obj)), p.1 ≠ W9.heap.size := fun p hp => Nat.ne_of_lt (X9.out.lt (g := p.1) (x := p.2) hp)
  have hN := X9.out.new (ro [1, 0, 0, 0, 0] [0, 0, 0, 0, 0] [x0, x1, x2, x3, x4] [1, 0, 0, 0, 0])
  obtain ⟨W10, hW⟩ : ∃ W, W9.alloc (ro [1, 0, 0, 0, 0] [0, 0, 0, 0, 0] [x0, x1, x2, x3, x4] [1, 0, 0, 0, 0]) = W := ⟨_, rfl⟩
  rw [hW] at hN
  rw [show W9.alloc (.cells (VI .u64 ([1, 0, 0, 0, 0] ++ ([0, 0, 0, 0, 0] ++ ([x0, x1, x2, x3, x4] ++ [1, 0, 0, 0, 0])))) 54) = W10 from hW]
  clear hW
  obtain ⟨T, hg⟩ : ∃ g, W9.heap.size = g := ⟨_, rfl⟩
  rw [hg] at hN ng_T nt
  try simp only [hg]
  clear hg X9
  obtain ⟨rest, hrest⟩ : ∃ r : List (Nat × Obj), (go, bxE [1, 0, 0, 0, 0]) :: (gx, bxE [x0, x1, x2, x3, x4]) :: (gc, bxK (clk k)) :: (gk + 1 + 1, bxK (List.replicate 32 0)) :: (gk + 1, bxK u) :: (gk, bxK k) :: bx = r := ⟨_, rfl⟩
  have mx : (gx, bxE [x0, x1, x2, x3, x4]) ∈ rest := by rw [← hrest]; simp
  have mc : (gc, bxK (clk k)) ∈ rest := by rw [← hrest]; simp
  rw [hrest] at hN nt
  have MX : Hid ((gx, bxE [x0, x1, x2, x3, x4]) ∈ rest) := mx
  have MC : Hid ((gc, bxK (clk k)) ∈ rest) := mc
  have NT : Hid (∀ p ∈ rest, p.1 ≠ T) := nt
  have HR : Hid ((go, bxE [1, 0, 0, 0, 0]) :: (gx, bxE [x0, x1, x2, x3, x4]) :: (gc, bxK (clk k)) :: (gk + 1 + 1, bxK (List.replicate 32 0)) :: (gk + 1, bxK u) :: (gk, bxK k) :: bx = rest) := hrest
  have NG_T : Hid (T ≠ gk + 1 + 1) := ng_T
  have X10 : Hid (LadW B w rv l T rest (kbit (clk k)) (ux u) 0 W10) := by
    refine ⟨_, _, _, _, lim_small 1 (by decide) (by decide), lim_small 0 (by decide) (by decide), LX.out, lim_small 1 (by decide) (by decide), (show num [1, 0, 0, 0, 0] = 1 by decide), (show num [0, 0, 0, 0, 0] = 0 by decide), NX.out, (show num [1, 0, 0, 0, 0] = 1 by decide), ?_⟩
    rw [show l ++ slog 0 = l by simp [slog]]
    exact hN
  clear hN nt mx mc hrest ng_T
  go_wp2_with fail
  go_loopw [24, 11] (fun i s w' => ∃ n : Nat, n ≤ 255 ∧ i = .int .i64 n ∧ s = .int .u64 ((lad (kbit (clk k)) (ux u) n).s : Int) ∧ LadW B w rv l T rest (kbit (clk k)) (ux u) n w') (fun i _ _ => 255 - (intOf i).toNat)
  case atStart => exact ⟨0, Nat.zero_le _, rfl, rfl, X10.out⟩
  case round =>
    clear X10
    obtain ⟨n, hn, rfl, rfl, a, b, c, d, la, lb, lc, ld, na, nb', nc, nd, hE⟩ := hrel
    by_cases hlt : n < 255
    · obtain ⟨j, hj⟩ : ∃ j : Nat, j = (254 - n) / 8 := ⟨_, rfl⟩
      obtain ⟨r, hr⟩ : ∃ r : Nat, r = (254 - n) % 8 := ⟨_, rfl⟩
      have hj' : (254 - (n : Int)).tdiv 8 = (j : Int) := by rw [Int.tdiv_eq_ediv_of_nonneg (by omega)]; omega
      have hr' : (254 - (n : Int)).tmod 8 = (r : Int) := by rw [Int.tmod_eq_emod_of_nonneg (by omega)]; omega
      have hj32 : j < 32 := by omega
      have hc := rowB_cell (hE.row (g := gc) (x := bxK (clk k)) (by simp [MC.out])) (i := j) (by rw [HC.out.len]; exact hj32)
      have yb := byte_in HC.out hj32
      obtain ⟨g, hg⟩ : ∃ g : Nat, g = kbit (clk k) (254 - n) := ⟨_, rfl⟩
      obtain ⟨st, hst⟩ : ∃ st : Nat, st = (lad (kbit (clk k)) (ux u) n).s := ⟨_, rfl⟩
      have st2 : st < 2 := by rw [hst]; exact lad_s _ (kbit_le _) _ _
      have g2 : g < 2 := by rw [hg]; exact kbit_le _ _
      have hb := bit_and _ r yb.1 yb.2 (by omega)
      rw [show ((clk k).getD j 0).toNat / 2 ^ r % 2 = g by rw [hg, kbit, ← hj, ← hr]] at hb
      have hw := wrap_two st g st2 g2
      rw [← hst]
      have HE : Hid (Ev B w rv (l ++ slog n) ((T, ro a b c d) :: rest) wr) := hE
      generalize (clk k).getD j 0 = y at hb hc yb
      obtain ⟨a', b', c', d', la', lb', lc', ld', hcl, CL⟩ := climb_f LX.out (swp_lim (s := ((st + g : Nat) : Int)) la lc) (swp_lim (s := ((st + g : Nat) : Int)) lb ld) (swp_lim (s := ((st + g : Nat) : Int)) lc la) (swp_lim (s := ((st + g : Nat) : Int)) ld lb)
      rw [NX.out] at hcl
      have NUM : Hid _ := lad_next na nb' nc nd (t := st + g) (by rw [hst, hg]) hcl
      have LIM : Hid (Lim a' ∧ Lim b' ∧ Lim c' ∧ Lim d') := ⟨la', lb', lc', ld'⟩
      have LN : Hid (n < 255) := hlt
      have LL : Hid ((l ++ slog n).length ≤ 706000) := by have := HL.out; show (l ++ slog n).length ≤ 706000; rw [List.length_append, slog_len]; omega
      have CS : Hid (Calls Try.prog 23 #[.pointer (some ⟨T, 0, none⟩), rv, .int .u64 ((st : Int) + (g : Int))] wr fun e w' => e = .returned (.tuple #[]) ∧ Ev B w rv ((l ++ slog n) ++ [(3, 7), (3, 7)]) ((T, ro (swp ((st + g : Nat) : Int) a c) (swp ((st + g : Nat) : Int) b d) (swp ((st + g : Nat) : Int) c a) (swp ((st + g : Nat) : Int) d b)) :: rest) w') := by
        have := rswap_any HE.out NT.out (Nat.le_trans LL.out (by decide)) la lb lc ld ((st + g : Nat) : Int) (by omega) (by omega)
        rwa [show ((st + g : Nat) : Int) = (st : Int) + (g : Int) by omega] at this
      have HG : Hid (g = (lad (kbit (clk k)) (ux u) (n + 1)).s) := hg
      clear hE hj hr la lb lc ld na nb' nc nd la' lb' lc' ld' hcl hst hg
      go_wp2_with fail
      refine CS.out.mono ?_
      rintro e W1 ⟨rfl, hN⟩
      have H1 : Hid _ := hN
      clear hN CS HE
      go_wp2_with (with_reducible refine at_list ?_; first | (refine wpList_load_row rfl 51 (.tmp 8) rfl gx rfl 51 (VI .u64 [x0, x1, x2, x3, x4]) (0, 0) _ (H1.out.row (g := gx) (x := bxE [x0, x1, x2, x3, x4]) (by simp [MX.out])) Try.underlying51 rfl (infoE5' (x := [x0, x1, x2, x3, x4]) rfl) ?_))
      refine (CL.out _ _ _ _ _ _ _ H1.out NT.out (by have := LL.out; rw [List.length_append]; simp only [List.length_cons, List.length_nil]; omega)).mono ?_
      rintro e W2 ⟨rfl, hN⟩
      have H2 : Hid _ := hN
      clear hN CL H1
      go_wp2_with fail
      go_roundw
      case rel =>
        refine ⟨n + 1, LN.out, by go_num, by rw [← HG.out], a', b', c', d', LIM.out.1, LIM.out.2.1, LIM.out.2.2.1, LIM.out.2.2.2, NUM.out.1, NUM.out.2.1, NUM.out.2.2.1, NUM.out.2.2.2, ?_⟩
        have := H2.out
        rw [slog_succ]
        simpa only [List.append_assoc] using this
      case measure => simp [intOf]; omega
    · have hn' : n = 255 := by omega
      subst hn'
      obtain ⟨st, hst⟩ : ∃ st : Nat, st = (lad (kbit (clk k)) (ux u) 255).s := ⟨_, rfl⟩
      have st2 : st < 2 := by rw [hst]; exact lad_s _ (kbit_le _) _ _
      rw [← hst]
      obtain ⟨x, hx, nx, CI⟩ := o_invert (swp_lim (s := (st : Int)) lb ld)
      obtain ⟨y, hy, ny, CM⟩ := o_mul (swp_lim (s := (st : Int)) la lc) hx
      have HRES : Hid (num y = shn k u) := by
        show num y = shn k u
        rw [ny, nx, num_swp, num_swp, na, nb', nc, nd]
        unfold shn lend Lad.swap
        rw [← hst]
        by_cases h : st % 2 = 1
        · simp only [if_pos h]
        · simp only [if_neg h]
      have CE : Hid (∀ w, Calls Try.prog 27 #[.agg (VI .u64 y)] w fun e w' => e = .returned (.agg (VI .u8 (bts (shn k u)))) ∧ Below w.heap.size w w') := fun w => HRES.out ▸ enc_any y hy w
      have LL : Hid ((l ++ slog 255).length ≤ 706000) := by have := HL.out; show (l ++ slog 255).length ≤ 706000; rw [List.length_append, slog_len]; omega
      have CS : Hid (Calls Try.prog 23 #[.pointer (some ⟨T, 0, none⟩), rv, .int .u64 (st : Int)] wr fun e w' => e = .returned (.tuple #[]) ∧ Ev B w rv ((l ++ slog 255) ++ [(3, 7), (3, 7)]) ((T, ro (swp (st : Int) a c) (swp (st : Int) b d) (swp (st : Int) c a) (swp (st : Int) d b)) :: rest) w') := rswap_any hE NT.out (Nat.le_trans LL.out (by decide)) la lb lc ld (st : Int) (by omega) (by omega)
      have LA : Hid ((swp (st : Int) a c).length = 5) := (swp_lim la lc).len
      have LB : Hid ((swp (st : Int) b d).length = 5) := (swp_lim lb ld).len
      have LC : Hid ((swp (st : Int) c a).length = 5) := (swp_lim lc la).len
      have LD : Hid ((swp (st : Int) d b).length = 5) := (swp_lim ld lb).len
      clear hE la lb lc ld na nb' nc nd hst hx nx hy ny hlt hn
      generalize swp (st : Int) a c = a1 at *
      generalize swp (st : Int) b d = b1 at *
      generalize swp (st : Int) c a = c1 at *
      generalize swp (st : Int) d b = d1 at *
      rw [show ((255 : Nat) : Int) = 255 from rfl]
      go_wp2_with fail
      refine CS.out.mono ?_
      rintro e W1 ⟨rfl, hN⟩
      rw [← HR.out] at hN
      have hN := hN.sub (by' := (gk + 1 + 1, bxK (List.replicate 32 0)) :: (T, ro a1 b1 c1 d1) :: (go, bxE [1, 0, 0, 0, 0]) :: (gx, bxE [x0, x1, x2, x3, x4]) :: (gc, bxK (clk k)) :: (gk + 1, bxK u) :: (gk, bxK k) :: bx) (by
        intro p hp
        simp only [List.mem_cons] at hp ⊢
        rcases hp with h | h | h | h | h | h | h | h <;> simp [h])
      have H1 : Hid _ := hN
      clear hN CS
      go_wp2_with fail
      refine wp_as (c' := rgH15) (by kernel_rfl) ?_
      refine shared_r15 LA LB LC LD (z := bts (shn k u)) (bts_len _) (show Hid ((List.replicate 32 (0 : Int)).length = 32) from List.length_replicate) CI CM CE (show Hid (((l ++ slog 255) ++ [(3, 7), (3, 7)]).length ≤ 900000) from (by have := LL.out; show List.length _ ≤ 900000; rw [List.length_append]; simp only [List.length_cons, List.length_nil]; omega)) ?_ H1.out (fun _ _ d _ _ h => by cases d <;> exact h) ?_
      · intro p hp
        simp only [List.mem_cons] at hp
        rcases hp with rfl | rfl | rfl | rfl | hp
        · exact NG_T.out
        · exact NG_go.out
        · exact NG_gx.out
        · exact NG_gc.out
        · exact F3.out p (by simpa using hp)
      · intro W2 hN
        have H2 : Hid _ := hN
        clear hN H1
        go_wp2_with fail
        refine bodyPost_ret (v := .agg (VI .u8 (bts (shn k u)))) ?_ rfl ⟨rfl, ?_⟩
        · exact results_cell_row (P := Try.prog) (fn := Try.f11) (p := 6) (ty := 23) rfl _ _ (gk + 1 + 1) 23 (VI .u8 (bts (shn k u))) (0, 0) _ rfl (H2.out.row (g := gk + 1 + 1) (x := bxK (bts (shn k u))) (by simp)) Try.underlying23 rfl (infoK (bts_len _))
        · have := H2.out.sub (by' := bx) (fun p hp => by simp [hp])
          simpa only [shlog, List.append_assoc, List.cons_append, List.nil_append] using this
end Go.Proofs.Ytlffamcifahbjaa
