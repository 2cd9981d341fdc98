import Derived.Deep.RegionHeld3
import Derived.Test.YtlffamcifahbjaaMgbc
namespace Go.Proofs.Ytlffamcifahbjaa
set_option linter.unusedSimpArgs false
set_option linter.unusedVariables false
open Go.ChangeShapes Go.WideShapes Go.ChangeAt Go.RowKit Go.Pin Go.Fld
set_option maxRecDepth 100000 in
set_option maxHeartbeats 8000000 in
theorem rshared_any {k u : List Int} (hk : Key32 k) (hu : Key32 u) (w : World) :
    Calls Try.prog 13 #[.agg (VI .u8 k), .agg (VI .u8 u)] w fun e w' => e = .returned (.agg (VI .u8 (bts (shn k u)))) ∧ Below w.heap.size w w' := by
  have kc := clk_key hk
  have LK : Hid (k.length = 32) := hk.len
  have LU : Hid (u.length = 32) := hu.len
  have LC : Hid ((clk k).length = 32) := kc.len
  have C1 : Hid (∀ w, Calls Try.prog 20 #[.agg (VI .u8 k)] w fun e w' => e = .returned (.agg (VI .u8 (clk k))) ∧ Below w.heap.size w w') := fun w => rclamp_any k hk w
  have C2 : Hid (∀ w, Calls Try.prog 30 #[.agg (VI .u8 u)] w fun e w' => e = .returned (.agg (VI .i64 (dg (ux u)))) ∧ Below w.heap.size w w') := fun w => rdecode_any u hu w
  have C3 : Hid (∀ w, Calls Try.prog 31 #[.int .i64 1] w fun e w' => e = .returned (.agg (VI .i64 (dg 1))) ∧ Below w.heap.size w w') := fun w => rsmall_any 1 (by decide) w
  have C4 : Hid (∀ w, Calls Try.prog 31 #[.int .i64 0] w fun e w' => e = .returned (.agg (VI .i64 (dg 0))) ∧ Below w.heap.size w w') := fun w => rsmall_any 0 (by decide) w
  have BIT : Hid (∀ t : Nat, t < 256 → ∀ w, Calls Try.prog 32 #[.agg (VI .u8 (clk k)), .int .i64 (t : Int)] w fun e w' => e = .returned (.int .i64 ((kbit (clk k) t : Nat) : Int)) ∧ Below w.heap.size w w') := fun t ht w => rbit_any kc t ht w
  have KB : Hid (∀ t, kbit (clk k) t < 2) := fun t => kbit_le _ t
  have SHN : Hid (shn k u = (U (kbit (clk k)) (ux u) 255).a * qwn (U (kbit (clk k)) (ux u) 255).b 5 % P) := shn_U k u
  have XP : Hid (ux u < P) := ux_ltP u
  have hE := ((ev_nil' w).new (bxK k)).new (bxK u) |>.new (bxK (List.replicate 32 0))
  simp only [size_alloc] at hE
  obtain ⟨Y0, hW⟩ : ∃ W, ((w.alloc (.cells (VI .u8 k) 23)).alloc (.cells (VI .u8 u) 23)).alloc (.cells #[.int .u8 0, .int .u8 0, .int .u8 0, .int .u8 0, .int .u8 0, .int .u8 0, .int .u8 0, .int .u8 0, .int .u8 0, .int .u8 0, .int .u8 0, .int .u8 0, .int .u8 0, .int .u8 0, .int .u8 0, .int .u8 0, .int .u8 0, .int .u8 0, .int .u8 0, .int .u8 0, .int .u8 0, .int .u8 0, .int .u8 0, .int .u8 0, .int .u8 0, .int .u8 0, .int .u8 0, .int .u8 0, .int .u8 0, .int .u8 0, .int .u8 0, .int .u8 0] 23) = W := ⟨_, rfl⟩
  rw [show ((w.alloc (bxK k)).alloc (bxK u)).alloc (bxK (List.replicate 32 0)) = Y0 from hW] at hE
  have X0 : Hid (Ev w.heap.size w (.pointer none) [] [(w.heap.size + 1 + 1, bxK (List.replicate 32 0)), (w.heap.size + 1, bxK (u)), (w.heap.size, bxK (k))] Y0) := hE
  clear hE hk hu kc
  generalize hf : kbit (clk k) = f at *
  have HF : Hid (kbit (clk k) = f) := hf
  clear hf
  generalize clk k = c at *
  go_enter Try.func13, Try.ntmps13
  go_wp2_with (with_reducible refine at_list ?_; first | (refine wpList_load_row rfl 23 (.tmp 2) rfl (w.heap.size) rfl 23 (VI .u8 (k)) (0, 0) _ (X0.out.row (g := w.heap.size) (x := bxK (k)) (by simp)) Try.underlying23 rfl (infoK LK.out) ?_))
  refine (C1.out _).mono ?_
  rintro e Y1 ⟨rfl, hb⟩
  have X1 : Hid (Ev w.heap.size w (.pointer none) [] [(w.heap.size + 1 + 1, bxK (List.replicate 32 0)), (w.heap.size + 1, bxK (u)), (w.heap.size, bxK (k))] Y1) := X0.out.below hb
  clear hb X0 hW
  go_wp2_with (with_reducible refine at_list ?_; refine hold_store 23 (.tmp 2) (.tmp 12) rfl ?_)
  have hP : Ev w.heap.size w (.pointer none) [] ((w.heap.size, bxK k) :: [(w.heap.size + 1 + 1, bxK (List.replicate 32 0)), (w.heap.size + 1, bxK u)]) Y1 := X1.out.sub (fun p hp => by simp only [List.mem_cons, List.not_mem_nil, or_false] at hp ⊢; grind)
  have ht := there_mid (hP.row (g := w.heap.size) (x := bxK k) (by simp)) 0 32 (by rw [VI_size, LK.out]; decide)
  refine wpList_store_mid rfl 23 (.tmp 2) (.tmp 12) rfl (w.heap.size) 0 (VI .u8 c) rfl rfl (by rw [VI_size, LC.out]; exact ht) (infoK LC.out) (VI_one _ _) ?_
  have hS := hP.set rfl (by simp only [List.mem_cons, List.not_mem_nil, or_false, forall_eq_or_imp, forall_eq]; omega) (but_setCells (w.heap.size) (c.map (Value.int .u8)) 0 Y1) (whole_setK (hP.row (g := w.heap.size) (x := bxK k) (by simp)) (by rw [LK.out, LC.out]))
  obtain ⟨Y2, hW⟩ : ∃ W, Y1.setCells (w.heap.size) 0 (c.map (Value.int .u8)) = W := ⟨_, rfl⟩
  rw [hW] at hS
  rw [show Y1.setCells (w.heap.size) 0 (VI .u8 c).toList = Y2 from hW]
  have X2 : Hid (Ev w.heap.size w (.pointer none) [] [(w.heap.size + 1 + 1, bxK (List.replicate 32 0)), (w.heap.size + 1, bxK (u)), (w.heap.size, bxK (c))] Y2) := hS.sub (fun p hp => by simp only [List.mem_cons, List.not_mem_nil, or_false] at hp ⊢; grind)
  clear hS hP ht hW X1
  go_wp2_with (with_reducible refine at_list ?_; first | (refine wpList_load_row rfl 23 (.tmp 3) rfl (w.heap.size + 1) rfl 23 (VI .u8 (u)) (0, 0) _ (X2.out.row (g := w.heap.size + 1) (x := bxK (u)) (by simp)) Try.underlying23 rfl (infoK LU.out) ?_))
  refine (C2.out _).mono ?_
  rintro e Y3 ⟨rfl, hb⟩
  have X3 : Hid (Ev w.heap.size w (.pointer none) [] [(w.heap.size + 1 + 1, bxK (List.replicate 32 0)), (w.heap.size + 1, bxK (u)), (w.heap.size, bxK (c))] Y3) := X2.out.below hb
  clear hb X2 
  go_wp2_with (with_reducible refine at_list ?_; first | (refine hold_store 65 (.tmp 5) (.tmp 14) rfl ?_))
  refine store_row_new rfl 65 (.tmp 5) (.tmp 14) rfl Y3.heap.size (VI .i64 (dg (ux u))) rfl rfl rfl 65 (VI .i64 (List.replicate 16 0)) (infoNm (dg_len _)) (by rw [VI_size, VI_size, dg_len]; rfl) (VI_one _ _) ?_
  have hN := X3.out.new (bxL (dg (ux u)))
  have hF : w.heap.size + 1 + 1 < Y3.heap.size := X3.out.lt (g := w.heap.size + 1 + 1) (x := bxK (List.replicate 32 0)) (by simp)
  obtain ⟨Y4, hW⟩ : ∃ W, Y3.alloc (bxL (dg (ux u))) = W := ⟨_, rfl⟩
  rw [hW] at hN
  rw [show Y3.alloc (.cells (VI .i64 (dg (ux u))) 65) = Y4 from hW]
  obtain ⟨gx, hg⟩ : ∃ g, Y3.heap.size = g := ⟨_, rfl⟩
  rw [hg] at hN hF
  try simp only [hg]
  clear hg hW
  have X4 : Hid (Ev w.heap.size w (.pointer none) [] [(gx, bxL (dg (ux u))), (w.heap.size + 1 + 1, bxK (List.replicate 32 0)), (w.heap.size + 1, bxK (u)), (w.heap.size, bxK (c))] Y4) := hN
  have O_gx : Hid (w.heap.size + 1 + 1 < gx) := hF
  clear hN hF X3
  go_wp2_with fail
  refine (C3.out _).mono ?_
  rintro e Y5 ⟨rfl, hb⟩
  have X5 : Hid (Ev w.heap.size w (.pointer none) [] [(gx, bxL (dg (ux u))), (w.heap.size + 1 + 1, bxK (List.replicate 32 0)), (w.heap.size + 1, bxK (u)), (w.heap.size, bxK (c))] Y5) := X4.out.below hb
  clear hb X4 
  go_wp2_with (with_reducible refine at_list ?_; first | (refine hold_store 65 (.tmp 6) (.tmp 15) rfl ?_))
  refine store_row_new rfl 65 (.tmp 6) (.tmp 15) rfl Y5.heap.size (VI .i64 (dg 1)) rfl rfl rfl 65 (VI .i64 (List.replicate 16 0)) (infoNm (dg_len _)) (by rw [VI_size, VI_size, dg_len]; rfl) (VI_one _ _) ?_
  have hN := X5.out.new (bxL (dg 1))
  have hF : gx < Y5.heap.size := X5.out.lt (g := gx) (x := bxL (dg (ux u))) (by simp)
  obtain ⟨Y6, hW⟩ : ∃ W, Y5.alloc (bxL (dg 1)) = W := ⟨_, rfl⟩
  rw [hW] at hN
  rw [show Y5.alloc (.cells (VI .i64 (dg 1)) 65) = Y6 from hW]
  obtain ⟨ga, hg⟩ : ∃ g, Y5.heap.size = g := ⟨_, rfl⟩
  rw [hg] at hN hF
  try simp only [hg]
  clear hg hW
  have X6 : Hid (Ev w.heap.size w (.pointer none) [] [(ga, bxL (dg 1)), (gx, bxL (dg (ux u))), (w.heap.size + 1 + 1, bxK (List.replicate 32 0)), (w.heap.size + 1, bxK (u)), (w.heap.size, bxK (c))] Y6) := hN
  have O_ga : Hid (gx < ga) := hF
  clear hN hF X5
  go_wp2_with fail
  refine (C4.out _).mono ?_
  rintro e Y7 ⟨rfl, hb⟩
  have X7 : Hid (Ev w.heap.size w (.pointer none) [] [(ga, bxL (dg 1)), (gx, bxL (dg (ux u))), (w.heap.size + 1 + 1, bxK (List.replicate 32 0)), (w.heap.size + 1, bxK (u)), (w.heap.size, bxK (c))] Y7) := X6.out.below hb
  clear hb X6 
  go_wp2_with (with_reducible refine at_list ?_; first | (refine hold_store 65 (.tmp 7) (.tmp 16) rfl ?_))
  refine store_row_new rfl 65 (.tmp 7) (.tmp 16) rfl Y7.heap.size (VI .i64 (dg 0)) rfl rfl rfl 65 (VI .i64 (List.replicate 16 0)) (infoNm (dg_len _)) (by rw [VI_size, VI_size, dg_len]; rfl) (VI_one _ _) ?_
  have hN := X7.out.new (bxL (dg 0))
  have hF : ga < Y7.heap.size := X7.out.lt (g := ga) (x := bxL (dg 1)) (by simp)
  obtain ⟨Y8, hW⟩ : ∃ W, Y7.alloc (bxL (dg 0)) = W := ⟨_, rfl⟩
  rw [hW] at hN
  rw [show Y7.alloc (.cells (VI .i64 (dg 0)) 65) = Y8 from hW]
  obtain ⟨gb, hg⟩ : ∃ g, Y7.heap.size = g := ⟨_, rfl⟩
  rw [hg] at hN hF
  try simp only [hg]
  clear hg hW
  have X8 : Hid (Ev w.heap.size w (.pointer none) [] [(gb, bxL (dg 0)), (ga, bxL (dg 1)), (gx, bxL (dg (ux u))), (w.heap.size + 1 + 1, bxK (List.replicate 32 0)), (w.heap.size + 1, bxK (u)), (w.heap.size, bxK (c))] Y8) := hN
  have O_gb : Hid (ga < gb) := hF
  clear hN hF X7
  go_wp2_with (with_reducible refine at_list ?_; first | (refine wpList_load_row rfl 65 (.tmp 5) rfl (gx) rfl 65 (VI .i64 (dg (ux u))) (0, 0) _ (X8.out.row (g := gx) (x := bxL (dg (ux u))) (by simp)) Try.underlying65 rfl (infoNm (dg_len _)) ?_) | (refine hold_store 65 (.tmp 8) (.tmp 17) rfl ?_))
  refine store_row_new rfl 65 (.tmp 8) (.tmp 17) rfl Y8.heap.size (VI .i64 (dg (ux u))) rfl rfl rfl 65 (VI .i64 (List.replicate 16 0)) (infoNm (dg_len _)) (by rw [VI_size, VI_size, dg_len]; rfl) (VI_one _ _) ?_
  have hN := X8.out.new (bxL (dg (ux u)))
  have hF : gb < Y8.heap.size := X8.out.lt (g := gb) (x := bxL (dg 0)) (by simp)
  obtain ⟨Y9, hW⟩ : ∃ W, Y8.alloc (bxL (dg (ux u))) = W := ⟨_, rfl⟩
  rw [hW] at hN
  rw [show Y8.alloc (.cells (VI .i64 (dg (ux u))) 65) = Y9 from hW]
  obtain ⟨gc, hg⟩ : ∃ g, Y8.heap.size = g := ⟨_, rfl⟩
  rw [hg] at hN hF
  try simp only [hg]
  clear hg hW
  have X9 : Hid (Ev w.heap.size w (.pointer none) [] [(gc, bxL (dg (ux u))), (gb, bxL (dg 0)), (ga, bxL (dg 1)), (gx, bxL (dg (ux u))), (w.heap.size + 1 + 1, bxK (List.replicate 32 0)), (w.heap.size + 1, bxK (u)), (w.heap.size, bxK (c))] Y9) := hN
  have O_gc : Hid (gb < gc) := hF
  clear hN hF X8
  go_wp2_with fail
  refine (C3.out _).mono ?_
  rintro e Y10 ⟨rfl, hb⟩
  have X10 : Hid (Ev w.heap.size w (.pointer none) [] [(gc, bxL (dg (ux u))), (gb, bxL (dg 0)), (ga, bxL (dg 1)), (gx, bxL (dg (ux u))), (w.heap.size + 1 + 1, bxK (List.replicate 32 0)), (w.heap.size + 1, bxK (u)), (w.heap.size, bxK (c))] Y10) := X9.out.below hb
  clear hb X9 
  go_wp2_with (with_reducible refine at_list ?_; first | (refine hold_store 65 (.tmp 9) (.tmp 18) rfl ?_))
  refine store_row_new rfl 65 (.tmp 9) (.tmp 18) rfl Y10.heap.size (VI .i64 (dg 1)) rfl rfl rfl 65 (VI .i64 (List.replicate 16 0)) (infoNm (dg_len _)) (by rw [VI_size, VI_size, dg_len]; rfl) (VI_one _ _) ?_
  have hN := X10.out.new (bxL (dg 1))
  have hF : gc < Y10.heap.size := X10.out.lt (g := gc) (x := bxL (dg (ux u))) (by simp)
  obtain ⟨Y11, hW⟩ : ∃ W, Y10.alloc (bxL (dg 1)) = W := ⟨_, rfl⟩
  rw [hW] at hN
  rw [show Y10.alloc (.cells (VI .i64 (dg 1)) 65) = Y11 from hW]
  obtain ⟨gd, hg⟩ : ∃ g, Y10.heap.size = g := ⟨_, rfl⟩
  rw [hg] at hN hF
  try simp only [hg]
  clear hg hW
  have X11 : Hid (Ev w.heap.size w (.pointer none) [] [(gd, bxL (dg 1)), (gc, bxL (dg (ux u))), (gb, bxL (dg 0)), (ga, bxL (dg 1)), (gx, bxL (dg (ux u))), (w.heap.size + 1 + 1, bxK (List.replicate 32 0)), (w.heap.size + 1, bxK (u)), (w.heap.size, bxK (c))] Y11) := hN
  have O_gd : Hid (gc < gd) := hF
  clear hN hF X10
  go_wp2_with fail
  generalize ux u = x at *
  have ND : Hid (ga ≠ gb ∧ ga ≠ gc ∧ ga ≠ gd ∧ gb ≠ gc ∧ gb ≠ gd ∧ gc ≠ gd) := by
    have h1 := O_ga.out; have h2 := O_gb.out; have h3 := O_gc.out; have h4 := O_gd.out
    show ga ≠ gb ∧ ga ≠ gc ∧ ga ≠ gd ∧ gb ≠ gc ∧ gb ≠ gd ∧ gc ≠ gd
    omega
  have NB : Hid ((∀ p ∈ ([(gx, bxL (dg x)), (w.heap.size + 1 + 1, bxK (List.replicate 32 0)), (w.heap.size + 1, bxK (u)), (w.heap.size, bxK (c))] : List (Nat × Obj)), p.1 ≠ ga) ∧ (∀ p ∈ ([(gx, bxL (dg x)), (w.heap.size + 1 + 1, bxK (List.replicate 32 0)), (w.heap.size + 1, bxK (u)), (w.heap.size, bxK (c))] : List (Nat × Obj)), p.1 ≠ gb) ∧ (∀ p ∈ ([(gx, bxL (dg x)), (w.heap.size + 1 + 1, bxK (List.replicate 32 0)), (w.heap.size + 1, bxK (u)), (w.heap.size, bxK (c))] : List (Nat × Obj)), p.1 ≠ gc) ∧ (∀ p ∈ ([(gx, bxL (dg x)), (w.heap.size + 1 + 1, bxK (List.replicate 32 0)), (w.heap.size + 1, bxK (u)), (w.heap.size, bxK (c))] : List (Nat × Obj)), p.1 ≠ gd)) := by
    have h0 := O_gx.out; have h1 := O_ga.out; have h2 := O_gb.out; have h3 := O_gc.out; have h4 := O_gd.out
    show (∀ p ∈ ([(gx, bxL (dg x)), (w.heap.size + 1 + 1, bxK (List.replicate 32 0)), (w.heap.size + 1, bxK (u)), (w.heap.size, bxK (c))] : List (Nat × Obj)), p.1 ≠ ga) ∧ (∀ p ∈ ([(gx, bxL (dg x)), (w.heap.size + 1 + 1, bxK (List.replicate 32 0)), (w.heap.size + 1, bxK (u)), (w.heap.size, bxK (c))] : List (Nat × Obj)), p.1 ≠ gb) ∧ (∀ p ∈ ([(gx, bxL (dg x)), (w.heap.size + 1 + 1, bxK (List.replicate 32 0)), (w.heap.size + 1, bxK (u)), (w.heap.size, bxK (c))] : List (Nat × Obj)), p.1 ≠ gc) ∧ (∀ p ∈ ([(gx, bxL (dg x)), (w.heap.size + 1 + 1, bxK (List.replicate 32 0)), (w.heap.size + 1, bxK (u)), (w.heap.size, bxK (c))] : List (Nat × Obj)), p.1 ≠ gd)
    simp only [List.mem_cons, List.not_mem_nil, or_false, forall_eq_or_imp, forall_eq]
    omega
  have NR : Hid (gx ≠ w.heap.size + 1 + 1 ∧ ga ≠ w.heap.size + 1 + 1 ∧ gb ≠ w.heap.size + 1 + 1 ∧ gc ≠ w.heap.size + 1 + 1 ∧ gd ≠ w.heap.size + 1 + 1) := by
    have h0 := O_gx.out; have h1 := O_ga.out; have h2 := O_gb.out; have h3 := O_gc.out; have h4 := O_gd.out
    show gx ≠ w.heap.size + 1 + 1 ∧ ga ≠ w.heap.size + 1 + 1 ∧ gb ≠ w.heap.size + 1 + 1 ∧ gc ≠ w.heap.size + 1 + 1 ∧ gd ≠ w.heap.size + 1 + 1
    omega
  have XS : Hid (Ev w.heap.size w (.pointer none) [] ((ga, bxL (dg 1)) :: (gb, bxL (dg 0)) :: (gc, bxL (dg x)) :: (gd, bxL (dg 1)) :: [(gx, bxL (dg x)), (w.heap.size + 1 + 1, bxK (List.replicate 32 0)), (w.heap.size + 1, bxK (u)), (w.heap.size, bxK (c))]) Y11) := X11.out.sub (fun p hp => by simp only [List.mem_cons, List.not_mem_nil, or_false] at hp ⊢; grind)
  clear X11 O_gx O_ga O_gb O_gc O_gd C1 C2 C3 C4
  go_loopw [10] (fun t w' => ∃ i A Bb C D : Nat, i ≤ 255 ∧ t = .int .i64 (254 - (i : Int)) ∧ A < P ∧ Bb < P ∧ C < P ∧ D < P ∧ A = (U f x i).a ∧ Bb = (U f x i).b ∧ C = (U f x i).c ∧ D = (U f x i).d ∧ Ev w.heap.size w (.pointer none) [] ((ga, bxL (dg A)) :: (gb, bxL (dg Bb)) :: (gc, bxL (dg C)) :: (gd, bxL (dg D)) :: [(gx, bxL (dg x)), (w.heap.size + 1 + 1, bxK (List.replicate 32 0)), (w.heap.size + 1, bxK (u)), (w.heap.size, bxK (c))]) w') (fun t _ => (intOf t + 1).toNat)
  case atStart => exact ⟨0, 1, 0, x, 1, by decide, rfl, by decide, by decide, XP.out, by decide, rfl, rfl, rfl, rfl, XS.out⟩
  case round =>
    clear XS
    obtain ⟨i, A, Bb, C, D, hi, rfl, hA, hB, hC, hD, eA, eB, eC, eD, hp⟩ := hrel
    have HP : Hid (Ev w.heap.size w (.pointer none) [] ((ga, bxL (dg A)) :: (gb, bxL (dg Bb)) :: (gc, bxL (dg C)) :: (gd, bxL (dg D)) :: [(gx, bxL (dg x)), (w.heap.size + 1 + 1, bxK (List.replicate 32 0)), (w.heap.size + 1, bxK (u)), (w.heap.size, bxK (c))]) wr) := hp
    clear hp
    have PA : Hid (A < P ∧ Bb < P ∧ C < P ∧ D < P) := ⟨hA, hB, hC, hD⟩
    have EQ : Hid (A = (U f x i).a ∧ Bb = (U f x i).b ∧ C = (U f x i).c ∧ D = (U f x i).d) := ⟨eA, eB, eC, eD⟩
    clear hA hB hC hD eA eB eC eD
    by_cases hlt : i < 255
    · obtain ⟨t, ht⟩ : ∃ t : Nat, t = 254 - i := ⟨_, rfl⟩
      have ht' : 254 - (i : Int) = (t : Int) := by omega
      have ht2 : t ≤ 254 := by omega
      have g2 := KB.out t
      have BT : Hid (∀ w, Calls Try.prog 32 #[.agg (VI .u8 c), .int .i64 (t : Int)] w fun e w' => e = .returned (.int .i64 ((f t : Nat) : Int)) ∧ Below w.heap.size w w') := fun w => BIT.out t (by omega) w
      have HT : Hid (t = 254 - i) := ht
      rw [ht']
      clear ht ht'
      obtain ⟨g, hg⟩ : ∃ g, f t = g := ⟨_, rfl⟩
      have HG : Hid (f (254 - i) = g) := by rw [← HT.out]; exact hg
      rw [hg] at g2 BT
      clear hg
      rcases (show g = 0 ∨ g = 1 by omega) with rfl | rfl
      · go_wp2_with (with_reducible refine at_list ?_; first | (refine wpList_load_row rfl 23 (.tmp 2) rfl (w.heap.size) rfl 23 (VI .u8 (c)) (0, 0) _ (HP.out.row (g := w.heap.size) (x := bxK (c)) (by simp)) Try.underlying23 rfl (infoK LC.out) ?_))
        refine (BT.out _).mono ?_
        rintro e Y41 ⟨rfl, hb⟩
        have X41 : Hid (Ev w.heap.size w (.pointer none) [] [(ga, bxL (dg A)), (gb, bxL (dg Bb)), (gc, bxL (dg C)), (gd, bxL (dg D)), (gx, bxL (dg x)), (w.heap.size + 1 + 1, bxK (List.replicate 32 0)), (w.heap.size + 1, bxK (u)), (w.heap.size, bxK (c))] Y41) := HP.out.below hb
        clear hb HP 
        obtain ⟨⟨r0, r1, r2, r3⟩, hcl⟩ : ∃ q, clm x A Bb C D = q := ⟨_, rfl⟩
        have HCL : Hid (clm x A Bb C D = (r0, r1, r2, r3)) := hcl
        have RL : Hid (r0 < P ∧ r1 < P ∧ r2 < P ∧ r3 < P) := clm_lt hcl
        have ST : Hid (∀ w, Calls Try.prog 33 #[.agg (VI .i64 (dg x)), .agg (VI .i64 (dg A)), .agg (VI .i64 (dg Bb)), .agg (VI .i64 (dg C)), .agg (VI .i64 (dg D))] w fun e w' => e = .returned (.tuple #[.agg (VI .i64 (dg r0)), .agg (VI .i64 (dg r1)), .agg (VI .i64 (dg r2)), .agg (VI .i64 (dg r3))]) ∧ Below w.heap.size w w') := fun w => rstep_any XP.out PA.out.1 PA.out.2.1 PA.out.2.2.1 PA.out.2.2.2 hcl w
        clear hcl
        go_wp2_with (with_reducible refine at_list ?_; first | (refine wpList_load_row rfl 65 (.tmp 5) rfl (gx) rfl 65 (VI .i64 (dg x)) (0, 0) _ (X41.out.row (g := gx) (x := bxL (dg x)) (by simp)) Try.underlying65 rfl (infoNm (dg_len _)) ?_) | (refine wpList_load_row rfl 65 (.tmp 6) rfl (ga) rfl 65 (VI .i64 (dg A)) (0, 0) _ (X41.out.row (g := ga) (x := bxL (dg A)) (by simp)) Try.underlying65 rfl (infoNm (dg_len _)) ?_) | (refine wpList_load_row rfl 65 (.tmp 7) rfl (gb) rfl 65 (VI .i64 (dg Bb)) (0, 0) _ (X41.out.row (g := gb) (x := bxL (dg Bb)) (by simp)) Try.underlying65 rfl (infoNm (dg_len _)) ?_) | (refine wpList_load_row rfl 65 (.tmp 8) rfl (gc) rfl 65 (VI .i64 (dg C)) (0, 0) _ (X41.out.row (g := gc) (x := bxL (dg C)) (by simp)) Try.underlying65 rfl (infoNm (dg_len _)) ?_) | (refine wpList_load_row rfl 65 (.tmp 9) rfl (gd) rfl 65 (VI .i64 (dg D)) (0, 0) _ (X41.out.row (g := gd) (x := bxL (dg D)) (by simp)) Try.underlying65 rfl (infoNm (dg_len _)) ?_))
        refine (ST.out _).mono ?_
        rintro e Y42 ⟨rfl, hb⟩
        have X42 : Hid (Ev w.heap.size w (.pointer none) [] [(ga, bxL (dg A)), (gb, bxL (dg Bb)), (gc, bxL (dg C)), (gd, bxL (dg D)), (gx, bxL (dg x)), (w.heap.size + 1 + 1, bxK (List.replicate 32 0)), (w.heap.size + 1, bxK (u)), (w.heap.size, bxK (c))] Y42) := X41.out.below hb
        clear hb X41 
        go_wp2_with (with_reducible refine at_list ?_; refine hold_store 65 (.tmp 6) (.tmp 38) rfl ?_)
        have hP : Ev w.heap.size w (.pointer none) [] ((ga, bxL (dg A)) :: [(gb, bxL (dg Bb)), (gc, bxL (dg C)), (gd, bxL (dg D)), (gx, bxL (dg x)), (w.heap.size + 1 + 1, bxK (List.replicate 32 0)), (w.heap.size + 1, bxK (u)), (w.heap.size, bxK (c))]) Y42 := X42.out.sub (fun p hp => by simp only [List.mem_cons, List.not_mem_nil, or_false] at hp ⊢; grind)
        have ht := there_mid (hP.row (g := ga) (x := bxL (dg A)) (by simp)) 0 16 (by rw [VI_size, dg_len]; decide)
        refine wpList_store_mid rfl 65 (.tmp 6) (.tmp 38) rfl ga 0 (VI .i64 (dg r0)) rfl rfl (by rw [VI_size, dg_len]; exact ht) (infoNm (dg_len _)) (VI_one _ _) ?_
        have hS := hP.set rfl (by have h1 := ND.out; have h2 := NB.out; simp only [List.mem_cons, List.not_mem_nil, or_false, forall_eq_or_imp, forall_eq] at h2 ⊢; omega) (but_setCells ga ((dg r0).map (Value.int .i64)) 0 Y42) (whole_setN (hP.row (g := ga) (x := bxL (dg A)) (by simp)) (by rw [dg_len, dg_len]))
        obtain ⟨Y43, hW⟩ : ∃ W, Y42.setCells ga 0 ((dg r0).map (Value.int .i64)) = W := ⟨_, rfl⟩
        rw [hW] at hS
        rw [show Y42.setCells ga 0 (VI .i64 (dg r0)).toList = Y43 from hW]
        have X43 : Hid (Ev w.heap.size w (.pointer none) [] [(ga, bxL (dg r0)), (gb, bxL (dg Bb)), (gc, bxL (dg C)), (gd, bxL (dg D)), (gx, bxL (dg x)), (w.heap.size + 1 + 1, bxK (List.replicate 32 0)), (w.heap.size + 1, bxK (u)), (w.heap.size, bxK (c))] Y43) := hS.sub (fun p hp => by simp only [List.mem_cons, List.not_mem_nil, or_false] at hp ⊢; grind)
        clear hS hP ht hW X42
        go_wp2_with (with_reducible refine at_list ?_; refine hold_store 65 (.tmp 7) (.tmp 39) rfl ?_)
        have hP : Ev w.heap.size w (.pointer none) [] ((gb, bxL (dg Bb)) :: [(ga, bxL (dg r0)), (gc, bxL (dg C)), (gd, bxL (dg D)), (gx, bxL (dg x)), (w.heap.size + 1 + 1, bxK (List.replicate 32 0)), (w.heap.size + 1, bxK (u)), (w.heap.size, bxK (c))]) Y43 := X43.out.sub (fun p hp => by simp only [List.mem_cons, List.not_mem_nil, or_false] at hp ⊢; grind)
        have ht := there_mid (hP.row (g := gb) (x := bxL (dg Bb)) (by simp)) 0 16 (by rw [VI_size, dg_len]; decide)
        refine wpList_store_mid rfl 65 (.tmp 7) (.tmp 39) rfl gb 0 (VI .i64 (dg r1)) rfl rfl (by rw [VI_size, dg_len]; exact ht) (infoNm (dg_len _)) (VI_one _ _) ?_
        have hS := hP.set rfl (by have h1 := ND.out; have h2 := NB.out; simp only [List.mem_cons, List.not_mem_nil, or_false, forall_eq_or_imp, forall_eq] at h2 ⊢; omega) (but_setCells gb ((dg r1).map (Value.int .i64)) 0 Y43) (whole_setN (hP.row (g := gb) (x := bxL (dg Bb)) (by simp)) (by rw [dg_len, dg_len]))
        obtain ⟨Y44, hW⟩ : ∃ W, Y43.setCells gb 0 ((dg r1).map (Value.int .i64)) = W := ⟨_, rfl⟩
        rw [hW] at hS
        rw [show Y43.setCells gb 0 (VI .i64 (dg r1)).toList = Y44 from hW]
        have X44 : Hid (Ev w.heap.size w (.pointer none) [] [(ga, bxL (dg r0)), (gb, bxL (dg r1)), (gc, bxL (dg C)), (gd, bxL (dg D)), (gx, bxL (dg x)), (w.heap.size + 1 + 1, bxK (List.replicate 32 0)), (w.heap.size + 1, bxK (u)), (w.heap.size, bxK (c))] Y44) := hS.sub (fun p hp => by simp only [List.mem_cons, List.not_mem_nil, or_false] at hp ⊢; grind)
        clear hS hP ht hW X43
        go_wp2_with (with_reducible refine at_list ?_; refine hold_store 65 (.tmp 8) (.tmp 40) rfl ?_)
        have hP : Ev w.heap.size w (.pointer none) [] ((gc, bxL (dg C)) :: [(ga, bxL (dg r0)), (gb, bxL (dg r1)), (gd, bxL (dg D)), (gx, bxL (dg x)), (w.heap.size + 1 + 1, bxK (List.replicate 32 0)), (w.heap.size + 1, bxK (u)), (w.heap.size, bxK (c))]) Y44 := X44.out.sub (fun p hp => by simp only [List.mem_cons, List.not_mem_nil, or_false] at hp ⊢; grind)
        have ht := there_mid (hP.row (g := gc) (x := bxL (dg C)) (by simp)) 0 16 (by rw [VI_size, dg_len]; decide)
        refine wpList_store_mid rfl 65 (.tmp 8) (.tmp 40) rfl gc 0 (VI .i64 (dg r2)) rfl rfl (by rw [VI_size, dg_len]; exact ht) (infoNm (dg_len _)) (VI_one _ _) ?_
        have hS := hP.set rfl (by have h1 := ND.out; have h2 := NB.out; simp only [List.mem_cons, List.not_mem_nil, or_false, forall_eq_or_imp, forall_eq] at h2 ⊢; omega) (but_setCells gc ((dg r2).map (Value.int .i64)) 0 Y44) (whole_setN (hP.row (g := gc) (x := bxL (dg C)) (by simp)) (by rw [dg_len, dg_len]))
        obtain ⟨Y45, hW⟩ : ∃ W, Y44.setCells gc 0 ((dg r2).map (Value.int .i64)) = W := ⟨_, rfl⟩
        rw [hW] at hS
        rw [show Y44.setCells gc 0 (VI .i64 (dg r2)).toList = Y45 from hW]
        have X45 : Hid (Ev w.heap.size w (.pointer none) [] [(ga, bxL (dg r0)), (gb, bxL (dg r1)), (gc, bxL (dg r2)), (gd, bxL (dg D)), (gx, bxL (dg x)), (w.heap.size + 1 + 1, bxK (List.replicate 32 0)), (w.heap.size + 1, bxK (u)), (w.heap.size, bxK (c))] Y45) := hS.sub (fun p hp => by simp only [List.mem_cons, List.not_mem_nil, or_false] at hp ⊢; grind)
        clear hS hP ht hW X44
        go_wp2_with (with_reducible refine at_list ?_; refine hold_store 65 (.tmp 9) (.tmp 41) rfl ?_)
        have hP : Ev w.heap.size w (.pointer none) [] ((gd, bxL (dg D)) :: [(ga, bxL (dg r0)), (gb, bxL (dg r1)), (gc, bxL (dg r2)), (gx, bxL (dg x)), (w.heap.size + 1 + 1, bxK (List.replicate 32 0)), (w.heap.size + 1, bxK (u)), (w.heap.size, bxK (c))]) Y45 := X45.out.sub (fun p hp => by simp only [List.mem_cons, List.not_mem_nil, or_false] at hp ⊢; grind)
        have ht := there_mid (hP.row (g := gd) (x := bxL (dg D)) (by simp)) 0 16 (by rw [VI_size, dg_len]; decide)
        refine wpList_store_mid rfl 65 (.tmp 9) (.tmp 41) rfl gd 0 (VI .i64 (dg r3)) rfl rfl (by rw [VI_size, dg_len]; exact ht) (infoNm (dg_len _)) (VI_one _ _) ?_
        have hS := hP.set rfl (by have h1 := ND.out; have h2 := NB.out; simp only [List.mem_cons, List.not_mem_nil, or_false, forall_eq_or_imp, forall_eq] at h2 ⊢; omega) (but_setCells gd ((dg r3).map (Value.int .i64)) 0 Y45) (whole_setN (hP.row (g := gd) (x := bxL (dg D)) (by simp)) (by rw [dg_len, dg_len]))
        obtain ⟨Y46, hW⟩ : ∃ W, Y45.setCells gd 0 ((dg r3).map (Value.int .i64)) = W := ⟨_, rfl⟩
        rw [hW] at hS
        rw [show Y45.setCells gd 0 (VI .i64 (dg r3)).toList = Y46 from hW]
        have X46 : Hid (Ev w.heap.size w (.pointer none) [] [(ga, bxL (dg r0)), (gb, bxL (dg r1)), (gc, bxL (dg r2)), (gd, bxL (dg r3)), (gx, bxL (dg x)), (w.heap.size + 1 + 1, bxK (List.replicate 32 0)), (w.heap.size + 1, bxK (u)), (w.heap.size, bxK (c))] Y46) := hS.sub (fun p hp => by simp only [List.mem_cons, List.not_mem_nil, or_false] at hp ⊢; grind)
        clear hS hP ht hW X45
        go_wp2_with (with_reducible refine at_list ?_; first | (refine wpList_load_row rfl 23 (.tmp 2) rfl (w.heap.size) rfl 23 (VI .u8 (c)) (0, 0) _ (X46.out.row (g := w.heap.size) (x := bxK (c)) (by simp)) Try.underlying23 rfl (infoK LC.out) ?_))
        refine (BT.out _).mono ?_
        rintro e Y47 ⟨rfl, hb⟩
        have X47 : Hid (Ev w.heap.size w (.pointer none) [] [(ga, bxL (dg r0)), (gb, bxL (dg r1)), (gc, bxL (dg r2)), (gd, bxL (dg r3)), (gx, bxL (dg x)), (w.heap.size + 1 + 1, bxK (List.replicate 32 0)), (w.heap.size + 1, bxK (u)), (w.heap.size, bxK (c))] Y47) := X46.out.below hb
        clear hb X46 
        go_wp2_with fail
        obtain ⟨e1, e2, e3, e4⟩ := EQ.out
        have HC := HCL.out
        rw [e1, e2, e3, e4] at HC
        obtain ⟨q1, q2, q3, q4⟩ := U_nil HG.out HC
        have hti := HT.out
        clear HC e1 e2 e3 e4
        try go_wp2
        go_roundw
        case rel => exact ⟨i + 1, r0, r1, r2, r3, by omega, by go_num, RL.out.1, RL.out.2.1, RL.out.2.2.1, RL.out.2.2.2, q1.symm, q2.symm, q3.symm, q4.symm, X47.out⟩
        case measure => simp [intOf]
      · go_wp2_with (with_reducible refine at_list ?_; first | (refine wpList_load_row rfl 23 (.tmp 2) rfl (w.heap.size) rfl 23 (VI .u8 (c)) (0, 0) _ (HP.out.row (g := w.heap.size) (x := bxK (c)) (by simp)) Try.underlying23 rfl (infoK LC.out) ?_))
        refine (BT.out _).mono ?_
        rintro e Y21 ⟨rfl, hb⟩
        have X21 : Hid (Ev w.heap.size w (.pointer none) [] [(ga, bxL (dg A)), (gb, bxL (dg Bb)), (gc, bxL (dg C)), (gd, bxL (dg D)), (gx, bxL (dg x)), (w.heap.size + 1 + 1, bxK (List.replicate 32 0)), (w.heap.size + 1, bxK (u)), (w.heap.size, bxK (c))] Y21) := HP.out.below hb
        clear hb HP 
        go_wp2_with fail
        refine wp_as (c' := rgW11) (by kernel_rfl) ?_
        refine rsh_r11 (dg_len _) (dg_len _) (dg_len _) (dg_len _) ND NB X21.out ?_
        intro Y22 hN
        have X22 : Hid (Ev w.heap.size w (.pointer none) [] [(ga, bxL (dg C)), (gb, bxL (dg D)), (gc, bxL (dg A)), (gd, bxL (dg Bb)), (gx, bxL (dg x)), (w.heap.size + 1 + 1, bxK (List.replicate 32 0)), (w.heap.size + 1, bxK (u)), (w.heap.size, bxK (c))] Y22) := hN
        clear hN X21
        obtain ⟨⟨r0, r1, r2, r3⟩, hcl⟩ : ∃ q, clm x C D A Bb = q := ⟨_, rfl⟩
        have HCL : Hid (clm x C D A Bb = (r0, r1, r2, r3)) := hcl
        have RL : Hid (r0 < P ∧ r1 < P ∧ r2 < P ∧ r3 < P) := clm_lt hcl
        have ST : Hid (∀ w, Calls Try.prog 33 #[.agg (VI .i64 (dg x)), .agg (VI .i64 (dg C)), .agg (VI .i64 (dg D)), .agg (VI .i64 (dg A)), .agg (VI .i64 (dg Bb))] w fun e w' => e = .returned (.tuple #[.agg (VI .i64 (dg r0)), .agg (VI .i64 (dg r1)), .agg (VI .i64 (dg r2)), .agg (VI .i64 (dg r3))]) ∧ Below w.heap.size w w') := fun w => rstep_any XP.out PA.out.2.2.1 PA.out.2.2.2 PA.out.1 PA.out.2.1 hcl w
        clear hcl
        go_wp2_with (with_reducible refine at_list ?_; first | (refine wpList_load_row rfl 65 (.tmp 5) rfl (gx) rfl 65 (VI .i64 (dg x)) (0, 0) _ (X22.out.row (g := gx) (x := bxL (dg x)) (by simp)) Try.underlying65 rfl (infoNm (dg_len _)) ?_) | (refine wpList_load_row rfl 65 (.tmp 6) rfl (ga) rfl 65 (VI .i64 (dg C)) (0, 0) _ (X22.out.row (g := ga) (x := bxL (dg C)) (by simp)) Try.underlying65 rfl (infoNm (dg_len _)) ?_) | (refine wpList_load_row rfl 65 (.tmp 7) rfl (gb) rfl 65 (VI .i64 (dg D)) (0, 0) _ (X22.out.row (g := gb) (x := bxL (dg D)) (by simp)) Try.underlying65 rfl (infoNm (dg_len _)) ?_) | (refine wpList_load_row rfl 65 (.tmp 8) rfl (gc) rfl 65 (VI .i64 (dg A)) (0, 0) _ (X22.out.row (g := gc) (x := bxL (dg A)) (by simp)) Try.underlying65 rfl (infoNm (dg_len _)) ?_) | (refine wpList_load_row rfl 65 (.tmp 9) rfl (gd) rfl 65 (VI .i64 (dg Bb)) (0, 0) _ (X22.out.row (g := gd) (x := bxL (dg Bb)) (by simp)) Try.underlying65 rfl (infoNm (dg_len _)) ?_))
        refine (ST.out _).mono ?_
        rintro e Y23 ⟨rfl, hb⟩
        have X23 : Hid (Ev w.heap.size w (.pointer none) [] [(ga, bxL (dg C)), (gb, bxL (dg D)), (gc, bxL (dg A)), (gd, bxL (dg Bb)), (gx, bxL (dg x)), (w.heap.size + 1 + 1, bxK (List.replicate 32 0)), (w.heap.size + 1, bxK (u)), (w.heap.size, bxK (c))] Y23) := X22.out.below hb
        clear hb X22 
        go_wp2_with (with_reducible refine at_list ?_; refine hold_store 65 (.tmp 6) (.tmp 38) rfl ?_)
        have hP : Ev w.heap.size w (.pointer none) [] ((ga, bxL (dg C)) :: [(gb, bxL (dg D)), (gc, bxL (dg A)), (gd, bxL (dg Bb)), (gx, bxL (dg x)), (w.heap.size + 1 + 1, bxK (List.replicate 32 0)), (w.heap.size + 1, bxK (u)), (w.heap.size, bxK (c))]) Y23 := X23.out.sub (fun p hp => by simp only [List.mem_cons, List.not_mem_nil, or_false] at hp ⊢; grind)
        have ht := there_mid (hP.row (g := ga) (x := bxL (dg C)) (by simp)) 0 16 (by rw [VI_size, dg_len]; decide)
        refine wpList_store_mid rfl 65 (.tmp 6) (.tmp 38) rfl ga 0 (VI .i64 (dg r0)) rfl rfl (by rw [VI_size, dg_len]; exact ht) (infoNm (dg_len _)) (VI_one _ _) ?_
        have hS := hP.set rfl (by have h1 := ND.out; have h2 := NB.out; simp only [List.mem_cons, List.not_mem_nil, or_false, forall_eq_or_imp, forall_eq] at h2 ⊢; omega) (but_setCells ga ((dg r0).map (Value.int .i64)) 0 Y23) (whole_setN (hP.row (g := ga) (x := bxL (dg C)) (by simp)) (by rw [dg_len, dg_len]))
        obtain ⟨Y24, hW⟩ : ∃ W, Y23.setCells ga 0 ((dg r0).map (Value.int .i64)) = W := ⟨_, rfl⟩
        rw [hW] at hS
        rw [show Y23.setCells ga 0 (VI .i64 (dg r0)).toList = Y24 from hW]
        have X24 : Hid (Ev w.heap.size w (.pointer none) [] [(ga, bxL (dg r0)), (gb, bxL (dg D)), (gc, bxL (dg A)), (gd, bxL (dg Bb)), (gx, bxL (dg x)), (w.heap.size + 1 + 1, bxK (List.replicate 32 0)), (w.heap.size + 1, bxK (u)), (w.heap.size, bxK (c))] Y24) := hS.sub (fun p hp => by simp only [List.mem_cons, List.not_mem_nil, or_false] at hp ⊢; grind)
        clear hS hP ht hW X23
        go_wp2_with (with_reducible refine at_list ?_; refine hold_store 65 (.tmp 7) (.tmp 39) rfl ?_)
        have hP : Ev w.heap.size w (.pointer none) [] ((gb, bxL (dg D)) :: [(ga, bxL (dg r0)), (gc, bxL (dg A)), (gd, bxL (dg Bb)), (gx, bxL (dg x)), (w.heap.size + 1 + 1, bxK (List.replicate 32 0)), (w.heap.size + 1, bxK (u)), (w.heap.size, bxK (c))]) Y24 := X24.out.sub (fun p hp => by simp only [List.mem_cons, List.not_mem_nil, or_false] at hp ⊢; grind)
        have ht := there_mid (hP.row (g := gb) (x := bxL (dg D)) (by simp)) 0 16 (by rw [VI_size, dg_len]; decide)
        refine wpList_store_mid rfl 65 (.tmp 7) (.tmp 39) rfl gb 0 (VI .i64 (dg r1)) rfl rfl (by rw [VI_size, dg_len]; exact ht) (infoNm (dg_len _)) (VI_one _ _) ?_
        have hS := hP.set rfl (by have h1 := ND.out; have h2 := NB.out; simp only [List.mem_cons, List.not_mem_nil, or_false, forall_eq_or_imp, forall_eq] at h2 ⊢; omega) (but_setCells gb ((dg r1).map (Value.int .i64)) 0 Y24) (whole_setN (hP.row (g := gb) (x := bxL (dg D)) (by simp)) (by rw [dg_len, dg_len]))
        obtain ⟨Y25, hW⟩ : ∃ W, Y24.setCells gb 0 ((dg r1).map (Value.int .i64)) = W := ⟨_, rfl⟩
        rw [hW] at hS
        rw [show Y24.setCells gb 0 (VI .i64 (dg r1)).toList = Y25 from hW]
        have X25 : Hid (Ev w.heap.size w (.pointer none) [] [(ga, bxL (dg r0)), (gb, bxL (dg r1)), (gc, bxL (dg A)), (gd, bxL (dg Bb)), (gx, bxL (dg x)), (w.heap.size + 1 + 1, bxK (List.replicate 32 0)), (w.heap.size + 1, bxK (u)), (w.heap.size, bxK (c))] Y25) := hS.sub (fun p hp => by simp only [List.mem_cons, List.not_mem_nil, or_false] at hp ⊢; grind)
        clear hS hP ht hW X24
        go_wp2_with (with_reducible refine at_list ?_; refine hold_store 65 (.tmp 8) (.tmp 40) rfl ?_)
        have hP : Ev w.heap.size w (.pointer none) [] ((gc, bxL (dg A)) :: [(ga, bxL (dg r0)), (gb, bxL (dg r1)), (gd, bxL (dg Bb)), (gx, bxL (dg x)), (w.heap.size + 1 + 1, bxK (List.replicate 32 0)), (w.heap.size + 1, bxK (u)), (w.heap.size, bxK (c))]) Y25 := X25.out.sub (fun p hp => by simp only [List.mem_cons, List.not_mem_nil, or_false] at hp ⊢; grind)
        have ht := there_mid (hP.row (g := gc) (x := bxL (dg A)) (by simp)) 0 16 (by rw [VI_size, dg_len]; decide)
        refine wpList_store_mid rfl 65 (.tmp 8) (.tmp 40) rfl gc 0 (VI .i64 (dg r2)) rfl rfl (by rw [VI_size, dg_len]; exact ht) (infoNm (dg_len _)) (VI_one _ _) ?_
        have hS := hP.set rfl (by have h1 := ND.out; have h2 := NB.out; simp only [List.mem_cons, List.not_mem_nil, or_false, forall_eq_or_imp, forall_eq] at h2 ⊢; omega) (but_setCells gc ((dg r2).map (Value.int .i64)) 0 Y25) (whole_setN (hP.row (g := gc) (x := bxL (dg A)) (by simp)) (by rw [dg_len, dg_len]))
        obtain ⟨Y26, hW⟩ : ∃ W, Y25.setCells gc 0 ((dg r2).map (Value.int .i64)) = W := ⟨_, rfl⟩
        rw [hW] at hS
        rw [show Y25.setCells gc 0 (VI .i64 (dg r2)).toList = Y26 from hW]
        have X26 : Hid (Ev w.heap.size w (.pointer none) [] [(ga, bxL (dg r0)), (gb, bxL (dg r1)), (gc, bxL (dg r2)), (gd, bxL (dg Bb)), (gx, bxL (dg x)), (w.heap.size + 1 + 1, bxK (List.replicate 32 0)), (w.heap.size + 1, bxK (u)), (w.heap.size, bxK (c))] Y26) := hS.sub (fun p hp => by simp only [List.mem_cons, List.not_mem_nil, or_false] at hp ⊢; grind)
        clear hS hP ht hW X25
        go_wp2_with (with_reducible refine at_list ?_; refine hold_store 65 (.tmp 9) (.tmp 41) rfl ?_)
        have hP : Ev w.heap.size w (.pointer none) [] ((gd, bxL (dg Bb)) :: [(ga, bxL (dg r0)), (gb, bxL (dg r1)), (gc, bxL (dg r2)), (gx, bxL (dg x)), (w.heap.size + 1 + 1, bxK (List.replicate 32 0)), (w.heap.size + 1, bxK (u)), (w.heap.size, bxK (c))]) Y26 := X26.out.sub (fun p hp => by simp only [List.mem_cons, List.not_mem_nil, or_false] at hp ⊢; grind)
        have ht := there_mid (hP.row (g := gd) (x := bxL (dg Bb)) (by simp)) 0 16 (by rw [VI_size, dg_len]; decide)
        refine wpList_store_mid rfl 65 (.tmp 9) (.tmp 41) rfl gd 0 (VI .i64 (dg r3)) rfl rfl (by rw [VI_size, dg_len]; exact ht) (infoNm (dg_len _)) (VI_one _ _) ?_
        have hS := hP.set rfl (by have h1 := ND.out; have h2 := NB.out; simp only [List.mem_cons, List.not_mem_nil, or_false, forall_eq_or_imp, forall_eq] at h2 ⊢; omega) (but_setCells gd ((dg r3).map (Value.int .i64)) 0 Y26) (whole_setN (hP.row (g := gd) (x := bxL (dg Bb)) (by simp)) (by rw [dg_len, dg_len]))
        obtain ⟨Y27, hW⟩ : ∃ W, Y26.setCells gd 0 ((dg r3).map (Value.int .i64)) = W := ⟨_, rfl⟩
        rw [hW] at hS
        rw [show Y26.setCells gd 0 (VI .i64 (dg r3)).toList = Y27 from hW]
        have X27 : Hid (Ev w.heap.size w (.pointer none) [] [(ga, bxL (dg r0)), (gb, bxL (dg r1)), (gc, bxL (dg r2)), (gd, bxL (dg r3)), (gx, bxL (dg x)), (w.heap.size + 1 + 1, bxK (List.replicate 32 0)), (w.heap.size + 1, bxK (u)), (w.heap.size, bxK (c))] Y27) := hS.sub (fun p hp => by simp only [List.mem_cons, List.not_mem_nil, or_false] at hp ⊢; grind)
        clear hS hP ht hW X26
        go_wp2_with (with_reducible refine at_list ?_; first | (refine wpList_load_row rfl 23 (.tmp 2) rfl (w.heap.size) rfl 23 (VI .u8 (c)) (0, 0) _ (X27.out.row (g := w.heap.size) (x := bxK (c)) (by simp)) Try.underlying23 rfl (infoK LC.out) ?_))
        refine (BT.out _).mono ?_
        rintro e Y28 ⟨rfl, hb⟩
        have X28 : Hid (Ev w.heap.size w (.pointer none) [] [(ga, bxL (dg r0)), (gb, bxL (dg r1)), (gc, bxL (dg r2)), (gd, bxL (dg r3)), (gx, bxL (dg x)), (w.heap.size + 1 + 1, bxK (List.replicate 32 0)), (w.heap.size + 1, bxK (u)), (w.heap.size, bxK (c))] Y28) := X27.out.below hb
        clear hb X27 
        go_wp2_with fail
        refine wp_as (c' := rgW14) (by kernel_rfl) ?_
        refine rsh_r14 (dg_len _) (dg_len _) (dg_len _) (dg_len _) ND NB X28.out ?_
        intro Y29 hN
        have X29 : Hid (Ev w.heap.size w (.pointer none) [] [(ga, bxL (dg r2)), (gb, bxL (dg r3)), (gc, bxL (dg r0)), (gd, bxL (dg r1)), (gx, bxL (dg x)), (w.heap.size + 1 + 1, bxK (List.replicate 32 0)), (w.heap.size + 1, bxK (u)), (w.heap.size, bxK (c))] Y29) := hN
        clear hN X28
        go_wp2_with fail
        obtain ⟨e1, e2, e3, e4⟩ := EQ.out
        have HC := HCL.out
        rw [e1, e2, e3, e4] at HC
        obtain ⟨q1, q2, q3, q4⟩ := U_one HG.out HC
        have hti := HT.out
        clear HC e1 e2 e3 e4
        try go_wp2
        go_roundw
        case rel => exact ⟨i + 1, r2, r3, r0, r1, by omega, by go_num, RL.out.2.2.1, RL.out.2.2.2, RL.out.1, RL.out.2.1, q1.symm, q2.symm, q3.symm, q4.symm, X29.out⟩
        case measure => simp [intOf]
    · have hi' : i = 255 := by omega
      subst hi'
      obtain ⟨e1, e2, e3, e4⟩ := EQ.out
      have SHE : Hid (shn k u = A * qwn Bb 5 % P) := by rw [e1, e2]; exact SHN.out
      have CI : Hid (∀ w, Calls Try.prog 36 #[.agg (VI .i64 (dg Bb))] w fun e w' => e = .returned (.agg (VI .i64 (dg (qwn Bb 5)))) ∧ Below w.heap.size w w') := fun w => rinvert_any Bb PA.out.2.1 w
      have CM : Hid (∀ w, Calls Try.prog 35 #[.agg (VI .i64 (dg A)), .agg (VI .i64 (dg (qwn Bb 5)))] w fun e w' => e = .returned (.agg (VI .i64 (dg (A * qwn Bb 5 % P)))) ∧ Below w.heap.size w w') := fun w => rmul_any A _ PA.out.1 (inv_lt Bb) w
      have CE : Hid (∀ w, Calls Try.prog 34 #[.agg (VI .i64 (dg (A * qwn Bb 5 % P)))] w fun e w' => e = .returned (.agg (VI .u8 (bts (A * qwn Bb 5 % P)))) ∧ Below w.heap.size w w') := fun w => rencode_any _ w
      clear e1 e2 e3 e4 EQ SHN
      go_wp2_with fail
      have hP : Ev w.heap.size w (.pointer none) [] ((w.heap.size + 1 + 1, bxK (List.replicate 32 0)) :: [(ga, bxL (dg A)), (gb, bxL (dg Bb)), (gc, bxL (dg C)), (gd, bxL (dg D)), (gx, bxL (dg x)), (w.heap.size + 1, bxK (u)), (w.heap.size, bxK (c))]) wr := HP.out.sub (fun p hp => by simp only [List.mem_cons, List.not_mem_nil, or_false] at hp ⊢; grind)
      have hNE : ∀ p ∈ ([(ga, bxL (dg A)), (gb, bxL (dg Bb)), (gc, bxL (dg C)), (gd, bxL (dg D)), (gx, bxL (dg x)), (w.heap.size + 1, bxK (u)), (w.heap.size, bxK (c))] : List (Nat × Obj)), p.1 ≠ w.heap.size + 1 + 1 := by
        have h1 := NR.out
        simp only [List.mem_cons, List.not_mem_nil, or_false, forall_eq_or_imp, forall_eq]
        omega
      refine wp_as (c' := rgW15) (by kernel_rfl) ?_
      refine rsh_r15 (dg_len _) (dg_len _) (bts_len _) (show Hid ((List.replicate 32 (0 : Int)).length = 32) from List.length_replicate) CI CM CE (by simp) (by simp) hNE hP (fun _ _ d _ _ h => by cases d <;> exact h) ?_
      intro W9 hN
      have XN : Hid _ := hN
      clear hN hP hNE HP
      go_wp2_with fail
      refine bodyPost_ret (v := .agg (VI .u8 (bts (A * qwn Bb 5 % P)))) ?_ rfl ⟨by rw [SHE.out], XN.out.old⟩
      exact results_cell_row (P := Try.prog) (fn := Try.f13) (p := 4) (ty := 23) rfl _ _ (w.heap.size + 1 + 1) 23 (VI .u8 (bts (A * qwn Bb 5 % P))) (0, 0) _ rfl (XN.out.row (g := w.heap.size + 1 + 1) (x := bxK (bts (A * qwn Bb 5 % P))) (by simp)) Try.underlying23 rfl (infoK (bts_len _))
end Go.Proofs.Ytlffamcifahbjaa
