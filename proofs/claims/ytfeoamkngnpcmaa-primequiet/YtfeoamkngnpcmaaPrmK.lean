import Derived.Test.YtfeoamkngnpcmaaPrmV
namespace Go.Proofs.Ytfeoamkngnpcmaa
set_option linter.unusedSimpArgs false
open Go.ChangeShapes Go.WideShapes Go.ChangeAt Go.RowKit Go.Pin Go.Prm
set_option maxRecDepth 100000 in
set_option maxHeartbeats 8000000 in
theorem known_any (w : World) : Calls Try.prog 12 #[] w fun e w' => e = .returned (.bool true) ∧ Below w.heap.size w w' := by
  have R255_255_3 : Hid (∀ w, Calls Try.prog 17 #[.int .u8 255, .int .u8 255, .int .u8 3] w fun e w' => e = .returned (.agg (VI .u8 (rw17 255 255 3))) ∧ Below w.heap.size w w') := fun w => row_any 255 255 3 w
  have R251_255_3 : Hid (∀ w, Calls Try.prog 17 #[.int .u8 251, .int .u8 255, .int .u8 3] w fun e w' => e = .returned (.agg (VI .u8 (rw17 251 255 3))) ∧ Below w.heap.size w w') := fun w => row_any 251 255 3 w
  have R0_0_1 : Hid (∀ w, Calls Try.prog 17 #[.int .u8 0, .int .u8 0, .int .u8 1] w fun e w' => e = .returned (.agg (VI .u8 (rw17 0 0 1))) ∧ Below w.heap.size w w') := fun w => row_any 0 0 1 w
  have R4_0_0 : Hid (∀ w, Calls Try.prog 17 #[.int .u8 4, .int .u8 0, .int .u8 0] w fun e w' => e = .returned (.agg (VI .u8 (rw17 4 0 0))) ∧ Below w.heap.size w w') := fun w => row_any 4 0 0 w
  have R0_0_0 : Hid (∀ w, Calls Try.prog 17 #[.int .u8 0, .int .u8 0, .int .u8 0] w fun e w' => e = .returned (.agg (VI .u8 (rw17 0 0 0))) ∧ Below w.heap.size w w') := fun w => row_any 0 0 0 w
  have R5_0_0 : Hid (∀ w, Calls Try.prog 17 #[.int .u8 5, .int .u8 0, .int .u8 0] w fun e w' => e = .returned (.agg (VI .u8 (rw17 5 0 0))) ∧ Below w.heap.size w w') := fun w => row_any 5 0 0 w
  have R9_0_0 : Hid (∀ w, Calls Try.prog 17 #[.int .u8 9, .int .u8 0, .int .u8 0] w fun e w' => e = .returned (.agg (VI .u8 (rw17 9 0 0))) ∧ Below w.heap.size w w') := fun w => row_any 9 0 0 w
  have Bf : Hid (∀ w, Calls Try.prog 14 #[.agg (VI .u8 (rw17 255 255 3))] w fun e w' => e = .returned (.agg #[.int .u64 67108863, .int .u64 67108863, .int .u64 67108863, .int .u64 67108863, .int .u64 67108863]) ∧ Below w.heap.size w w') := fun w => block_is (x := [67108863, 67108863, 67108863, 67108863, 67108863]) (rw17_key (by decide) (by decide) (by decide) (by decide) (by decide) (by decide)) (by decide +kernel) w
  have Bz : Hid (∀ w, Calls Try.prog 14 #[.agg (VI .u8 (rw17 251 255 3))] w fun e w' => e = .returned (.agg #[.int .u64 67108859, .int .u64 67108863, .int .u64 67108863, .int .u64 67108863, .int .u64 67108863]) ∧ Below w.heap.size w w') := fun w => block_is (x := [67108859, 67108863, 67108863, 67108863, 67108863]) (rw17_key (by decide) (by decide) (by decide) (by decide) (by decide) (by decide)) (by decide +kernel) w
  have Bx : Hid (∀ w, Calls Try.prog 14 #[.agg (VI .u8 (rw17 0 0 1))] w fun e w' => e = .returned (.agg #[.int .u64 0, .int .u64 0, .int .u64 0, .int .u64 0, .int .u64 16777216]) ∧ Below w.heap.size w w') := fun w => block_is (x := [0, 0, 0, 0, 16777216]) (rw17_key (by decide) (by decide) (by decide) (by decide) (by decide) (by decide)) (by decide +kernel) w
  have By : Hid (∀ w, Calls Try.prog 14 #[.agg (VI .u8 (rw17 4 0 0))] w fun e w' => e = .returned (.agg #[.int .u64 4, .int .u64 0, .int .u64 0, .int .u64 0, .int .u64 0]) ∧ Below w.heap.size w w') := fun w => block_is (x := [4, 0, 0, 0, 0]) (rw17_key (by decide) (by decide) (by decide) (by decide) (by decide) (by decide)) (by decide +kernel) w
  have Lf : Hid (Lim [67108863, 67108863, 67108863, 67108863, 67108863]) := lim_of _ _ _ _ _ (by decide)
  have Lz : Hid (Lim [67108859, 67108863, 67108863, 67108863, 67108863]) := lim_of _ _ _ _ _ (by decide)
  have Lx : Hid (Lim [0, 0, 0, 0, 16777216]) := lim_of _ _ _ _ _ (by decide)
  have Ly : Hid (Lim [4, 0, 0, 0, 0]) := lim_of _ _ _ _ _ (by decide)
  have Lv : Hid (Lim [5, 0, 0, 0, 0]) := lim_of _ _ _ _ _ (by decide)
  have Ln : Hid (Lim [9, 0, 0, 0, 0]) := lim_of _ _ _ _ _ (by decide)
  have Lc : Hid (Lim [50331903, 16131, 0, 0, 0]) := lim_of _ _ _ _ _ (by decide)
  have pv : VI .u64 (prod [0, 0, 0, 0, 16777216] [4, 0, 0, 0, 0]) = #[.int .u64 5, .int .u64 0, .int .u64 0, .int .u64 0, .int .u64 0] := by rw [show prod [0, 0, 0, 0, 16777216] [4, 0, 0, 0, 0] = [5, 0, 0, 0, 0] by decide +kernel]; rfl
  have pn : VI .u64 (stl (List.zipWith (· + ·) [67108863, 67108863, 67108863, 67108863, 67108863] [5, 0, 0, 0, 0])) = #[.int .u64 9, .int .u64 0, .int .u64 0, .int .u64 0, .int .u64 0] := by rw [show stl (List.zipWith (· + ·) [67108863, 67108863, 67108863, 67108863, 67108863] [5, 0, 0, 0, 0]) = [9, 0, 0, 0, 0] by decide +kernel]; rfl
  have KK : Key16 [255, 0, 0, 255, 255, 0, 0, 0, 0, 0, 0, 0, 0, 0, 0, 0] := ⟨rfl, by decide⟩
  have KS : Key16 [250, 0, 0, 0, 0, 0, 0, 0, 0, 0, 0, 0, 0, 0, 0, 0] := ⟨rfl, by decide⟩
  have Bc : Hid (∀ w, Calls Try.prog 20 #[.agg #[.int .u8 255, .int .u8 0, .int .u8 0, .int .u8 255, .int .u8 255, .int .u8 0, .int .u8 0, .int .u8 0, .int .u8 0, .int .u8 0, .int .u8 0, .int .u8 0, .int .u8 0, .int .u8 0, .int .u8 0, .int .u8 0]] w fun e w' => e = .returned (.agg #[.int .u64 50331903, .int .u64 16131, .int .u64 0, .int .u64 0, .int .u64 0]) ∧ Below w.heap.size w w') := fun w => clamp_is (x := [50331903, 16131, 0, 0, 0]) KK (by decide +kernel) w
  have Cf : Hid (∀ w, Calls Try.prog 13 #[.agg #[.int .u64 67108863, .int .u64 67108863, .int .u64 67108863, .int .u64 67108863, .int .u64 67108863]] w fun e w' => e = .returned (.agg (VI .u8 (rw17 4 0 0))) ∧ Below w.heap.size w w') := fun w => bytes_is (x := [67108863, 67108863, 67108863, 67108863, 67108863]) Lf.out (by decide +kernel) w
  have Qf : ∀ w, (Op.equalIn 10000 39 (.agg (VI .u8 (rw17 4 0 0))) (.agg (VI .u8 (rw17 4 0 0)))).run Try.prog w = .ok true w := fun w => (eq17 rfl rfl w).trans (by rw [beq_self_eq_true])
  have Cz : Hid (∀ w, Calls Try.prog 13 #[.agg #[.int .u64 67108859, .int .u64 67108863, .int .u64 67108863, .int .u64 67108863, .int .u64 67108863]] w fun e w' => e = .returned (.agg (VI .u8 (rw17 0 0 0))) ∧ Below w.heap.size w w') := fun w => bytes_is (x := [67108859, 67108863, 67108863, 67108863, 67108863]) Lz.out (by decide +kernel) w
  have Qz : ∀ w, (Op.equalIn 10000 39 (.agg (VI .u8 (rw17 0 0 0))) (.agg (VI .u8 (rw17 0 0 0)))).run Try.prog w = .ok true w := fun w => (eq17 rfl rfl w).trans (by rw [beq_self_eq_true])
  have Cv : Hid (∀ w, Calls Try.prog 13 #[.agg #[.int .u64 5, .int .u64 0, .int .u64 0, .int .u64 0, .int .u64 0]] w fun e w' => e = .returned (.agg (VI .u8 (rw17 5 0 0))) ∧ Below w.heap.size w w') := fun w => bytes_is (x := [5, 0, 0, 0, 0]) Lv.out (by decide +kernel) w
  have Qv : ∀ w, (Op.equalIn 10000 39 (.agg (VI .u8 (rw17 5 0 0))) (.agg (VI .u8 (rw17 5 0 0)))).run Try.prog w = .ok true w := fun w => (eq17 rfl rfl w).trans (by rw [beq_self_eq_true])
  have Cn : Hid (∀ w, Calls Try.prog 13 #[.agg #[.int .u64 9, .int .u64 0, .int .u64 0, .int .u64 0, .int .u64 0]] w fun e w' => e = .returned (.agg (VI .u8 (rw17 9 0 0))) ∧ Below w.heap.size w w') := fun w => bytes_is (x := [9, 0, 0, 0, 0]) Ln.out (by decide +kernel) w
  have Qn : ∀ w, (Op.equalIn 10000 39 (.agg (VI .u8 (rw17 9 0 0))) (.agg (VI .u8 (rw17 9 0 0)))).run Try.prog w = .ok true w := fun w => (eq17 rfl rfl w).trans (by rw [beq_self_eq_true])
  have Cc : Hid (∀ w, Calls Try.prog 13 #[.agg #[.int .u64 50331903, .int .u64 16131, .int .u64 0, .int .u64 0, .int .u64 0]] w fun e w' => e = .returned (.agg (VI .u8 [255, 0, 0, 15, 252, 0, 0, 0, 0, 0, 0, 0, 0, 0, 0, 0, 0])) ∧ Below w.heap.size w w') := fun w => bytes_is (x := [50331903, 16131, 0, 0, 0]) Lc.out (by decide +kernel) w
  have Sn : Hid (∀ w, Calls Try.prog 27 #[.agg #[.int .u64 9, .int .u64 0, .int .u64 0, .int .u64 0, .int .u64 0], .agg #[.int .u8 250, .int .u8 0, .int .u8 0, .int .u8 0, .int .u8 0, .int .u8 0, .int .u8 0, .int .u8 0, .int .u8 0, .int .u8 0, .int .u8 0, .int .u8 0, .int .u8 0, .int .u8 0, .int .u8 0, .int .u8 0]] w fun e w' => e = .returned (.agg (VI .u8 [3, 1, 0, 0, 0, 0, 0, 0, 0, 0, 0, 0, 0, 0, 0, 0])) ∧ Below w.heap.size w w') := fun w => sum_is (x := [9, 0, 0, 0, 0]) Ln.out KS (by decide +kernel) w
  clear KK KS
  go_enter Try.func12, Try.ntmps12
  go_wp2_with (fail)
  refine (new_any _).mono ?_
  rintro e w1 ⟨rfl, hw1⟩
  have X1 : Hid (Env w.heap.size w w.heap.size [] [] w1) := by rw [hw1]; exact e_new w
  clear hw1
  obtain ⟨n, hn⟩ : ∃ n, w.heap.size = n := ⟨_, rfl⟩
  rw [hn] at X1
  go_wp2_with (fail)
  refine (R255_255_3.out _).mono ?_
  rintro e w2 ⟨rfl, hb⟩
  have X2 : Hid (Env n w n [] [] w2) := X1.out.below hb
  clear hb X1
  go_wp2_with (fail)
  refine (Bf.out _).mono ?_
  rintro e w3 ⟨rfl, hb⟩
  have X3 : Hid (Env n w n [] [] w3) := X2.out.below hb
  clear hb X2
  go_wp2_with (fail)
  obtain ⟨w4, hW⟩ : ∃ W, w3.alloc (.cells #[.int .u64 67108863, .int .u64 67108863, .int .u64 67108863, .int .u64 67108863, .int .u64 67108863] 29) = W := ⟨_, rfl⟩
  have hN := X3.out.new (.cells #[.int .u64 67108863, .int .u64 67108863, .int .u64 67108863, .int .u64 67108863, .int .u64 67108863] 29)
  rw [hW] at hN ⊢
  clear hW
  obtain ⟨gf, hg⟩ : ∃ g, w3.heap.size = g := ⟨_, rfl⟩
  rw [hg] at hN
  simp only [hg]
  clear hg
  have X4 : Hid (Env n w n [] [(gf, .cells #[.int .u64 67108863, .int .u64 67108863, .int .u64 67108863, .int .u64 67108863, .int .u64 67108863] 29)] w4) := hN
  clear hN X3
  refine (R251_255_3.out _).mono ?_
  rintro e w5 ⟨rfl, hb⟩
  have X5 : Hid (Env n w n [] [(gf, .cells #[.int .u64 67108863, .int .u64 67108863, .int .u64 67108863, .int .u64 67108863, .int .u64 67108863] 29)] w5) := X4.out.below hb
  clear hb X4
  go_wp2_with (fail)
  refine (Bz.out _).mono ?_
  rintro e w6 ⟨rfl, hb⟩
  have X6 : Hid (Env n w n [] [(gf, .cells #[.int .u64 67108863, .int .u64 67108863, .int .u64 67108863, .int .u64 67108863, .int .u64 67108863] 29)] w6) := X5.out.below hb
  clear hb X5
  go_wp2_with (fail)
  obtain ⟨w7, hW⟩ : ∃ W, w6.alloc (.cells #[.int .u64 67108859, .int .u64 67108863, .int .u64 67108863, .int .u64 67108863, .int .u64 67108863] 29) = W := ⟨_, rfl⟩
  have hN := X6.out.new (.cells #[.int .u64 67108859, .int .u64 67108863, .int .u64 67108863, .int .u64 67108863, .int .u64 67108863] 29)
  rw [hW] at hN ⊢
  clear hW
  obtain ⟨gz, hg⟩ : ∃ g, w6.heap.size = g := ⟨_, rfl⟩
  rw [hg] at hN
  simp only [hg]
  clear hg
  have X7 : Hid (Env n w n [] [(gz, .cells #[.int .u64 67108859, .int .u64 67108863, .int .u64 67108863, .int .u64 67108863, .int .u64 67108863] 29), (gf, .cells #[.int .u64 67108863, .int .u64 67108863, .int .u64 67108863, .int .u64 67108863, .int .u64 67108863] 29)] w7) := hN
  clear hN X6
  refine (R0_0_1.out _).mono ?_
  rintro e w8 ⟨rfl, hb⟩
  have X8 : Hid (Env n w n [] [(gz, .cells #[.int .u64 67108859, .int .u64 67108863, .int .u64 67108863, .int .u64 67108863, .int .u64 67108863] 29), (gf, .cells #[.int .u64 67108863, .int .u64 67108863, .int .u64 67108863, .int .u64 67108863, .int .u64 67108863] 29)] w8) := X7.out.below hb
  clear hb X7
  go_wp2_with (fail)
  refine (Bx.out _).mono ?_
  rintro e w9 ⟨rfl, hb⟩
  have X9 : Hid (Env n w n [] [(gz, .cells #[.int .u64 67108859, .int .u64 67108863, .int .u64 67108863, .int .u64 67108863, .int .u64 67108863] 29), (gf, .cells #[.int .u64 67108863, .int .u64 67108863, .int .u64 67108863, .int .u64 67108863, .int .u64 67108863] 29)] w9) := X8.out.below hb
  clear hb X8
  go_wp2_with (fail)
  refine (R4_0_0.out _).mono ?_
  rintro e w10 ⟨rfl, hb⟩
  have X10 : Hid (Env n w n [] [(gz, .cells #[.int .u64 67108859, .int .u64 67108863, .int .u64 67108863, .int .u64 67108863, .int .u64 67108863] 29), (gf, .cells #[.int .u64 67108863, .int .u64 67108863, .int .u64 67108863, .int .u64 67108863, .int .u64 67108863] 29)] w10) := X9.out.below hb
  clear hb X9
  go_wp2_with (fail)
  refine (By.out _).mono ?_
  rintro e w11 ⟨rfl, hb⟩
  have X11 : Hid (Env n w n [] [(gz, .cells #[.int .u64 67108859, .int .u64 67108863, .int .u64 67108863, .int .u64 67108863, .int .u64 67108863] 29), (gf, .cells #[.int .u64 67108863, .int .u64 67108863, .int .u64 67108863, .int .u64 67108863, .int .u64 67108863] 29)] w11) := X10.out.below hb
  clear hb X10
  go_wp2_with (fail)
  have hC := e_mul X11.out (by simp) Lx.out Ly.out
  rw [pv] at hC
  refine hC.mono ?_
  clear hC
  rintro e w12 ⟨rfl, hb⟩
  have X12 : Hid (Env n w n [(3, 12)] [(gz, .cells #[.int .u64 67108859, .int .u64 67108863, .int .u64 67108863, .int .u64 67108863, .int .u64 67108863] 29), (gf, .cells #[.int .u64 67108863, .int .u64 67108863, .int .u64 67108863, .int .u64 67108863, .int .u64 67108863] 29)] w12) := hb
  clear hb X11
  obtain ⟨c00, c01, c02, c03, c04⟩ := cells5 (x0 := 67108863) (x1 := 67108863) (x2 := 67108863) (x3 := 67108863) (x4 := 67108863) (X12.out.row (g := gf) (x := .cells #[.int .u64 67108863, .int .u64 67108863, .int .u64 67108863, .int .u64 67108863, .int .u64 67108863] 29) (by simp))
  have k0 := X12.out.lt (g := gf) (x := .cells #[.int .u64 67108863, .int .u64 67108863, .int .u64 67108863, .int .u64 67108863, .int .u64 67108863] 29) (by simp)
  go_wp2_with (fail)
  obtain ⟨w13, hW⟩ : ∃ W, w12.alloc (.cells #[.int .u64 5, .int .u64 0, .int .u64 0, .int .u64 0, .int .u64 0] 29) = W := ⟨_, rfl⟩
  have hN := X12.out.new (.cells #[.int .u64 5, .int .u64 0, .int .u64 0, .int .u64 0, .int .u64 0] 29)
  rw [hW] at hN ⊢
  clear hW
  obtain ⟨gv, hg⟩ : ∃ g, w12.heap.size = g := ⟨_, rfl⟩
  rw [hg] at hN
  simp only [hg]
  clear hg
  have X13 : Hid (Env n w n [(3, 12)] [(gv, .cells #[.int .u64 5, .int .u64 0, .int .u64 0, .int .u64 0, .int .u64 0] 29), (gz, .cells #[.int .u64 67108859, .int .u64 67108863, .int .u64 67108863, .int .u64 67108863, .int .u64 67108863] 29), (gf, .cells #[.int .u64 67108863, .int .u64 67108863, .int .u64 67108863, .int .u64 67108863, .int .u64 67108863] 29)] w13) := hN
  clear hN X12
  clear c00 c01 c02 c03 c04 k0
  obtain ⟨c00, c01, c02, c03, c04⟩ := cells5 (x0 := 67108863) (x1 := 67108863) (x2 := 67108863) (x3 := 67108863) (x4 := 67108863) (X13.out.row (g := gf) (x := .cells #[.int .u64 67108863, .int .u64 67108863, .int .u64 67108863, .int .u64 67108863, .int .u64 67108863] 29) (by simp))
  have k0 := X13.out.lt (g := gf) (x := .cells #[.int .u64 67108863, .int .u64 67108863, .int .u64 67108863, .int .u64 67108863, .int .u64 67108863] 29) (by simp)
  obtain ⟨c10, c11, c12, c13, c14⟩ := cells5 (x0 := 5) (x1 := 0) (x2 := 0) (x3 := 0) (x4 := 0) (X13.out.row (g := gv) (x := .cells #[.int .u64 5, .int .u64 0, .int .u64 0, .int .u64 0, .int .u64 0] 29) (by simp))
  have k1 := X13.out.lt (g := gv) (x := .cells #[.int .u64 5, .int .u64 0, .int .u64 0, .int .u64 0, .int .u64 0] 29) (by simp)
  go_wp2_with (fail)
  clear c00 c01 c02 c03 c04 k0
  clear c10 c11 c12 c13 c14 k1
  have hC := e_add X13.out (by simp) Lf.out Lv.out
  rw [pn] at hC
  refine hC.mono ?_
  clear hC
  rintro e w14 ⟨rfl, hb⟩
  have X14 : Hid (Env n w n [(3, 12), (3, 11)] [(gv, .cells #[.int .u64 5, .int .u64 0, .int .u64 0, .int .u64 0, .int .u64 0] 29), (gz, .cells #[.int .u64 67108859, .int .u64 67108863, .int .u64 67108863, .int .u64 67108863, .int .u64 67108863] 29), (gf, .cells #[.int .u64 67108863, .int .u64 67108863, .int .u64 67108863, .int .u64 67108863, .int .u64 67108863] 29)] w14) := hb
  clear hb X13
  go_wp2_with (fail)
  obtain ⟨w15, hW⟩ : ∃ W, w14.alloc (.cells #[.int .u64 9, .int .u64 0, .int .u64 0, .int .u64 0, .int .u64 0] 29) = W := ⟨_, rfl⟩
  have hN := X14.out.new (.cells #[.int .u64 9, .int .u64 0, .int .u64 0, .int .u64 0, .int .u64 0] 29)
  rw [hW] at hN ⊢
  clear hW
  obtain ⟨gn, hg⟩ : ∃ g, w14.heap.size = g := ⟨_, rfl⟩
  rw [hg] at hN
  simp only [hg]
  clear hg
  have X15 : Hid (Env n w n [(3, 12), (3, 11)] [(gn, .cells #[.int .u64 9, .int .u64 0, .int .u64 0, .int .u64 0, .int .u64 0] 29), (gv, .cells #[.int .u64 5, .int .u64 0, .int .u64 0, .int .u64 0, .int .u64 0] 29), (gz, .cells #[.int .u64 67108859, .int .u64 67108863, .int .u64 67108863, .int .u64 67108863, .int .u64 67108863] 29), (gf, .cells #[.int .u64 67108863, .int .u64 67108863, .int .u64 67108863, .int .u64 67108863, .int .u64 67108863] 29)] w15) := hN
  clear hN X14
  go_wp2_with (fail)
  refine (Bc.out _).mono ?_
  rintro e w16 ⟨rfl, hb⟩
  have X16 : Hid (Env n w n [(3, 12), (3, 11)] [(gn, .cells #[.int .u64 9, .int .u64 0, .int .u64 0, .int .u64 0, .int .u64 0] 29), (gv, .cells #[.int .u64 5, .int .u64 0, .int .u64 0, .int .u64 0, .int .u64 0] 29), (gz, .cells #[.int .u64 67108859, .int .u64 67108863, .int .u64 67108863, .int .u64 67108863, .int .u64 67108863] 29), (gf, .cells #[.int .u64 67108863, .int .u64 67108863, .int .u64 67108863, .int .u64 67108863, .int .u64 67108863] 29)] w16) := X15.out.below hb
  clear hb X15
  go_wp2_with (fail)
  obtain ⟨w17, hW⟩ : ∃ W, w16.alloc (.cells #[.int .u64 50331903, .int .u64 16131, .int .u64 0, .int .u64 0, .int .u64 0] 29) = W := ⟨_, rfl⟩
  have hN := X16.out.new (.cells #[.int .u64 50331903, .int .u64 16131, .int .u64 0, .int .u64 0, .int .u64 0] 29)
  rw [hW] at hN ⊢
  clear hW
  obtain ⟨gc, hg⟩ : ∃ g, w16.heap.size = g := ⟨_, rfl⟩
  rw [hg] at hN
  simp only [hg]
  clear hg
  have X17 : Hid (Env n w n [(3, 12), (3, 11)] [(gc, .cells #[.int .u64 50331903, .int .u64 16131, .int .u64 0, .int .u64 0, .int .u64 0] 29), (gn, .cells #[.int .u64 9, .int .u64 0, .int .u64 0, .int .u64 0, .int .u64 0] 29), (gv, .cells #[.int .u64 5, .int .u64 0, .int .u64 0, .int .u64 0, .int .u64 0] 29), (gz, .cells #[.int .u64 67108859, .int .u64 67108863, .int .u64 67108863, .int .u64 67108863, .int .u64 67108863] 29), (gf, .cells #[.int .u64 67108863, .int .u64 67108863, .int .u64 67108863, .int .u64 67108863, .int .u64 67108863] 29)] w17) := hN
  clear hN X16
  obtain ⟨c00, c01, c02, c03, c04⟩ := cells5 (x0 := 50331903) (x1 := 16131) (x2 := 0) (x3 := 0) (x4 := 0) (X17.out.row (g := gc) (x := .cells #[.int .u64 50331903, .int .u64 16131, .int .u64 0, .int .u64 0, .int .u64 0] 29) (by simp))
  have k0 := X17.out.lt (g := gc) (x := .cells #[.int .u64 50331903, .int .u64 16131, .int .u64 0, .int .u64 0, .int .u64 0] 29) (by simp)
  go_wp2_with (fail)
  clear c00 c01 c02 c03 c04 k0
  refine (Cc.out _).mono ?_
  rintro e w18 ⟨rfl, hb⟩
  have X18 : Hid (Env n w n [(3, 12), (3, 11)] [(gc, .cells #[.int .u64 50331903, .int .u64 16131, .int .u64 0, .int .u64 0, .int .u64 0] 29), (gn, .cells #[.int .u64 9, .int .u64 0, .int .u64 0, .int .u64 0, .int .u64 0] 29), (gv, .cells #[.int .u64 5, .int .u64 0, .int .u64 0, .int .u64 0, .int .u64 0] 29), (gz, .cells #[.int .u64 67108859, .int .u64 67108863, .int .u64 67108863, .int .u64 67108863, .int .u64 67108863] 29), (gf, .cells #[.int .u64 67108863, .int .u64 67108863, .int .u64 67108863, .int .u64 67108863, .int .u64 67108863] 29)] w18) := X17.out.below hb
  clear hb X17
  go_wp2_with (with_reducible refine at_list ?_; refine hold_store 39 (.tmp 7) (.tmp 27) rfl ?_)
  refine store_row_new rfl 39 (.tmp 7) (.tmp 27) rfl w18.heap.size (VI .u8 [255, 0, 0, 15, 252, 0, 0, 0, 0, 0, 0, 0, 0, 0, 0, 0, 0]) rfl rfl rfl 39 (VI .u8 (List.replicate 17 0)) info17 rfl (VI_one _ _) ?_
  obtain ⟨w19, hW⟩ : ∃ W, w18.alloc (.cells (VI .u8 [255, 0, 0, 15, 252, 0, 0, 0, 0, 0, 0, 0, 0, 0, 0, 0, 0]) 39) = W := ⟨_, rfl⟩
  have hN := X18.out.new (.cells (VI .u8 [255, 0, 0, 15, 252, 0, 0, 0, 0, 0, 0, 0, 0, 0, 0, 0, 0]) 39)
  rw [hW] at hN ⊢
  clear hW
  obtain ⟨gb, hg⟩ : ∃ g, w18.heap.size = g := ⟨_, rfl⟩
  rw [hg] at hN
  simp only [hg]
  clear hg
  have X19 : Hid (Env n w n [(3, 12), (3, 11)] [(gb, .cells (VI .u8 [255, 0, 0, 15, 252, 0, 0, 0, 0, 0, 0, 0, 0, 0, 0, 0, 0]) 39), (gc, .cells #[.int .u64 50331903, .int .u64 16131, .int .u64 0, .int .u64 0, .int .u64 0] 29), (gn, .cells #[.int .u64 9, .int .u64 0, .int .u64 0, .int .u64 0, .int .u64 0] 29), (gv, .cells #[.int .u64 5, .int .u64 0, .int .u64 0, .int .u64 0, .int .u64 0] 29), (gz, .cells #[.int .u64 67108859, .int .u64 67108863, .int .u64 67108863, .int .u64 67108863, .int .u64 67108863] 29), (gf, .cells #[.int .u64 67108863, .int .u64 67108863, .int .u64 67108863, .int .u64 67108863, .int .u64 67108863] 29)] w19) := hN
  clear hN X18
  obtain ⟨c00, c01, c02, c03, c04⟩ := cells5 (x0 := 9) (x1 := 0) (x2 := 0) (x3 := 0) (x4 := 0) (X19.out.row (g := gn) (x := .cells #[.int .u64 9, .int .u64 0, .int .u64 0, .int .u64 0, .int .u64 0] 29) (by simp))
  have k0 := X19.out.lt (g := gn) (x := .cells #[.int .u64 9, .int .u64 0, .int .u64 0, .int .u64 0, .int .u64 0] 29) (by simp)
  go_wp2_with (fail)
  clear c00 c01 c02 c03 c04 k0
  refine (Sn.out _).mono ?_
  rintro e w20 ⟨rfl, hb⟩
  have X20 : Hid (Env n w n [(3, 12), (3, 11)] [(gb, .cells (VI .u8 [255, 0, 0, 15, 252, 0, 0, 0, 0, 0, 0, 0, 0, 0, 0, 0, 0]) 39), (gc, .cells #[.int .u64 50331903, .int .u64 16131, .int .u64 0, .int .u64 0, .int .u64 0] 29), (gn, .cells #[.int .u64 9, .int .u64 0, .int .u64 0, .int .u64 0, .int .u64 0] 29), (gv, .cells #[.int .u64 5, .int .u64 0, .int .u64 0, .int .u64 0, .int .u64 0] 29), (gz, .cells #[.int .u64 67108859, .int .u64 67108863, .int .u64 67108863, .int .u64 67108863, .int .u64 67108863] 29), (gf, .cells #[.int .u64 67108863, .int .u64 67108863, .int .u64 67108863, .int .u64 67108863, .int .u64 67108863] 29)] w20) := X19.out.below hb
  clear hb X19
  go_wp2_with (with_reducible refine at_list ?_; refine hold_store 67 (.tmp 8) (.tmp 30) rfl ?_)
  refine store_row_new rfl 67 (.tmp 8) (.tmp 30) rfl w20.heap.size (VI .u8 [3, 1, 0, 0, 0, 0, 0, 0, 0, 0, 0, 0, 0, 0, 0, 0]) rfl rfl rfl 67 (VI .u8 (List.replicate 16 0)) infoT16 rfl (VI_one _ _) ?_
  obtain ⟨w21, hW⟩ : ∃ W, w20.alloc (.cells (VI .u8 [3, 1, 0, 0, 0, 0, 0, 0, 0, 0, 0, 0, 0, 0, 0, 0]) 67) = W := ⟨_, rfl⟩
  have hN := X20.out.new (.cells (VI .u8 [3, 1, 0, 0, 0, 0, 0, 0, 0, 0, 0, 0, 0, 0, 0, 0]) 67)
  rw [hW] at hN ⊢
  clear hW
  obtain ⟨gs, hg⟩ : ∃ g, w20.heap.size = g := ⟨_, rfl⟩
  rw [hg] at hN
  simp only [hg]
  clear hg
  have X21 : Hid (Env n w n [(3, 12), (3, 11)] [(gs, .cells (VI .u8 [3, 1, 0, 0, 0, 0, 0, 0, 0, 0, 0, 0, 0, 0, 0, 0]) 67), (gb, .cells (VI .u8 [255, 0, 0, 15, 252, 0, 0, 0, 0, 0, 0, 0, 0, 0, 0, 0, 0]) 39), (gc, .cells #[.int .u64 50331903, .int .u64 16131, .int .u64 0, .int .u64 0, .int .u64 0] 29), (gn, .cells #[.int .u64 9, .int .u64 0, .int .u64 0, .int .u64 0, .int .u64 0] 29), (gv, .cells #[.int .u64 5, .int .u64 0, .int .u64 0, .int .u64 0, .int .u64 0] 29), (gz, .cells #[.int .u64 67108859, .int .u64 67108863, .int .u64 67108863, .int .u64 67108863, .int .u64 67108863] 29), (gf, .cells #[.int .u64 67108863, .int .u64 67108863, .int .u64 67108863, .int .u64 67108863, .int .u64 67108863] 29)] w21) := hN
  clear hN X20
  obtain ⟨c00, c01, c02, c03, c04⟩ := cells5 (x0 := 67108863) (x1 := 67108863) (x2 := 67108863) (x3 := 67108863) (x4 := 67108863) (X21.out.row (g := gf) (x := .cells #[.int .u64 67108863, .int .u64 67108863, .int .u64 67108863, .int .u64 67108863, .int .u64 67108863] 29) (by simp))
  have k0 := X21.out.lt (g := gf) (x := .cells #[.int .u64 67108863, .int .u64 67108863, .int .u64 67108863, .int .u64 67108863, .int .u64 67108863] 29) (by simp)
  go_wp2_with (fail)
  clear c00 c01 c02 c03 c04 k0
  refine (Cf.out _).mono ?_
  rintro e w22 ⟨rfl, hb⟩
  have X22 : Hid (Env n w n [(3, 12), (3, 11)] [(gs, .cells (VI .u8 [3, 1, 0, 0, 0, 0, 0, 0, 0, 0, 0, 0, 0, 0, 0, 0]) 67), (gb, .cells (VI .u8 [255, 0, 0, 15, 252, 0, 0, 0, 0, 0, 0, 0, 0, 0, 0, 0, 0]) 39), (gc, .cells #[.int .u64 50331903, .int .u64 16131, .int .u64 0, .int .u64 0, .int .u64 0] 29), (gn, .cells #[.int .u64 9, .int .u64 0, .int .u64 0, .int .u64 0, .int .u64 0] 29), (gv, .cells #[.int .u64 5, .int .u64 0, .int .u64 0, .int .u64 0, .int .u64 0] 29), (gz, .cells #[.int .u64 67108859, .int .u64 67108863, .int .u64 67108863, .int .u64 67108863, .int .u64 67108863] 29), (gf, .cells #[.int .u64 67108863, .int .u64 67108863, .int .u64 67108863, .int .u64 67108863, .int .u64 67108863] 29)] w22) := X21.out.below hb
  clear hb X21
  go_wp2_with (fail)
  refine (R4_0_0.out _).mono ?_
  rintro e w23 ⟨rfl, hb⟩
  have X23 : Hid (Env n w n [(3, 12), (3, 11)] [(gs, .cells (VI .u8 [3, 1, 0, 0, 0, 0, 0, 0, 0, 0, 0, 0, 0, 0, 0, 0]) 67), (gb, .cells (VI .u8 [255, 0, 0, 15, 252, 0, 0, 0, 0, 0, 0, 0, 0, 0, 0, 0, 0]) 39), (gc, .cells #[.int .u64 50331903, .int .u64 16131, .int .u64 0, .int .u64 0, .int .u64 0] 29), (gn, .cells #[.int .u64 9, .int .u64 0, .int .u64 0, .int .u64 0, .int .u64 0] 29), (gv, .cells #[.int .u64 5, .int .u64 0, .int .u64 0, .int .u64 0, .int .u64 0] 29), (gz, .cells #[.int .u64 67108859, .int .u64 67108863, .int .u64 67108863, .int .u64 67108863, .int .u64 67108863] 29), (gf, .cells #[.int .u64 67108863, .int .u64 67108863, .int .u64 67108863, .int .u64 67108863, .int .u64 67108863] 29)] w23) := X22.out.below hb
  clear hb X22
  obtain ⟨c00, c01, c02, c03, c04⟩ := cells5 (x0 := 67108859) (x1 := 67108863) (x2 := 67108863) (x3 := 67108863) (x4 := 67108863) (X23.out.row (g := gz) (x := .cells #[.int .u64 67108859, .int .u64 67108863, .int .u64 67108863, .int .u64 67108863, .int .u64 67108863] 29) (by simp))
  have k0 := X23.out.lt (g := gz) (x := .cells #[.int .u64 67108859, .int .u64 67108863, .int .u64 67108863, .int .u64 67108863, .int .u64 67108863] 29) (by simp)
  go_wp2_with (fail)
  clear c00 c01 c02 c03 c04 k0
  refine (Cz.out _).mono ?_
  rintro e w24 ⟨rfl, hb⟩
  have X24 : Hid (Env n w n [(3, 12), (3, 11)] [(gs, .cells (VI .u8 [3, 1, 0, 0, 0, 0, 0, 0, 0, 0, 0, 0, 0, 0, 0, 0]) 67), (gb, .cells (VI .u8 [255, 0, 0, 15, 252, 0, 0, 0, 0, 0, 0, 0, 0, 0, 0, 0, 0]) 39), (gc, .cells #[.int .u64 50331903, .int .u64 16131, .int .u64 0, .int .u64 0, .int .u64 0] 29), (gn, .cells #[.int .u64 9, .int .u64 0, .int .u64 0, .int .u64 0, .int .u64 0] 29), (gv, .cells #[.int .u64 5, .int .u64 0, .int .u64 0, .int .u64 0, .int .u64 0] 29), (gz, .cells #[.int .u64 67108859, .int .u64 67108863, .int .u64 67108863, .int .u64 67108863, .int .u64 67108863] 29), (gf, .cells #[.int .u64 67108863, .int .u64 67108863, .int .u64 67108863, .int .u64 67108863, .int .u64 67108863] 29)] w24) := X23.out.below hb
  clear hb X23
  go_wp2_with (fail)
  refine (R0_0_0.out _).mono ?_
  rintro e w25 ⟨rfl, hb⟩
  have X25 : Hid (Env n w n [(3, 12), (3, 11)] [(gs, .cells (VI .u8 [3, 1, 0, 0, 0, 0, 0, 0, 0, 0, 0, 0, 0, 0, 0, 0]) 67), (gb, .cells (VI .u8 [255, 0, 0, 15, 252, 0, 0, 0, 0, 0, 0, 0, 0, 0, 0, 0, 0]) 39), (gc, .cells #[.int .u64 50331903, .int .u64 16131, .int .u64 0, .int .u64 0, .int .u64 0] 29), (gn, .cells #[.int .u64 9, .int .u64 0, .int .u64 0, .int .u64 0, .int .u64 0] 29), (gv, .cells #[.int .u64 5, .int .u64 0, .int .u64 0, .int .u64 0, .int .u64 0] 29), (gz, .cells #[.int .u64 67108859, .int .u64 67108863, .int .u64 67108863, .int .u64 67108863, .int .u64 67108863] 29), (gf, .cells #[.int .u64 67108863, .int .u64 67108863, .int .u64 67108863, .int .u64 67108863, .int .u64 67108863] 29)] w25) := X24.out.below hb
  clear hb X24
  obtain ⟨c00, c01, c02, c03, c04⟩ := cells5 (x0 := 5) (x1 := 0) (x2 := 0) (x3 := 0) (x4 := 0) (X25.out.row (g := gv) (x := .cells #[.int .u64 5, .int .u64 0, .int .u64 0, .int .u64 0, .int .u64 0] 29) (by simp))
  have k0 := X25.out.lt (g := gv) (x := .cells #[.int .u64 5, .int .u64 0, .int .u64 0, .int .u64 0, .int .u64 0] 29) (by simp)
  go_wp2_with (fail)
  clear c00 c01 c02 c03 c04 k0
  refine (Cv.out _).mono ?_
  rintro e w26 ⟨rfl, hb⟩
  have X26 : Hid (Env n w n [(3, 12), (3, 11)] [(gs, .cells (VI .u8 [3, 1, 0, 0, 0, 0, 0, 0, 0, 0, 0, 0, 0, 0, 0, 0]) 67), (gb, .cells (VI .u8 [255, 0, 0, 15, 252, 0, 0, 0, 0, 0, 0, 0, 0, 0, 0, 0, 0]) 39), (gc, .cells #[.int .u64 50331903, .int .u64 16131, .int .u64 0, .int .u64 0, .int .u64 0] 29), (gn, .cells #[.int .u64 9, .int .u64 0, .int .u64 0, .int .u64 0, .int .u64 0] 29), (gv, .cells #[.int .u64 5, .int .u64 0, .int .u64 0, .int .u64 0, .int .u64 0] 29), (gz, .cells #[.int .u64 67108859, .int .u64 67108863, .int .u64 67108863, .int .u64 67108863, .int .u64 67108863] 29), (gf, .cells #[.int .u64 67108863, .int .u64 67108863, .int .u64 67108863, .int .u64 67108863, .int .u64 67108863] 29)] w26) := X25.out.below hb
  clear hb X25
  go_wp2_with (fail)
  refine (R5_0_0.out _).mono ?_
  rintro e w27 ⟨rfl, hb⟩
  have X27 : Hid (Env n w n [(3, 12), (3, 11)] [(gs, .cells (VI .u8 [3, 1, 0, 0, 0, 0, 0, 0, 0, 0, 0, 0, 0, 0, 0, 0]) 67), (gb, .cells (VI .u8 [255, 0, 0, 15, 252, 0, 0, 0, 0, 0, 0, 0, 0, 0, 0, 0, 0]) 39), (gc, .cells #[.int .u64 50331903, .int .u64 16131, .int .u64 0, .int .u64 0, .int .u64 0] 29), (gn, .cells #[.int .u64 9, .int .u64 0, .int .u64 0, .int .u64 0, .int .u64 0] 29), (gv, .cells #[.int .u64 5, .int .u64 0, .int .u64 0, .int .u64 0, .int .u64 0] 29), (gz, .cells #[.int .u64 67108859, .int .u64 67108863, .int .u64 67108863, .int .u64 67108863, .int .u64 67108863] 29), (gf, .cells #[.int .u64 67108863, .int .u64 67108863, .int .u64 67108863, .int .u64 67108863, .int .u64 67108863] 29)] w27) := X26.out.below hb
  clear hb X26
  obtain ⟨c00, c01, c02, c03, c04⟩ := cells5 (x0 := 9) (x1 := 0) (x2 := 0) (x3 := 0) (x4 := 0) (X27.out.row (g := gn) (x := .cells #[.int .u64 9, .int .u64 0, .int .u64 0, .int .u64 0, .int .u64 0] 29) (by simp))
  have k0 := X27.out.lt (g := gn) (x := .cells #[.int .u64 9, .int .u64 0, .int .u64 0, .int .u64 0, .int .u64 0] 29) (by simp)
  go_wp2_with (fail)
  clear c00 c01 c02 c03 c04 k0
  refine (Cn.out _).mono ?_
  rintro e w28 ⟨rfl, hb⟩
  have X28 : Hid (Env n w n [(3, 12), (3, 11)] [(gs, .cells (VI .u8 [3, 1, 0, 0, 0, 0, 0, 0, 0, 0, 0, 0, 0, 0, 0, 0]) 67), (gb, .cells (VI .u8 [255, 0, 0, 15, 252, 0, 0, 0, 0, 0, 0, 0, 0, 0, 0, 0, 0]) 39), (gc, .cells #[.int .u64 50331903, .int .u64 16131, .int .u64 0, .int .u64 0, .int .u64 0] 29), (gn, .cells #[.int .u64 9, .int .u64 0, .int .u64 0, .int .u64 0, .int .u64 0] 29), (gv, .cells #[.int .u64 5, .int .u64 0, .int .u64 0, .int .u64 0, .int .u64 0] 29), (gz, .cells #[.int .u64 67108859, .int .u64 67108863, .int .u64 67108863, .int .u64 67108863, .int .u64 67108863] 29), (gf, .cells #[.int .u64 67108863, .int .u64 67108863, .int .u64 67108863, .int .u64 67108863, .int .u64 67108863] 29)] w28) := X27.out.below hb
  clear hb X27
  go_wp2_with (fail)
  refine (R9_0_0.out _).mono ?_
  rintro e w29 ⟨rfl, hb⟩
  have X29 : Hid (Env n w n [(3, 12), (3, 11)] [(gs, .cells (VI .u8 [3, 1, 0, 0, 0, 0, 0, 0, 0, 0, 0, 0, 0, 0, 0, 0]) 67), (gb, .cells (VI .u8 [255, 0, 0, 15, 252, 0, 0, 0, 0, 0, 0, 0, 0, 0, 0, 0, 0]) 39), (gc, .cells #[.int .u64 50331903, .int .u64 16131, .int .u64 0, .int .u64 0, .int .u64 0] 29), (gn, .cells #[.int .u64 9, .int .u64 0, .int .u64 0, .int .u64 0, .int .u64 0] 29), (gv, .cells #[.int .u64 5, .int .u64 0, .int .u64 0, .int .u64 0, .int .u64 0] 29), (gz, .cells #[.int .u64 67108859, .int .u64 67108863, .int .u64 67108863, .int .u64 67108863, .int .u64 67108863] 29), (gf, .cells #[.int .u64 67108863, .int .u64 67108863, .int .u64 67108863, .int .u64 67108863, .int .u64 67108863] 29)] w29) := X28.out.below hb
  clear hb X28
  have d0 : w29.cell? ⟨gb, 0, none⟩ = some (.int .u8 255) := by have := rowB_cell (w := w29) (g := gb) (l := [255, 0, 0, 15, 252, 0, 0, 0, 0, 0, 0, 0, 0, 0, 0, 0, 0]) (T := 39) (X29.out.row (x := .cells (VI .u8 [255, 0, 0, 15, 252, 0, 0, 0, 0, 0, 0, 0, 0, 0, 0, 0, 0]) 39) (by simp)) (i := 0) (by decide); exact this
  have d3 : w29.cell? ⟨gb, 3, none⟩ = some (.int .u8 15) := by have := rowB_cell (w := w29) (g := gb) (l := [255, 0, 0, 15, 252, 0, 0, 0, 0, 0, 0, 0, 0, 0, 0, 0, 0]) (T := 39) (X29.out.row (x := .cells (VI .u8 [255, 0, 0, 15, 252, 0, 0, 0, 0, 0, 0, 0, 0, 0, 0, 0, 0]) 39) (by simp)) (i := 3) (by decide); exact this
  have d4 : w29.cell? ⟨gb, 4, none⟩ = some (.int .u8 252) := by have := rowB_cell (w := w29) (g := gb) (l := [255, 0, 0, 15, 252, 0, 0, 0, 0, 0, 0, 0, 0, 0, 0, 0, 0]) (T := 39) (X29.out.row (x := .cells (VI .u8 [255, 0, 0, 15, 252, 0, 0, 0, 0, 0, 0, 0, 0, 0, 0, 0, 0]) 39) (by simp)) (i := 4) (by decide); exact this
  have s0 : w29.cell? ⟨gs, 0, none⟩ = some (.int .u8 3) := by have := rowB_cell (w := w29) (g := gs) (l := [3, 1, 0, 0, 0, 0, 0, 0, 0, 0, 0, 0, 0, 0, 0, 0]) (T := 67) (X29.out.row (x := .cells (VI .u8 [3, 1, 0, 0, 0, 0, 0, 0, 0, 0, 0, 0, 0, 0, 0, 0]) 67) (by simp)) (i := 0) (by decide); exact this
  have s1 : w29.cell? ⟨gs, 1, none⟩ = some (.int .u8 1) := by have := rowB_cell (w := w29) (g := gs) (l := [3, 1, 0, 0, 0, 0, 0, 0, 0, 0, 0, 0, 0, 0, 0, 0]) (T := 67) (X29.out.row (x := .cells (VI .u8 [3, 1, 0, 0, 0, 0, 0, 0, 0, 0, 0, 0, 0, 0, 0, 0]) 67) (by simp)) (i := 1) (by decide); exact this
  go_wp2_with (fail)
  clear d0 d3 d4 s0 s1
  refine (e_total X29.out).mono ?_
  rintro e z7 ⟨rfl, hz⟩
  obtain rfl := hz
  go_wp2
  go_ret
  exact ⟨rfl, hn ▸ X29.out.old⟩
end Go.Proofs.Ytfeoamkngnpcmaa
