import Derived.Test.YtlffamcifahbjaaCrvX
import Derived.Test.YtlffamcifahbjaaCrvN
import Derived.Test.YtlffamcifahbjaaFldH
namespace Go.Proofs.Ytlffamcifahbjaa
set_option linter.unusedSimpArgs false
set_option linter.unusedVariables false
open Go.ChangeShapes Go.WideShapes Go.ChangeAt Go.RowKit Go.Pin Go.Fld
set_option maxRecDepth 100000 in
set_option maxHeartbeats 8000000 in
theorem clamps_walk {k u : List Int} (hk : Key32 k) (hu : Key32 u) (w : World) :
    Calls Try.prog 5 #[.agg (VI .u8 k), .agg (VI .u8 u)] w fun e w' => e = .returned (.bool true) ∧ Below w.heap.size w w' := by
  have kc := clk_key hk
  have kt := tur_key hk
  have LK : Hid (k.length = 32) := hk.len
  have LU : Hid (u.length = 32) := hu.len
  have LC : Hid ((clk k).length = 32) := kc.len
  have LT : Hid ((tur k).length = 32) := kt.len
  have LR : Hid ((bts (shn k u)).length = 32) := bts_len _
  have C1 : Hid (∀ w, Calls Try.prog 19 #[.agg (VI .u8 k)] w fun e w' => e = .returned (.agg (VI .u8 (clk k))) ∧ Below w.heap.size w w') := fun w => clamp_any k hk w
  have C2 : Hid (∀ w, Calls Try.prog 20 #[.agg (VI .u8 k)] w fun e w' => e = .returned (.agg (VI .u8 (clk k))) ∧ Below w.heap.size w w') := fun w => rclamp_any k hk w
  have C3 : Hid (∀ w, Calls Try.prog 19 #[.agg (VI .u8 (clk k))] w fun e w' => e = .returned (.agg (VI .u8 (clk k))) ∧ Below w.heap.size w w') := fun w => by
    have := clamp_any (clk k) kc w
    rw [clk_clk hk] at this
    exact this
  have S1 : Hid (∀ w, Calls Try.prog 11 #[.pointer none, .agg (VI .u8 k), .agg (VI .u8 u)] w fun e w' => e = .returned (.agg (VI .u8 (bts (shn k u)))) ∧ Below w.heap.size w w') := fun w => shared_nil hk hu w
  have S2 : Hid (∀ w, Calls Try.prog 11 #[.pointer none, .agg (VI .u8 (clk k)), .agg (VI .u8 u)] w fun e w' => e = .returned (.agg (VI .u8 (bts (shn k u)))) ∧ Below w.heap.size w w') := fun w => (shared_nil kc hu w).mono fun e w' hh => ⟨by rw [hh.1, shn_clk hk], hh.2⟩
  have S3 : Hid (∀ w, Calls Try.prog 11 #[.pointer none, .agg (VI .u8 (tur k)), .agg (VI .u8 u)] w fun e w' => e = .returned (.agg (VI .u8 (bts (shn k u)))) ∧ Below w.heap.size w w') := fun w => (shared_nil kt hu w).mono fun e w' hh => ⟨by rw [hh.1, shn_tur hk], hh.2⟩
  have HK : Hid (∀ w, Calls Try.prog 16 #[] w fun e w' => e = .returned (.bool true) ∧ Below w.heap.size w w') := known_any
  have b0 := byte_in hk (i := 0) (by decide)
  have b1 := byte_in hk (i := 31) (by decide)
  have a0 := clk_at0 hk
  have a1 := clk_at31 hk
  obtain ⟨y0, hy0⟩ : ∃ y, (clk k).getD 0 0 = y := ⟨_, rfl⟩
  obtain ⟨y1, hy1⟩ : ∃ y, (clk k).getD 31 0 = y := ⟨_, rfl⟩
  have T0 : Hid (tur k = (k.set 0 (bits .xor .u8 (k.getD 0 0) 5)).set 31 (bits .xor .u8 (k.getD 31 0) 192)) := rfl
  have MID : Hid (∀ i : Nat, 1 ≤ i → i < 31 → (clk k).getD i 0 = k.getD i 0) := fun i h1 h2 => clk_mid k h1 h2
  have HY0 : Hid ((clk k).getD 0 0 = y0) := hy0
  have HY1 : Hid ((clk k).getD 31 0 = y1) := hy1
  have q0 : y0.tmod 8 = 0 := by rw [← hy0, a0, Int.tmod_eq_emod_of_nonneg (by omega)]; omega
  have q1 : decide (y1 < 64) = false := by rw [← hy1, a1]; simp; omega
  have q2 : decide (127 < y1) = false := by rw [← hy1, a1]; simp; omega
  have hE := ((ev_nil' w).new (bxK k)).new (bxK u)
  rw [size_alloc] at hE
  obtain ⟨Y0', hW⟩ : ∃ W, (w.alloc (.cells (VI .u8 k) 23)).alloc (.cells (VI .u8 u) 23) = W := ⟨_, rfl⟩
  rw [show (w.alloc (bxK k)).alloc (bxK u) = Y0' from hW] at hE
  have X0 : Hid (Ev w.heap.size w (.pointer none) [] [(w.heap.size + 1, bxK u), (w.heap.size, bxK k)] Y0') := hE
  clear hE hk hu kc kt hy0 hy1 a0 a1
  generalize clk k = c at *
  generalize tur k = t at *
  generalize bts (shn k u) = r at *
  go_enter Try.func5, Try.ntmps5
  go_wp2_with (with_reducible refine at_list ?_; first | (refine wpList_load_row rfl 23 (.tmp 2) rfl (w.heap.size) rfl 23 (VI .u8 (k)) (0, 0) _ (X0.out.row (g := w.heap.size) (x := bxK (k)) (by simp)) Try.underlying23 rfl (infoK LK.out) ?_))
  refine (C1.out _).mono ?_
  rintro e Y1 ⟨rfl, hb⟩
  have X1 : Hid (Ev w.heap.size w (.pointer none) ([]) [(w.heap.size + 1, bxK (u)), (w.heap.size, bxK (k))] Y1) := X0.out.below hb
  clear hb X0 hW
  go_wp2_with (with_reducible refine at_list ?_; first | (refine hold_store 23 (.tmp 5) (.tmp 9) rfl ?_))
  refine store_row_new rfl 23 (.tmp 5) (.tmp 9) rfl Y1.heap.size (VI .u8 (c)) rfl rfl rfl 23 (VI .u8 (List.replicate 32 0)) (infoK LC.out) (by rw [VI_size, VI_size, LC.out]; rfl) (VI_one _ _) ?_
  have hN := X1.out.new (bxK (c))
  have hF := X1.out.fresh
  obtain ⟨Y2, hW⟩ : ∃ W, Y1.alloc (bxK (c)) = W := ⟨_, rfl⟩
  rw [hW] at hN
  rw [show Y1.alloc (.cells (VI .u8 (c)) 23) = Y2 from hW]
  obtain ⟨gc, hg⟩ : ∃ g, Y1.heap.size = g := ⟨_, rfl⟩
  rw [hg] at hN hF
  try simp only [hg]
  clear hg hW
  have X2 : Hid (Ev w.heap.size w (.pointer none) ([]) [(gc, bxK (c)), (w.heap.size + 1, bxK (u)), (w.heap.size, bxK (k))] Y2) := hN
  have N_gc : Hid (∀ p ∈ ([(w.heap.size + 1, bxK (u)), (w.heap.size, bxK (k))] : List (Nat × Obj)), p.1 ≠ gc) := hF
  clear hN hF X1
  go_wp2_with fail
  refine wp_region_quiet_in (C := fun Y => Below Y2.heap.size Y2 Y) (by kernel_rfl) (by kernel_rfl) ((Below.refl _ _).drew) ?_
  refine wpQuiet_step (fun K hK => ?_)
  refine if_pos_mpr (by kernel_rfl) ⟨.agg (VI .u8 (c)), fun Y hY => quietAt_load_row 23 (.tmp 5) rfl (gc) rfl 23 (VI .u8 (c)) (0, 0) _ ((X2.out.below hY).row (g := gc) (x := bxK (c)) (by simp)) Try.underlying23 rfl (infoK LC.out), hK _ ?_⟩
  clear hK K
  try simp only [Act.put, List.getElem_toArray, List.getElem_cons_succ, List.getElem_cons_zero, List.getElem?_toArray, List.getElem?_cons_succ, List.getElem?_cons_zero, List.setIfInBounds_toArray, List.set_cons_zero, List.set_cons_succ]
  refine wpQuiet_step (fun K hK => ?_)
  refine if_pos_mpr (by kernel_rfl) ⟨.agg (VI .u8 (k)), fun Y hY => quietAt_load_row 23 (.tmp 2) rfl (w.heap.size) rfl 23 (VI .u8 (k)) (0, 0) _ ((X2.out.below hY).row (g := w.heap.size) (x := bxK (k)) (by simp)) Try.underlying23 rfl (infoK LK.out), hK _ ?_⟩
  clear hK K
  try simp only [Act.put, List.getElem_toArray, List.getElem_cons_succ, List.getElem_cons_zero, List.getElem?_toArray, List.getElem?_cons_succ, List.getElem?_cons_zero, List.setIfInBounds_toArray, List.set_cons_zero, List.set_cons_succ]
  refine wpQuiet_step (fun K hK => ?_)
  refine if_pos_mpr (by kernel_rfl) ⟨.agg (VI .u8 c), fun Y hY => ?_, hK _ ?_⟩
  · go_simp
    exact (C2.out Y).mono fun e w' hh => ⟨hh.1, hY.trans (hh.2.mono hY.size)⟩
  clear hK K
  try simp only [Act.put, List.getElem_toArray, List.getElem_cons_succ, List.getElem_cons_zero, List.getElem?_toArray, List.getElem?_cons_succ, List.getElem?_cons_zero, List.setIfInBounds_toArray, List.set_cons_zero, List.set_cons_succ]
  have EQC := fun w => eqK LC.out w
  refine wpQuiet_step (fun K hK => ?_)
  go_simp
  first | refine hK _ ?_ | refine ⟨_, fun _ _ => rfl, hK _ ?_⟩
  clear hK K
  refine wpQuiet_step (fun K hK => ?_)
  go_simp
  first | refine hK _ ?_ | refine ⟨_, fun _ _ => rfl, hK _ ?_⟩
  clear hK K
  refine wpQuiet_step (fun K hK => ?_)
  refine if_pos_mpr (by kernel_rfl) ⟨.agg (VI .u8 (c)), fun Y hY => quietAt_load_row 23 (.tmp 5) rfl (gc) rfl 23 (VI .u8 (c)) (0, 0) _ ((X2.out.below hY).row (g := gc) (x := bxK (c)) (by simp)) Try.underlying23 rfl (infoK LC.out), hK _ ?_⟩
  clear hK K
  try simp only [Act.put, List.getElem_toArray, List.getElem_cons_succ, List.getElem_cons_zero, List.getElem?_toArray, List.getElem?_cons_succ, List.getElem?_cons_zero, List.setIfInBounds_toArray, List.set_cons_zero, List.set_cons_succ]
  refine wpQuiet_step (fun K hK => ?_)
  refine if_pos_mpr (by kernel_rfl) ⟨.agg (VI .u8 c), fun Y hY => ?_, hK _ ?_⟩
  · go_simp
    exact (C3.out Y).mono fun e w' hh => ⟨hh.1, hY.trans (hh.2.mono hY.size)⟩
  clear hK K
  try simp only [Act.put, List.getElem_toArray, List.getElem_cons_succ, List.getElem_cons_zero, List.getElem?_toArray, List.getElem?_cons_succ, List.getElem?_cons_zero, List.setIfInBounds_toArray, List.set_cons_zero, List.set_cons_succ]
  refine wpQuiet_step (fun K hK => ?_)
  refine if_pos_mpr (by kernel_rfl) ⟨.agg (VI .u8 (c)), fun Y hY => quietAt_load_row 23 (.tmp 5) rfl (gc) rfl 23 (VI .u8 (c)) (0, 0) _ ((X2.out.below hY).row (g := gc) (x := bxK (c)) (by simp)) Try.underlying23 rfl (infoK LC.out), hK _ ?_⟩
  clear hK K
  try simp only [Act.put, List.getElem_toArray, List.getElem_cons_succ, List.getElem_cons_zero, List.getElem?_toArray, List.getElem?_cons_succ, List.getElem?_cons_zero, List.setIfInBounds_toArray, List.set_cons_zero, List.set_cons_succ]
  refine wpQuiet_step (fun K hK => ?_)
  go_simp
  first | refine hK _ ?_ | refine ⟨_, fun _ _ => rfl, hK _ ?_⟩
  clear hK K
  refine wpQuiet_step (fun K hK => ?_)
  go_simp
  first | refine hK _ ?_ | refine ⟨_, fun _ _ => rfl, hK _ ?_⟩
  clear hK K
  refine wpQuiet_step (fun K hK => ?_)
  go_simp
  first | refine hK _ ?_ | refine ⟨_, fun _ _ => rfl, hK _ ?_⟩
  clear hK K
  refine wpQuiet_step (fun K hK => ?_)
  go_simp
  first | refine hK _ ?_ | refine ⟨_, fun _ _ => rfl, hK _ ?_⟩
  clear hK K
  refine wpQuiet_step (fun K hK => ?_)
  refine if_pos_mpr (by kernel_rfl) ⟨.int .u8 (y0), fun Y hY => ?_, hK _ ?_⟩
  · have hc : Y.cell? ⟨gc, 0, none⟩ = some (.int .u8 (y0)) := ((X2.out.below hY).cellK (g := gc) (L := c) (i := 0) (by simp) (by rw [LC.out]; decide)).trans (by rw [HY0.out])
    go_simp
  clear hK K
  try simp only [Act.put, List.getElem_toArray, List.getElem_cons_succ, List.getElem_cons_zero, List.getElem?_toArray, List.getElem?_cons_succ, List.getElem?_cons_zero, List.setIfInBounds_toArray, List.set_cons_zero, List.set_cons_succ]
  refine wpQuiet_step (fun K hK => ?_)
  go_simp
  first | refine hK _ ?_ | refine ⟨_, fun _ _ => rfl, hK _ ?_⟩
  clear hK K
  refine wpQuiet_step (fun K hK => ?_)
  go_simp
  first | refine hK _ ?_ | refine ⟨_, fun _ _ => rfl, hK _ ?_⟩
  clear hK K
  refine wpQuiet_step (fun K hK => ?_)
  go_simp
  first | refine hK _ ?_ | refine ⟨_, fun _ _ => rfl, hK _ ?_⟩
  clear hK K
  refine wpQuiet_step (fun K hK => ?_)
  go_simp
  first | refine hK _ ?_ | refine ⟨_, fun _ _ => rfl, hK _ ?_⟩
  clear hK K
  refine wpQuiet_step (fun K hK => ?_)
  go_simp
  first | refine hK _ ?_ | refine ⟨_, fun _ _ => rfl, hK _ ?_⟩
  clear hK K
  refine wpQuiet_step (fun K hK => ?_)
  refine if_pos_mpr (by kernel_rfl) ⟨.int .u8 (y1), fun Y hY => ?_, hK _ ?_⟩
  · have hc : Y.cell? ⟨gc, 31, none⟩ = some (.int .u8 (y1)) := ((X2.out.below hY).cellK (g := gc) (L := c) (i := 31) (by simp) (by rw [LC.out]; decide)).trans (by rw [HY1.out])
    go_simp
  clear hK K
  try simp only [Act.put, List.getElem_toArray, List.getElem_cons_succ, List.getElem_cons_zero, List.getElem?_toArray, List.getElem?_cons_succ, List.getElem?_cons_zero, List.setIfInBounds_toArray, List.set_cons_zero, List.set_cons_succ]
  refine wpQuiet_step (fun K hK => ?_)
  go_simp
  first | refine hK _ ?_ | refine ⟨_, fun _ _ => rfl, hK _ ?_⟩
  clear hK K
  refine wpQuiet_step (fun K hK => ?_)
  go_simp
  first | refine hK _ ?_ | refine ⟨_, fun _ _ => rfl, hK _ ?_⟩
  clear hK K
  refine wpQuiet_step (fun K hK => ?_)
  go_simp
  first | refine hK _ ?_ | refine ⟨_, fun _ _ => rfl, hK _ ?_⟩
  clear hK K
  refine wpQuiet_step (fun K hK => ?_)
  go_simp
  first | refine hK _ ?_ | refine ⟨_, fun _ _ => rfl, hK _ ?_⟩
  clear hK K
  refine wpQuiet_step (fun K hK => ?_)
  refine if_pos_mpr (by kernel_rfl) ⟨.int .u8 (y1), fun Y hY => ?_, hK _ ?_⟩
  · have hc : Y.cell? ⟨gc, 31, none⟩ = some (.int .u8 (y1)) := ((X2.out.below hY).cellK (g := gc) (L := c) (i := 31) (by simp) (by rw [LC.out]; decide)).trans (by rw [HY1.out])
    go_simp
  clear hK K
  try simp only [Act.put, List.getElem_toArray, List.getElem_cons_succ, List.getElem_cons_zero, List.getElem?_toArray, List.getElem?_cons_succ, List.getElem?_cons_zero, List.setIfInBounds_toArray, List.set_cons_zero, List.set_cons_succ]
  refine wpQuiet_step (fun K hK => ?_)
  go_simp
  first | refine hK _ ?_ | refine ⟨_, fun _ _ => rfl, hK _ ?_⟩
  clear hK K
  refine wpQuiet_step (fun K hK => ?_)
  go_simp
  first | refine hK _ ?_ | refine ⟨_, fun _ _ => rfl, hK _ ?_⟩
  clear hK K
  refine wpQuiet_nil ?_
  intro Y3 hY
  have X3 : Hid (Ev w.heap.size w (.pointer none) ([]) [(gc, bxK (c)), (w.heap.size + 1, bxK (u)), (w.heap.size, bxK (k))] Y3) := X2.out.below hY
  clear hY X2
  clear q0 q1 q2 C1 C2 C3
  go_wp2_with fail
  go_loopw [6] (fun i w' => ∃ n : Nat, 1 ≤ n ∧ n ≤ 31 ∧ i = .int .i64 n ∧ Ev w.heap.size w (.pointer none) ([]) [(gc, bxK (c)), (w.heap.size + 1, bxK (u)), (w.heap.size, bxK (k))] w') (fun i _ => 31 - (intOf i).toNat)
  case atStart => exact ⟨1, by omega, by omega, rfl, X3.out⟩
  case round =>
    clear X3
    obtain ⟨n, h1, hn, rfl, hp⟩ := hrel
    by_cases hlt : n < 31
    · obtain ⟨z, hz⟩ : ∃ z, k.getD n 0 = z := ⟨_, rfl⟩
      have hc1 : wr.cell? ⟨gc, n, none⟩ = some (.int .u8 z) := (hp.cellK (g := gc) (L := c) (i := n) (by simp) (by rw [LC.out]; omega)).trans (by rw [MID.out n h1 hlt, hz])
      have hc2 : wr.cell? ⟨w.heap.size, n, none⟩ = some (.int .u8 z) := (hp.cellK (g := w.heap.size) (L := k) (i := n) (by simp) (by rw [LK.out]; omega)).trans (by rw [hz])
      have HP : Hid (Ev w.heap.size w (.pointer none) ([]) [(gc, bxK (c)), (w.heap.size + 1, bxK (u)), (w.heap.size, bxK (k))] wr) := hp
      clear hp hz
      go_wp2_with fail
      go_region
      go_wp2
      go_roundw
      case rel => exact ⟨n + 1, by omega, by omega, by go_num, HP.out.drew⟩
      case measure => simp [intOf]; omega
    · have hn' : n = 31 := by omega
      subst hn'
      clear hlt h1 hn
      have X4 : Hid (Ev w.heap.size w (.pointer none) ([]) [(gc, bxK (c)), (w.heap.size + 1, bxK (u)), (w.heap.size, bxK (k))] wr) := hp
      clear hp
      go_wp2_with (with_reducible refine at_list ?_; first | (refine wpList_load_row rfl 23 (.tmp 2) rfl (w.heap.size) rfl 23 (VI .u8 (k)) (0, 0) _ (X4.out.row (g := w.heap.size) (x := bxK (k)) (by simp)) Try.underlying23 rfl (infoK LK.out) ?_) | (refine hold_store 23 (.tmp 7) (.tmp 47) rfl ?_))
      refine store_row_new rfl 23 (.tmp 7) (.tmp 47) rfl wr.heap.size (VI .u8 (k)) rfl rfl rfl 23 (VI .u8 (List.replicate 32 0)) (infoK LK.out) (by rw [VI_size, VI_size, LK.out]; rfl) (VI_one _ _) ?_
      have hN := X4.out.new (bxK (k))
      have hF := X4.out.fresh
      obtain ⟨Y5, hW⟩ : ∃ W, wr.alloc (bxK (k)) = W := ⟨_, rfl⟩
      rw [hW] at hN
      rw [show wr.alloc (.cells (VI .u8 (k)) 23) = Y5 from hW]
      obtain ⟨gt, hg⟩ : ∃ g, wr.heap.size = g := ⟨_, rfl⟩
      rw [hg] at hN hF
      try simp only [hg]
      clear hg hW
      have X5 : Hid (Ev w.heap.size w (.pointer none) ([]) [(gt, bxK (k)), (gc, bxK (c)), (w.heap.size + 1, bxK (u)), (w.heap.size, bxK (k))] Y5) := hN
      have N_gt : Hid (∀ p ∈ ([(gc, bxK (c)), (w.heap.size + 1, bxK (u)), (w.heap.size, bxK (k))] : List (Nat × Obj)), p.1 ≠ gt) := hF
      clear hN hF X4
      have hc0 : Y5.cell? ⟨gt, 0, none⟩ = some (.int .u8 (k.getD 0 0)) := X5.out.cellK (g := gt) (L := k) (by simp) (by rw [LK.out]; decide)
      have hf0 : Y5.frozen? ⟨gt, 0, none⟩ = false := X5.out.frozK (g := gt) (L := k) (by simp) 0
      have hS := X5.out.setK N_gt.out 0 (bits .xor .u8 (k.getD 0 0) 5)
      obtain ⟨Y6, hW_Y6⟩ : ∃ W, Y5.setCell ⟨gt, 0, none⟩ (.int .u8 (bits .xor .u8 (k.getD 0 0) 5)) = W := ⟨_, rfl⟩
      rw [hW_Y6] at hS
      have X6 : Hid (Ev w.heap.size w (.pointer none) ([]) [(gt, bxK ((k).set 0 (bits .xor .u8 (k.getD 0 0) 5))), (gc, bxK (c)), (w.heap.size + 1, bxK (u)), (w.heap.size, bxK (k))] Y6) := hS
      clear hS X5
      have hc1 : Y6.cell? ⟨gt, 31, none⟩ = some (.int .u8 (k.getD 31 0)) := (X6.out.cellK (g := gt) (L := (k).set 0 (bits .xor .u8 (k.getD 0 0) 5)) (i := 31) (by simp) (by rw [List.length_set, LK.out]; decide)).trans (by rw [getD_set_ne _ _ _ _ (by decide)])
      have hf1 : Y6.frozen? ⟨gt, 31, none⟩ = false := X6.out.frozK (g := gt) (L := (k).set 0 (bits .xor .u8 (k.getD 0 0) 5)) (by simp) 31
      have hS := X6.out.setK N_gt.out 31 (bits .xor .u8 (k.getD 31 0) 192)
      obtain ⟨Y7, hW_Y7⟩ : ∃ W, Y6.setCell ⟨gt, 31, none⟩ (.int .u8 (bits .xor .u8 (k.getD 31 0) 192)) = W := ⟨_, rfl⟩
      rw [hW_Y7] at hS
      have X7 : Hid (Ev w.heap.size w (.pointer none) ([]) [(gt, bxK (((k).set 0 (bits .xor .u8 (k.getD 0 0) 5)).set 31 (bits .xor .u8 (k.getD 31 0) 192))), (gc, bxK (c)), (w.heap.size + 1, bxK (u)), (w.heap.size, bxK (k))] Y7) := hS
      clear hS X6
      have X99 : Hid (Ev w.heap.size w (.pointer none) ([]) [(gt, bxK (t)), (gc, bxK (c)), (w.heap.size + 1, bxK (u)), (w.heap.size, bxK (k))] Y7) := by have := X7.out; rw [← T0.out] at this; exact this
      clear X7 T0
      generalize k.getD 0 0 = x0 at *
      generalize k.getD 31 0 = x1 at *
      go_wp2_with fail
      refine wp_region_quiet_in (C := fun Y => Below Y7.heap.size Y7 Y) (by kernel_rfl) (by kernel_rfl) ((Below.refl _ _).drew) ?_
      refine wpQuiet_step (fun K hK => ?_)
      refine if_pos_mpr (by kernel_rfl) ⟨.agg (VI .u8 (k)), fun Y hY => quietAt_load_row 23 (.tmp 2) rfl (w.heap.size) rfl 23 (VI .u8 (k)) (0, 0) _ ((X99.out.below hY).row (g := w.heap.size) (x := bxK (k)) (by simp)) Try.underlying23 rfl (infoK LK.out), hK _ ?_⟩
      clear hK K
      try simp only [Act.put, List.getElem_toArray, List.getElem_cons_succ, List.getElem_cons_zero, List.getElem?_toArray, List.getElem?_cons_succ, List.getElem?_cons_zero, List.setIfInBounds_toArray, List.set_cons_zero, List.set_cons_succ]
      refine wpQuiet_step (fun K hK => ?_)
      refine if_pos_mpr (by kernel_rfl) ⟨.agg (VI .u8 (u)), fun Y hY => quietAt_load_row 23 (.tmp 3) rfl (w.heap.size + 1) rfl 23 (VI .u8 (u)) (0, 0) _ ((X99.out.below hY).row (g := w.heap.size + 1) (x := bxK (u)) (by simp)) Try.underlying23 rfl (infoK LU.out), hK _ ?_⟩
      clear hK K
      try simp only [Act.put, List.getElem_toArray, List.getElem_cons_succ, List.getElem_cons_zero, List.getElem?_toArray, List.getElem?_cons_succ, List.getElem?_cons_zero, List.setIfInBounds_toArray, List.set_cons_zero, List.set_cons_succ]
      refine wpQuiet_step (fun K hK => ?_)
      refine if_pos_mpr (by kernel_rfl) ⟨.agg (VI .u8 r), fun Y hY => ?_, hK _ ?_⟩
      · go_simp
        exact (S1.out Y).mono fun e w' hh => ⟨hh.1, hY.trans (hh.2.mono hY.size)⟩
      clear hK K
      try simp only [Act.put, List.getElem_toArray, List.getElem_cons_succ, List.getElem_cons_zero, List.getElem?_toArray, List.getElem?_cons_succ, List.getElem?_cons_zero, List.setIfInBounds_toArray, List.set_cons_zero, List.set_cons_succ]
      refine wpQuiet_step (fun K hK => ?_)
      refine if_pos_mpr (by kernel_rfl) ⟨.agg (VI .u8 (c)), fun Y hY => quietAt_load_row 23 (.tmp 5) rfl (gc) rfl 23 (VI .u8 (c)) (0, 0) _ ((X99.out.below hY).row (g := gc) (x := bxK (c)) (by simp)) Try.underlying23 rfl (infoK LC.out), hK _ ?_⟩
      clear hK K
      try simp only [Act.put, List.getElem_toArray, List.getElem_cons_succ, List.getElem_cons_zero, List.getElem?_toArray, List.getElem?_cons_succ, List.getElem?_cons_zero, List.setIfInBounds_toArray, List.set_cons_zero, List.set_cons_succ]
      refine wpQuiet_step (fun K hK => ?_)
      refine if_pos_mpr (by kernel_rfl) ⟨.agg (VI .u8 (u)), fun Y hY => quietAt_load_row 23 (.tmp 3) rfl (w.heap.size + 1) rfl 23 (VI .u8 (u)) (0, 0) _ ((X99.out.below hY).row (g := w.heap.size + 1) (x := bxK (u)) (by simp)) Try.underlying23 rfl (infoK LU.out), hK _ ?_⟩
      clear hK K
      try simp only [Act.put, List.getElem_toArray, List.getElem_cons_succ, List.getElem_cons_zero, List.getElem?_toArray, List.getElem?_cons_succ, List.getElem?_cons_zero, List.setIfInBounds_toArray, List.set_cons_zero, List.set_cons_succ]
      refine wpQuiet_step (fun K hK => ?_)
      refine if_pos_mpr (by kernel_rfl) ⟨.agg (VI .u8 r), fun Y hY => ?_, hK _ ?_⟩
      · go_simp
        exact (S2.out Y).mono fun e w' hh => ⟨hh.1, hY.trans (hh.2.mono hY.size)⟩
      clear hK K
      try simp only [Act.put, List.getElem_toArray, List.getElem_cons_succ, List.getElem_cons_zero, List.getElem?_toArray, List.getElem?_cons_succ, List.getElem?_cons_zero, List.setIfInBounds_toArray, List.set_cons_zero, List.set_cons_succ]
      have EQR := fun w => eqK LR.out w
      refine wpQuiet_step (fun K hK => ?_)
      go_simp
      first | refine hK _ ?_ | refine ⟨_, fun _ _ => rfl, hK _ ?_⟩
      clear hK K
      refine wpQuiet_step (fun K hK => ?_)
      go_simp
      first | refine hK _ ?_ | refine ⟨_, fun _ _ => rfl, hK _ ?_⟩
      clear hK K
      refine wpQuiet_step (fun K hK => ?_)
      refine if_pos_mpr (by kernel_rfl) ⟨.agg (VI .u8 (t)), fun Y hY => quietAt_load_row 23 (.tmp 7) rfl (gt) rfl 23 (VI .u8 (t)) (0, 0) _ ((X99.out.below hY).row (g := gt) (x := bxK (t)) (by simp)) Try.underlying23 rfl (infoK LT.out), hK _ ?_⟩
      clear hK K
      try simp only [Act.put, List.getElem_toArray, List.getElem_cons_succ, List.getElem_cons_zero, List.getElem?_toArray, List.getElem?_cons_succ, List.getElem?_cons_zero, List.setIfInBounds_toArray, List.set_cons_zero, List.set_cons_succ]
      refine wpQuiet_step (fun K hK => ?_)
      refine if_pos_mpr (by kernel_rfl) ⟨.agg (VI .u8 (u)), fun Y hY => quietAt_load_row 23 (.tmp 3) rfl (w.heap.size + 1) rfl 23 (VI .u8 (u)) (0, 0) _ ((X99.out.below hY).row (g := w.heap.size + 1) (x := bxK (u)) (by simp)) Try.underlying23 rfl (infoK LU.out), hK _ ?_⟩
      clear hK K
      try simp only [Act.put, List.getElem_toArray, List.getElem_cons_succ, List.getElem_cons_zero, List.getElem?_toArray, List.getElem?_cons_succ, List.getElem?_cons_zero, List.setIfInBounds_toArray, List.set_cons_zero, List.set_cons_succ]
      refine wpQuiet_step (fun K hK => ?_)
      refine if_pos_mpr (by kernel_rfl) ⟨.agg (VI .u8 r), fun Y hY => ?_, hK _ ?_⟩
      · go_simp
        exact (S3.out Y).mono fun e w' hh => ⟨hh.1, hY.trans (hh.2.mono hY.size)⟩
      clear hK K
      try simp only [Act.put, List.getElem_toArray, List.getElem_cons_succ, List.getElem_cons_zero, List.getElem?_toArray, List.getElem?_cons_succ, List.getElem?_cons_zero, List.setIfInBounds_toArray, List.set_cons_zero, List.set_cons_succ]
      refine wpQuiet_step (fun K hK => ?_)
      refine if_pos_mpr (by kernel_rfl) ⟨.agg (VI .u8 (k)), fun Y hY => quietAt_load_row 23 (.tmp 2) rfl (w.heap.size) rfl 23 (VI .u8 (k)) (0, 0) _ ((X99.out.below hY).row (g := w.heap.size) (x := bxK (k)) (by simp)) Try.underlying23 rfl (infoK LK.out), hK _ ?_⟩
      clear hK K
      try simp only [Act.put, List.getElem_toArray, List.getElem_cons_succ, List.getElem_cons_zero, List.getElem?_toArray, List.getElem?_cons_succ, List.getElem?_cons_zero, List.setIfInBounds_toArray, List.set_cons_zero, List.set_cons_succ]
      refine wpQuiet_step (fun K hK => ?_)
      refine if_pos_mpr (by kernel_rfl) ⟨.agg (VI .u8 (u)), fun Y hY => quietAt_load_row 23 (.tmp 3) rfl (w.heap.size + 1) rfl 23 (VI .u8 (u)) (0, 0) _ ((X99.out.below hY).row (g := w.heap.size + 1) (x := bxK (u)) (by simp)) Try.underlying23 rfl (infoK LU.out), hK _ ?_⟩
      clear hK K
      try simp only [Act.put, List.getElem_toArray, List.getElem_cons_succ, List.getElem_cons_zero, List.getElem?_toArray, List.getElem?_cons_succ, List.getElem?_cons_zero, List.setIfInBounds_toArray, List.set_cons_zero, List.set_cons_succ]
      refine wpQuiet_step (fun K hK => ?_)
      refine if_pos_mpr (by kernel_rfl) ⟨.agg (VI .u8 r), fun Y hY => ?_, hK _ ?_⟩
      · go_simp
        exact (S1.out Y).mono fun e w' hh => ⟨hh.1, hY.trans (hh.2.mono hY.size)⟩
      clear hK K
      try simp only [Act.put, List.getElem_toArray, List.getElem_cons_succ, List.getElem_cons_zero, List.getElem?_toArray, List.getElem?_cons_succ, List.getElem?_cons_zero, List.setIfInBounds_toArray, List.set_cons_zero, List.set_cons_succ]
      refine wpQuiet_step (fun K hK => ?_)
      go_simp
      first | refine hK _ ?_ | refine ⟨_, fun _ _ => rfl, hK _ ?_⟩
      clear hK K
      refine wpQuiet_step (fun K hK => ?_)
      go_simp
      first | refine hK _ ?_ | refine ⟨_, fun _ _ => rfl, hK _ ?_⟩
      clear hK K
      refine wpQuiet_step (fun K hK => ?_)
      go_simp
      first | refine hK _ ?_ | refine ⟨_, fun _ _ => rfl, hK _ ?_⟩
      clear hK K
      refine wpQuiet_step (fun K hK => ?_)
      refine if_pos_mpr (by kernel_rfl) ⟨.bool true, fun Y hY => ?_, hK _ ?_⟩
      · go_simp
        exact (HK.out Y).mono fun e w' hh => ⟨hh.1, hY.trans (hh.2.mono hY.size)⟩
      clear hK K
      try simp only [Act.put, List.getElem_toArray, List.getElem_cons_succ, List.getElem_cons_zero, List.getElem?_toArray, List.getElem?_cons_succ, List.getElem?_cons_zero, List.setIfInBounds_toArray, List.set_cons_zero, List.set_cons_succ]
      refine wpQuiet_step (fun K hK => ?_)
      go_simp
      first | refine hK _ ?_ | refine ⟨_, fun _ _ => rfl, hK _ ?_⟩
      clear hK K
      refine wpQuiet_step (fun K hK => ?_)
      go_simp
      first | refine hK _ ?_ | refine ⟨_, fun _ _ => rfl, hK _ ?_⟩
      clear hK K
      refine wpQuiet_nil ?_
      intro Y8 hY
      have X8 : Hid (Ev w.heap.size w (.pointer none) ([]) [(gt, bxK (t)), (gc, bxK (c)), (w.heap.size + 1, bxK (u)), (w.heap.size, bxK (k))] Y8) := X99.out.below hY
      clear hY X99
      go_wp2
      go_ret
      exact ⟨rfl, X8.out.old⟩
end Go.Proofs.Ytlffamcifahbjaa
