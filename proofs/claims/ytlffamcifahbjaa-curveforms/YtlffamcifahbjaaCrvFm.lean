import Derived.Test.YtlffamcifahbjaaCrvY
import Derived.Test.YtlffamcifahbjaaCrvN
import Derived.Test.YtlffamcifahbjaaFldH
namespace Go.Proofs.Ytlffamcifahbjaa
set_option linter.unusedSimpArgs false
set_option linter.unusedVariables false
open Go.ChangeShapes Go.WideShapes Go.ChangeAt Go.RowKit Go.Pin Go.Fld
set_option maxRecDepth 100000 in
set_option maxHeartbeats 8000000 in
theorem forms_walk {k u : List Int} (hk : Key32 k) (hu : Key32 u) (w : World) :
    Calls Try.prog 8 #[.agg (VI .u8 k), .agg (VI .u8 u)] w fun e w' => e = .returned (.bool true) ∧ Below w.heap.size w w' := by
  have kt := flip_key hu
  have LK : Hid (k.length = 32) := hk.len
  have LU : Hid (u.length = 32) := hu.len
  have LT : Hid ((flip u).length = 32) := kt.len
  have LR : Hid ((bts (shn k u)).length = 32) := bts_len _
  have S1 : Hid (∀ w, Calls Try.prog 11 #[.pointer none, .agg (VI .u8 k), .agg (VI .u8 u)] w fun e w' => e = .returned (.agg (VI .u8 (bts (shn k u)))) ∧ Below w.heap.size w w') := fun w => shared_nil hk hu w
  have S2 : Hid (∀ w, Calls Try.prog 11 #[.pointer none, .agg (VI .u8 k), .agg (VI .u8 (flip u))] w fun e w' => e = .returned (.agg (VI .u8 (bts (shn k u)))) ∧ Below w.heap.size w w') := fun w => (shared_nil hk kt w).mono fun e w' hh => ⟨by rw [hh.1, shn_flip k hu], hh.2⟩
  have HK : Hid (∀ w, Calls Try.prog 16 #[] w fun e w' => e = .returned (.bool true) ∧ Below w.heap.size w w') := known_any
  have T0 : Hid (flip u = u.set 31 (bits .xor .u8 (u.getD 31 0) 128)) := rfl
  have h31 := want31 _ (shn_lt k u)
  have FULL : Hid ((bts (shn k u)).getD 31 0 = 127 → (∀ i : Nat, 1 ≤ i → i < 31 → (bts (shn k u)).getD i 0 = 255) → (bts (shn k u)).getD 0 0 < 237) := below_full _ (shn_lt k u)
  obtain ⟨y0, z0⟩ := byte_in hu (i := 0) (by decide)
  obtain ⟨xl, hxl⟩ := Int.eq_ofNat_of_zero_le y0
  have HX0 : Hid (u.getD 0 0 = (xl : Int)) := hxl
  rw [hxl] at z0
  have hl19 : xl % 19 < 19 := Nat.mod_lt _ (by decide)
  obtain ⟨lo, hlo⟩ : ∃ lo, xl % 19 = lo := ⟨_, rfl⟩
  have hlo' : (xl : Int).tmod 19 = (lo : Int) := by rw [Int.tmod_eq_emod_of_nonneg (by omega)]; omega
  rw [hlo] at hl19
  clear hlo
  have hw8 : IntKind.u8.wrap (237 + (lo : Int)) = 237 + (lo : Int) := wrap8 _ (by omega) (by omega)
  have LP : Hid ((ph (lo : Int)).length = 32) := (ph_key lo hl19).len
  have S3 : Hid (∀ w, Calls Try.prog 11 #[.pointer none, .agg (VI .u8 k), .agg (VI .u8 (ph (lo : Int)))] w fun e w' => e = .returned (.agg (VI .u8 (bts (shn k (kk (lo : Int)))))) ∧ Below w.heap.size w w') := fun w => (shared_nil hk (ph_key lo hl19) w).mono fun e w' hh => ⟨by rw [hh.1, shn_ph k lo hl19], hh.2⟩
  have S4 : Hid (∀ w, Calls Try.prog 11 #[.pointer none, .agg (VI .u8 k), .agg #[.int .u8 (lo : Int), .int .u8 0, .int .u8 0, .int .u8 0, .int .u8 0, .int .u8 0, .int .u8 0, .int .u8 0, .int .u8 0, .int .u8 0, .int .u8 0, .int .u8 0, .int .u8 0, .int .u8 0, .int .u8 0, .int .u8 0, .int .u8 0, .int .u8 0, .int .u8 0, .int .u8 0, .int .u8 0, .int .u8 0, .int .u8 0, .int .u8 0, .int .u8 0, .int .u8 0, .int .u8 0, .int .u8 0, .int .u8 0, .int .u8 0, .int .u8 0, .int .u8 0]] w fun e w' => e = .returned (.agg (VI .u8 (bts (shn k (kk (lo : Int)))))) ∧ Below w.heap.size w w') := fun w => shared_nil hk (kk_key (lo : Int) (by omega) (by omega)) w
  have LQ : Hid ((bts (shn k (kk (lo : Int)))).length = 32) := bts_len _
  have P0 : Hid (ph (lo : Int) = (List.replicate 32 (255 : Int)).set 0 (237 + (lo : Int))) := rfl
  have hE := ((ev_nil' w).new (bxK k)).new (bxK u)
  rw [size_alloc] at hE
  obtain ⟨Y0', hW⟩ : ∃ W, (w.alloc (.cells (VI .u8 k) 23)).alloc (.cells (VI .u8 u) 23) = W := ⟨_, rfl⟩
  rw [show (w.alloc (bxK k)).alloc (bxK u) = Y0' from hW] at hE
  have X0 : Hid (Ev w.heap.size w (.pointer none) [] [(w.heap.size + 1, bxK u), (w.heap.size, bxK k)] Y0') := hE
  clear hE hk hu kt hxl y0
  generalize flip u = t at *
  generalize bts (shn k u) = r at *
  generalize bts (shn k (kk (lo : Int))) = r2 at *
  generalize ph (lo : Int) = pp at *
  obtain ⟨v31, hv31⟩ : ∃ v, r.getD 31 0 = v := ⟨_, rfl⟩
  have HV : Hid (r.getD 31 0 = v31) := hv31
  rw [hv31] at h31
  have qg : decide (128 ≤ v31) = false := by simpa using h31
  clear hv31
  go_enter Try.func8, Try.ntmps8
  go_wp2_with (with_reducible refine at_list ?_; first | (refine wpList_load_row rfl 23 (.tmp 3) rfl (w.heap.size + 1) rfl 23 (VI .u8 (u)) (0, 0) _ (X0.out.row (g := w.heap.size + 1) (x := bxK (u)) (by simp)) Try.underlying23 rfl (infoK LU.out) ?_) | (refine hold_store 23 (.tmp 5) (.tmp 12) rfl ?_))
  refine store_row_new rfl 23 (.tmp 5) (.tmp 12) rfl Y0'.heap.size (VI .u8 (u)) rfl rfl rfl 23 (VI .u8 (List.replicate 32 0)) (infoK LU.out) (by rw [VI_size, VI_size, LU.out]; rfl) (VI_one _ _) ?_
  have hN := X0.out.new (bxK (u))
  have hF := X0.out.fresh
  obtain ⟨Y1, hW⟩ : ∃ W, Y0'.alloc (bxK (u)) = W := ⟨_, rfl⟩
  rw [hW] at hN
  rw [show Y0'.alloc (.cells (VI .u8 (u)) 23) = Y1 from hW]
  obtain ⟨gt, hg⟩ : ∃ g, Y0'.heap.size = g := ⟨_, rfl⟩
  rw [hg] at hN hF
  try simp only [hg]
  clear hg hW
  have X1 : Hid (Ev w.heap.size w (.pointer none) ([]) [(gt, bxK (u)), (w.heap.size + 1, bxK (u)), (w.heap.size, bxK (k))] Y1) := hN
  have N_gt : Hid (∀ p ∈ ([(w.heap.size + 1, bxK (u)), (w.heap.size, bxK (k))] : List (Nat × Obj)), p.1 ≠ gt) := hF
  clear hN hF X0
  clear hW
  have hc1 : Y1.cell? ⟨gt, 31, none⟩ = some (.int .u8 (u.getD 31 0)) := X1.out.cellK (g := gt) (L := u) (by simp) (by rw [LU.out]; decide)
  have hf1 : Y1.frozen? ⟨gt, 31, none⟩ = false := X1.out.frozK (g := gt) (L := u) (by simp) 31
  have hS := X1.out.setK N_gt.out 31 (bits .xor .u8 (u.getD 31 0) 128)
  obtain ⟨Y2, hW_Y2⟩ : ∃ W, Y1.setCell ⟨gt, 31, none⟩ (.int .u8 (bits .xor .u8 (u.getD 31 0) 128)) = W := ⟨_, rfl⟩
  rw [hW_Y2] at hS
  have X2 : Hid (Ev w.heap.size w (.pointer none) ([]) [(gt, bxK ((u).set 31 (bits .xor .u8 (u.getD 31 0) 128))), (w.heap.size + 1, bxK (u)), (w.heap.size, bxK (k))] Y2) := hS
  clear hS X1
  have X99 : Hid (Ev w.heap.size w (.pointer none) ([]) [(gt, bxK (t)), (w.heap.size + 1, bxK (u)), (w.heap.size, bxK (k))] Y2) := by have := X2.out; rw [← T0.out] at this; exact this
  clear X2 T0
  generalize u.getD 31 0 = x1 at *
  go_wp2_with (with_reducible refine at_list ?_; first | (refine wpList_load_row rfl 23 (.tmp 2) rfl (w.heap.size) rfl 23 (VI .u8 (k)) (0, 0) _ (X99.out.row (g := w.heap.size) (x := bxK (k)) (by simp)) Try.underlying23 rfl (infoK LK.out) ?_) | (refine wpList_load_row rfl 23 (.tmp 3) rfl (w.heap.size + 1) rfl 23 (VI .u8 (u)) (0, 0) _ (X99.out.row (g := w.heap.size + 1) (x := bxK (u)) (by simp)) Try.underlying23 rfl (infoK LU.out) ?_))
  refine (S1.out _).mono ?_
  rintro e Y3 ⟨rfl, hb⟩
  have X3 : Hid (Ev w.heap.size w (.pointer none) ([]) [(gt, bxK (t)), (w.heap.size + 1, bxK (u)), (w.heap.size, bxK (k))] Y3) := X99.out.below hb
  clear hb X99 hc1 hf1
  go_wp2_with (with_reducible refine at_list ?_; first | (refine hold_store 23 (.tmp 6) (.tmp 19) rfl ?_))
  refine store_row_new rfl 23 (.tmp 6) (.tmp 19) rfl Y3.heap.size (VI .u8 (r)) rfl rfl rfl 23 (VI .u8 (List.replicate 32 0)) (infoK LR.out) (by rw [VI_size, VI_size, LR.out]; rfl) (VI_one _ _) ?_
  have hN := X3.out.new (bxK (r))
  have hF := X3.out.fresh
  obtain ⟨Y4, hW⟩ : ∃ W, Y3.alloc (bxK (r)) = W := ⟨_, rfl⟩
  rw [hW] at hN
  rw [show Y3.alloc (.cells (VI .u8 (r)) 23) = Y4 from hW]
  obtain ⟨gs, hg⟩ : ∃ g, Y3.heap.size = g := ⟨_, rfl⟩
  rw [hg] at hN hF
  try simp only [hg]
  clear hg hW
  have X4 : Hid (Ev w.heap.size w (.pointer none) ([]) [(gs, bxK (r)), (gt, bxK (t)), (w.heap.size + 1, bxK (u)), (w.heap.size, bxK (k))] Y4) := hN
  have N_gs : Hid (∀ p ∈ ([(gt, bxK (t)), (w.heap.size + 1, bxK (u)), (w.heap.size, bxK (k))] : List (Nat × Obj)), p.1 ≠ gs) := hF
  clear hN hF X3
  go_wp2_with fail
  refine wp_region_quiet_in (C := fun Y => Below Y4.heap.size Y4 Y) (by kernel_rfl) (by kernel_rfl) ((Below.refl _ _).drew) ?_
  refine wpQuiet_step (fun K hK => ?_)
  refine if_pos_mpr (by kernel_rfl) ⟨.agg (VI .u8 (k)), fun Y hY => quietAt_load_row 23 (.tmp 2) rfl (w.heap.size) rfl 23 (VI .u8 (k)) (0, 0) _ ((X4.out.below hY).row (g := w.heap.size) (x := bxK (k)) (by simp)) Try.underlying23 rfl (infoK LK.out), hK _ ?_⟩
  clear hK K
  try simp only [Act.put, List.getElem_toArray, List.getElem_cons_succ, List.getElem_cons_zero, List.getElem?_toArray, List.getElem?_cons_succ, List.getElem?_cons_zero, List.setIfInBounds_toArray, List.set_cons_zero, List.set_cons_succ]
  refine wpQuiet_step (fun K hK => ?_)
  refine if_pos_mpr (by kernel_rfl) ⟨.agg (VI .u8 (t)), fun Y hY => quietAt_load_row 23 (.tmp 5) rfl (gt) rfl 23 (VI .u8 (t)) (0, 0) _ ((X4.out.below hY).row (g := gt) (x := bxK (t)) (by simp)) Try.underlying23 rfl (infoK LT.out), hK _ ?_⟩
  clear hK K
  try simp only [Act.put, List.getElem_toArray, List.getElem_cons_succ, List.getElem_cons_zero, List.getElem?_toArray, List.getElem?_cons_succ, List.getElem?_cons_zero, List.setIfInBounds_toArray, List.set_cons_zero, List.set_cons_succ]
  refine wpQuiet_step (fun K hK => ?_)
  refine if_pos_mpr (by kernel_rfl) ⟨.agg (VI .u8 r), fun Y hY => ?_, hK _ ?_⟩
  · go_simp
    exact (S2.out Y).mono fun e w' hh => ⟨hh.1, hY.trans (hh.2.mono hY.size)⟩
  clear hK K
  try simp only [Act.put, List.getElem_toArray, List.getElem_cons_succ, List.getElem_cons_zero, List.getElem?_toArray, List.getElem?_cons_succ, List.getElem?_cons_zero, List.setIfInBounds_toArray, List.set_cons_zero, List.set_cons_succ]
  refine wpQuiet_step (fun K hK => ?_)
  refine if_pos_mpr (by kernel_rfl) ⟨.agg (VI .u8 (r)), fun Y hY => quietAt_load_row 23 (.tmp 6) rfl (gs) rfl 23 (VI .u8 (r)) (0, 0) _ ((X4.out.below hY).row (g := gs) (x := bxK (r)) (by simp)) Try.underlying23 rfl (infoK LR.out), hK _ ?_⟩
  clear hK K
  try simp only [Act.put, List.getElem_toArray, List.getElem_cons_succ, List.getElem_cons_zero, List.getElem?_toArray, List.getElem?_cons_succ, List.getElem?_cons_zero, List.setIfInBounds_toArray, List.set_cons_zero, List.set_cons_succ]
  have EQR := fun w => eqK LR.out w
  refine wpQuiet_step (fun K hK => ?_)
  go_simp
  first | refine hK _ ?_ | refine ⟨_, fun _ _ => rfl, hK _ ?_⟩
  clear hK K
  refine wpQuiet_step (fun K hK => ?_)
  go_simp
  first | refine hK _ ?_ | refine ⟨_, fun _ _ => rfl, hK _ ?_⟩
  clear hK K
  refine wpQuiet_step (fun K hK => ?_)
  go_simp
  first | refine hK _ ?_ | refine ⟨_, fun _ _ => rfl, hK _ ?_⟩
  clear hK K
  refine wpQuiet_step (fun K hK => ?_)
  refine if_pos_mpr (by kernel_rfl) ⟨.int .u8 (v31), fun Y hY => ?_, hK _ ?_⟩
  · have hc : Y.cell? ⟨gs, 31, none⟩ = some (.int .u8 (v31)) := ((X4.out.below hY).cellK (g := gs) (L := r) (i := 31) (by simp) (by rw [LR.out]; decide)).trans (by rw [HV.out])
    go_simp
  clear hK K
  try simp only [Act.put, List.getElem_toArray, List.getElem_cons_succ, List.getElem_cons_zero, List.getElem?_toArray, List.getElem?_cons_succ, List.getElem?_cons_zero, List.setIfInBounds_toArray, List.set_cons_zero, List.set_cons_succ]
  refine wpQuiet_step (fun K hK => ?_)
  go_simp
  first | refine hK _ ?_ | refine ⟨_, fun _ _ => rfl, hK _ ?_⟩
  clear hK K
  refine wpQuiet_step (fun K hK => ?_)
  go_simp
  first | refine hK _ ?_ | refine ⟨_, fun _ _ => rfl, hK _ ?_⟩
  clear hK K
  refine wpQuiet_nil ?_
  intro Y5 hY
  have X5 : Hid (Ev w.heap.size w (.pointer none) ([]) [(gs, bxK (r)), (gt, bxK (t)), (w.heap.size + 1, bxK (u)), (w.heap.size, bxK (k))] Y5) := X4.out.below hY
  clear hY X4
  clear qg EQR
  have hc2 : Y5.cell? ⟨gs, 31, none⟩ = some (.int .u8 v31) := (X5.out.cellK (g := gs) (L := r) (i := 31) (by simp) (by rw [LR.out]; decide)).trans (by rw [HV.out])
  go_wp2_with fail
  clear hc2
  go_loopw [8, 7] (fun i m w' => ∃ (n : Nat) (b : Bool), 1 ≤ n ∧ n ≤ 31 ∧ i = .int .i64 n ∧ m = .bool b ∧ (b = true → v31 = 127 ∧ ∀ i : Nat, 1 ≤ i → i < n → r.getD i 0 = 255) ∧ Ev w.heap.size w (.pointer none) ([]) [(gs, bxK (r)), (gt, bxK (t)), (w.heap.size + 1, bxK (u)), (w.heap.size, bxK (k))] w') (fun i _ _ => 31 - (intOf i).toNat)
  case atStart => exact ⟨1, _, by omega, by omega, rfl, rfl, fun h => ⟨by simpa using h, fun i h1 h2 => by omega⟩, X5.out⟩
  case round =>
    clear X5
    obtain ⟨n, b, h1, hn, rfl, rfl, hb, hp⟩ := hrel
    by_cases hlt : n < 31
    · have hc1 : wr.cell? ⟨gs, n, none⟩ = some (.int .u8 (r.getD n 0)) := hp.cellK (g := gs) (L := r) (i := n) (by simp) (by rw [LR.out]; omega)
      have HP : Hid (Ev w.heap.size w (.pointer none) ([]) [(gs, bxK (r)), (gt, bxK (t)), (w.heap.size + 1, bxK (u)), (w.heap.size, bxK (k))] wr) := hp
      have HB : Hid (b = true → v31 = 127 ∧ ∀ i : Nat, 1 ≤ i → i < n → r.getD i 0 = 255) := hb
      clear hp hb
      obtain ⟨z, hz⟩ : ∃ z, r.getD n 0 = z := ⟨_, rfl⟩
      have HZ : Hid (r.getD n 0 = z) := hz
      rw [hz] at hc1
      clear hz
      cases b with
      | false =>
        go_wp2
        go_roundw
        case rel => exact ⟨n + 1, false, by omega, by omega, by go_num, rfl, fun h => (by cases h), HP.out⟩
        case measure => simp [intOf]; omega
      | true =>
        go_wp2
        go_roundw
        case rel =>
          refine ⟨n + 1, _, by omega, by omega, by go_num, rfl, fun h => ⟨(HB.out rfl).1, fun i h1 h2 => ?_⟩, HP.out⟩
          have hz : z = 255 := by simpa using h
          rcases Nat.lt_or_ge i n with h3 | h3
          · exact (HB.out rfl).2 i h1 h3
          · obtain rfl : i = n := by omega
            rw [HZ.out, hz]
        case measure => simp [intOf]; omega
    · have hn' : n = 31 := by omega
      subst hn'
      have HB : Hid (b = true → r.getD 0 0 < 237) := fun h => FULL.out (by rw [HV.out]; exact (hb h).1) (hb h).2
      clear hlt h1 hn hb FULL
      have XL : Hid (Ev w.heap.size w (.pointer none) ([]) [(gs, bxK (r)), (gt, bxK (t)), (w.heap.size + 1, bxK (u)), (w.heap.size, bxK (k))] wr) := hp
      clear hp
      have hc3 : wr.cell? ⟨gs, 0, none⟩ = some (.int .u8 (r.getD 0 0)) := XL.out.cellK (g := gs) (L := r) (i := 0) (by simp) (by rw [LR.out]; decide)
      have hc4 : wr.cell? ⟨w.heap.size + 1, 0, none⟩ = some (.int .u8 (xl : Int)) := (XL.out.cellK (g := w.heap.size + 1) (L := u) (i := 0) (by simp) (by rw [LU.out]; decide)).trans (by rw [HX0.out])
      obtain ⟨z0', hz0⟩ : ∃ z, r.getD 0 0 = z := ⟨_, rfl⟩
      rw [hz0] at hc3
      have hq : (b && decide (237 ≤ z0')) = false := by
        cases b with
        | false => rfl
        | true => have := HB.out rfl; rw [hz0] at this; simpa using this
      clear hz0
      cases b with
      | false =>
        go_wp2_with fail
        clear hc3 hc4
        have hN := XL.out.new (bxK (List.replicate 32 0))
        have hF := XL.out.fresh
        obtain ⟨Y6, hW⟩ : ∃ W, wr.alloc (bxK (List.replicate 32 0)) = W := ⟨_, rfl⟩
        rw [hW] at hN
        rw [show wr.alloc (.cells #[.int .u8 0, .int .u8 0, .int .u8 0, .int .u8 0, .int .u8 0, .int .u8 0, .int .u8 0, .int .u8 0, .int .u8 0, .int .u8 0, .int .u8 0, .int .u8 0, .int .u8 0, .int .u8 0, .int .u8 0, .int .u8 0, .int .u8 0, .int .u8 0, .int .u8 0, .int .u8 0, .int .u8 0, .int .u8 0, .int .u8 0, .int .u8 0, .int .u8 0, .int .u8 0, .int .u8 0, .int .u8 0, .int .u8 0, .int .u8 0, .int .u8 0, .int .u8 0] 23) = Y6 from hW]
        obtain ⟨gp, hg⟩ : ∃ g, wr.heap.size = g := ⟨_, rfl⟩
        rw [hg] at hN hF
        try simp only [hg]
        clear hg hW
        have X6 : Hid (Ev w.heap.size w (.pointer none) ([]) [(gp, bxK (List.replicate 32 0)), (gs, bxK (r)), (gt, bxK (t)), (w.heap.size + 1, bxK (u)), (w.heap.size, bxK (k))] Y6) := hN
        have N_gp : Hid (∀ p ∈ ([(gs, bxK (r)), (gt, bxK (t)), (w.heap.size + 1, bxK (u)), (w.heap.size, bxK (k))] : List (Nat × Obj)), p.1 ≠ gp) := hF
        clear hN hF XL
        have SETK : Hid (∀ (l : List Int) W i v, Ev w.heap.size w (.pointer none) ([]) [(gp, bxK (l)), (gs, bxK (r)), (gt, bxK (t)), (w.heap.size + 1, bxK (u)), (w.heap.size, bxK (k))] W → Ev w.heap.size w (.pointer none) ([]) [(gp, bxK (l.set i v)), (gs, bxK (r)), (gt, bxK (t)), (w.heap.size + 1, bxK (u)), (w.heap.size, bxK (k))] (W.setCell ⟨gp, i, none⟩ (.int .u8 v))) := fun l W i v h => h.setK N_gp.out i v
        have LG : Hid (Ev w.heap.size w (.pointer none) ([]) [(gp, bxK ((List.replicate 32 (255 : Int)).take 0 ++ (List.replicate 32 (0 : Int)).drop 0)), (gs, bxK (r)), (gt, bxK (t)), (w.heap.size + 1, bxK (u)), (w.heap.size, bxK (k))] Y6) := X6.out
        go_loopw [11] (fun i w' => ∃ n : Nat, n ≤ 32 ∧ i = .int .i64 n ∧ Ev w.heap.size w (.pointer none) ([]) [(gp, bxK ((List.replicate 32 (255 : Int)).take n ++ (List.replicate 32 (0 : Int)).drop n)), (gs, bxK (r)), (gt, bxK (t)), (w.heap.size + 1, bxK (u)), (w.heap.size, bxK (k))] w') (fun i _ => 32 - (intOf i).toNat)
        case atStart => exact ⟨0, Nat.zero_le _, rfl, LG.out⟩
        case round =>
          clear LG X6
          obtain ⟨n, hn, rfl, hp⟩ := hrel
          by_cases hlt : n < 32
          · have es := set_stepK (List.replicate 32 (255 : Int)) (List.replicate 32 (0 : Int)) n (by simpa using hlt) (by simpa using hlt)
            have e255 : (List.replicate 32 (255 : Int)).getD n 0 = 255 := by rw [List.getD_eq_getElem?_getD, List.getElem?_replicate, if_pos hlt]; rfl
            rw [e255] at es
            have hst := SETK.out _ _ n 255 hp
            rw [es] at hst
            have hcl := hp.cellK (g := gp) (L := (List.replicate 32 (255 : Int)).take n ++ (List.replicate 32 (0 : Int)).drop n) (i := n) (by simp only [List.mem_cons, true_or]) (by rw [List.length_append, List.length_take, List.length_drop, List.length_replicate, List.length_replicate]; omega)
            have hfz := hp.frozK (g := gp) (L := (List.replicate 32 (255 : Int)).take n ++ (List.replicate 32 (0 : Int)).drop n) (by simp only [List.mem_cons, true_or]) n
            obtain ⟨Wn, hWn⟩ : ∃ W, wr.setCell ⟨gp, n, none⟩ (.int .u8 255) = W := ⟨_, rfl⟩
            rw [hWn] at hst
            have HST : Hid (Ev w.heap.size w (.pointer none) ([]) [(gp, bxK ((List.replicate 32 (255 : Int)).take (n + 1) ++ (List.replicate 32 (0 : Int)).drop (n + 1))), (gs, bxK (r)), (gt, bxK (t)), (w.heap.size + 1, bxK (u)), (w.heap.size, bxK (k))] Wn) := hst
            clear hst hp es e255
            generalize List.getD _ n 0 = z at hcl
            go_wp2
            go_roundw
            case rel => exact ⟨n + 1, by omega, by go_num, HST.out⟩
            case measure => simp [intOf]; omega
          · have hn' : n = 32 := by omega
            subst hn'
            rw [List.take_of_length_le (by simp), List.drop_of_length_le (by simp), List.append_nil] at hp
            have hc0 := hp.cellK (g := gp) (L := List.replicate 32 255) (i := 0) (by simp) (by simp)
            have hf0 := hp.frozK (g := gp) (L := List.replicate 32 255) (by simp) 0
            have hst := SETK.out _ _ 0 (237 + (lo : Int)) hp
            obtain ⟨Wb, hWb⟩ : ∃ W, wr.setCell ⟨gp, 0, none⟩ (.int .u8 (237 + (lo : Int))) = W := ⟨_, rfl⟩
            rw [hWb, ← P0.out] at hst
            have XB : Hid (Ev w.heap.size w (.pointer none) ([]) [(gp, bxK (pp)), (gs, bxK (r)), (gt, bxK (t)), (w.heap.size + 1, bxK (u)), (w.heap.size, bxK (k))] Wb) := hst
            clear hst hp hlt hn
            generalize List.getD _ 0 0 = z0'' at hc0
            go_wp2_with fail
            refine wp_region_quiet_in (C := fun Y => Below Wb.heap.size Wb Y) (by kernel_rfl) (by kernel_rfl) ((Below.refl _ _).drew) ?_
            refine wpQuiet_step (fun K hK => ?_)
            refine if_pos_mpr (by kernel_rfl) ⟨.agg (VI .u8 (k)), fun Y hY => quietAt_load_row 23 (.tmp 2) rfl (w.heap.size) rfl 23 (VI .u8 (k)) (0, 0) _ ((XB.out.below hY).row (g := w.heap.size) (x := bxK (k)) (by simp)) Try.underlying23 rfl (infoK LK.out), hK _ ?_⟩
            clear hK K
            try simp only [Act.put, List.getElem_toArray, List.getElem_cons_succ, List.getElem_cons_zero, List.getElem?_toArray, List.getElem?_cons_succ, List.getElem?_cons_zero, List.setIfInBounds_toArray, List.set_cons_zero, List.set_cons_succ]
            refine wpQuiet_step (fun K hK => ?_)
            refine if_pos_mpr (by kernel_rfl) ⟨.agg (VI .u8 (pp)), fun Y hY => quietAt_load_row 23 (.tmp 10) rfl (gp) rfl 23 (VI .u8 (pp)) (0, 0) _ ((XB.out.below hY).row (g := gp) (x := bxK (pp)) (by simp)) Try.underlying23 rfl (infoK LP.out), hK _ ?_⟩
            clear hK K
            try simp only [Act.put, List.getElem_toArray, List.getElem_cons_succ, List.getElem_cons_zero, List.getElem?_toArray, List.getElem?_cons_succ, List.getElem?_cons_zero, List.setIfInBounds_toArray, List.set_cons_zero, List.set_cons_succ]
            refine wpQuiet_step (fun K hK => ?_)
            refine if_pos_mpr (by kernel_rfl) ⟨.agg (VI .u8 r2), fun Y hY => ?_, hK _ ?_⟩
            · go_simp
              exact (S3.out Y).mono fun e w' hh => ⟨hh.1, hY.trans (hh.2.mono hY.size)⟩
            clear hK K
            try simp only [Act.put, List.getElem_toArray, List.getElem_cons_succ, List.getElem_cons_zero, List.getElem?_toArray, List.getElem?_cons_succ, List.getElem?_cons_zero, List.setIfInBounds_toArray, List.set_cons_zero, List.set_cons_succ]
            refine wpQuiet_step (fun K hK => ?_)
            refine if_pos_mpr (by kernel_rfl) ⟨.agg (VI .u8 (k)), fun Y hY => quietAt_load_row 23 (.tmp 2) rfl (w.heap.size) rfl 23 (VI .u8 (k)) (0, 0) _ ((XB.out.below hY).row (g := w.heap.size) (x := bxK (k)) (by simp)) Try.underlying23 rfl (infoK LK.out), hK _ ?_⟩
            clear hK K
            try simp only [Act.put, List.getElem_toArray, List.getElem_cons_succ, List.getElem_cons_zero, List.getElem?_toArray, List.getElem?_cons_succ, List.getElem?_cons_zero, List.setIfInBounds_toArray, List.set_cons_zero, List.set_cons_succ]
            refine wpQuiet_step (fun K hK => ?_)
            go_simp
            first | refine hK _ ?_ | refine ⟨_, fun _ _ => rfl, hK _ ?_⟩
            clear hK K
            refine wpQuiet_step (fun K hK => ?_)
            go_simp
            first | refine hK _ ?_ | refine ⟨_, fun _ _ => rfl, hK _ ?_⟩
            clear hK K
            refine wpQuiet_step (fun K hK => ?_)
            refine if_pos_mpr (by kernel_rfl) ⟨.agg (VI .u8 r2), fun Y hY => ?_, hK _ ?_⟩
            · go_simp
              exact (S4.out Y).mono fun e w' hh => ⟨hh.1, hY.trans (hh.2.mono hY.size)⟩
            clear hK K
            try simp only [Act.put, List.getElem_toArray, List.getElem_cons_succ, List.getElem_cons_zero, List.getElem?_toArray, List.getElem?_cons_succ, List.getElem?_cons_zero, List.setIfInBounds_toArray, List.set_cons_zero, List.set_cons_succ]
            have EQR := fun w => eqK LQ.out w
            refine wpQuiet_step (fun K hK => ?_)
            go_simp
            first | refine hK _ ?_ | refine ⟨_, fun _ _ => rfl, hK _ ?_⟩
            clear hK K
            refine wpQuiet_step (fun K hK => ?_)
            go_simp
            first | refine hK _ ?_ | refine ⟨_, fun _ _ => rfl, hK _ ?_⟩
            clear hK K
            refine wpQuiet_step (fun K hK => ?_)
            refine if_pos_mpr (by kernel_rfl) ⟨.bool true, fun Y hY => ?_, hK _ ?_⟩
            · go_simp
              exact (HK.out Y).mono fun e w' hh => ⟨hh.1, hY.trans (hh.2.mono hY.size)⟩
            clear hK K
            try simp only [Act.put, List.getElem_toArray, List.getElem_cons_succ, List.getElem_cons_zero, List.getElem?_toArray, List.getElem?_cons_succ, List.getElem?_cons_zero, List.setIfInBounds_toArray, List.set_cons_zero, List.set_cons_succ]
            refine wpQuiet_step (fun K hK => ?_)
            go_simp
            first | refine hK _ ?_ | refine ⟨_, fun _ _ => rfl, hK _ ?_⟩
            clear hK K
            refine wpQuiet_step (fun K hK => ?_)
            go_simp
            first | refine hK _ ?_ | refine ⟨_, fun _ _ => rfl, hK _ ?_⟩
            clear hK K
            refine wpQuiet_nil ?_
            intro Y7 hY
            have X7 : Hid (Ev w.heap.size w (.pointer none) ([]) [(gp, bxK (pp)), (gs, bxK (r)), (gt, bxK (t)), (w.heap.size + 1, bxK (u)), (w.heap.size, bxK (k))] Y7) := XB.out.below hY
            clear hY XB
            go_wp2
            go_ret
            exact ⟨rfl, X7.out.old⟩
      | true =>
        have hq' : decide (237 ≤ z0') = false := by simpa using hq
        go_wp2_with fail
        clear hc3 hc4
        have hN := XL.out.new (bxK (List.replicate 32 0))
        have hF := XL.out.fresh
        obtain ⟨Y6, hW⟩ : ∃ W, wr.alloc (bxK (List.replicate 32 0)) = W := ⟨_, rfl⟩
        rw [hW] at hN
        rw [show wr.alloc (.cells #[.int .u8 0, .int .u8 0, .int .u8 0, .int .u8 0, .int .u8 0, .int .u8 0, .int .u8 0, .int .u8 0, .int .u8 0, .int .u8 0, .int .u8 0, .int .u8 0, .int .u8 0, .int .u8 0, .int .u8 0, .int .u8 0, .int .u8 0, .int .u8 0, .int .u8 0, .int .u8 0, .int .u8 0, .int .u8 0, .int .u8 0, .int .u8 0, .int .u8 0, .int .u8 0, .int .u8 0, .int .u8 0, .int .u8 0, .int .u8 0, .int .u8 0, .int .u8 0] 23) = Y6 from hW]
        obtain ⟨gp, hg⟩ : ∃ g, wr.heap.size = g := ⟨_, rfl⟩
        rw [hg] at hN hF
        try simp only [hg]
        clear hg hW
        have X6 : Hid (Ev w.heap.size w (.pointer none) ([]) [(gp, bxK (List.replicate 32 0)), (gs, bxK (r)), (gt, bxK (t)), (w.heap.size + 1, bxK (u)), (w.heap.size, bxK (k))] Y6) := hN
        have N_gp : Hid (∀ p ∈ ([(gs, bxK (r)), (gt, bxK (t)), (w.heap.size + 1, bxK (u)), (w.heap.size, bxK (k))] : List (Nat × Obj)), p.1 ≠ gp) := hF
        clear hN hF XL
        have SETK : Hid (∀ (l : List Int) W i v, Ev w.heap.size w (.pointer none) ([]) [(gp, bxK (l)), (gs, bxK (r)), (gt, bxK (t)), (w.heap.size + 1, bxK (u)), (w.heap.size, bxK (k))] W → Ev w.heap.size w (.pointer none) ([]) [(gp, bxK (l.set i v)), (gs, bxK (r)), (gt, bxK (t)), (w.heap.size + 1, bxK (u)), (w.heap.size, bxK (k))] (W.setCell ⟨gp, i, none⟩ (.int .u8 v))) := fun l W i v h => h.setK N_gp.out i v
        have LG : Hid (Ev w.heap.size w (.pointer none) ([]) [(gp, bxK ((List.replicate 32 (255 : Int)).take 0 ++ (List.replicate 32 (0 : Int)).drop 0)), (gs, bxK (r)), (gt, bxK (t)), (w.heap.size + 1, bxK (u)), (w.heap.size, bxK (k))] Y6) := X6.out
        go_loopw [11] (fun i w' => ∃ n : Nat, n ≤ 32 ∧ i = .int .i64 n ∧ Ev w.heap.size w (.pointer none) ([]) [(gp, bxK ((List.replicate 32 (255 : Int)).take n ++ (List.replicate 32 (0 : Int)).drop n)), (gs, bxK (r)), (gt, bxK (t)), (w.heap.size + 1, bxK (u)), (w.heap.size, bxK (k))] w') (fun i _ => 32 - (intOf i).toNat)
        case atStart => exact ⟨0, Nat.zero_le _, rfl, LG.out⟩
        case round =>
          clear LG X6
          obtain ⟨n, hn, rfl, hp⟩ := hrel
          by_cases hlt : n < 32
          · have es := set_stepK (List.replicate 32 (255 : Int)) (List.replicate 32 (0 : Int)) n (by simpa using hlt) (by simpa using hlt)
            have e255 : (List.replicate 32 (255 : Int)).getD n 0 = 255 := by rw [List.getD_eq_getElem?_getD, List.getElem?_replicate, if_pos hlt]; rfl
            rw [e255] at es
            have hst := SETK.out _ _ n 255 hp
            rw [es] at hst
            have hcl := hp.cellK (g := gp) (L := (List.replicate 32 (255 : Int)).take n ++ (List.replicate 32 (0 : Int)).drop n) (i := n) (by simp only [List.mem_cons, true_or]) (by rw [List.length_append, List.length_take, List.length_drop, List.length_replicate, List.length_replicate]; omega)
            have hfz := hp.frozK (g := gp) (L := (List.replicate 32 (255 : Int)).take n ++ (List.replicate 32 (0 : Int)).drop n) (by simp only [List.mem_cons, true_or]) n
            obtain ⟨Wn, hWn⟩ : ∃ W, wr.setCell ⟨gp, n, none⟩ (.int .u8 255) = W := ⟨_, rfl⟩
            rw [hWn] at hst
            have HST : Hid (Ev w.heap.size w (.pointer none) ([]) [(gp, bxK ((List.replicate 32 (255 : Int)).take (n + 1) ++ (List.replicate 32 (0 : Int)).drop (n + 1))), (gs, bxK (r)), (gt, bxK (t)), (w.heap.size + 1, bxK (u)), (w.heap.size, bxK (k))] Wn) := hst
            clear hst hp es e255
            generalize List.getD _ n 0 = z at hcl
            go_wp2
            go_roundw
            case rel => exact ⟨n + 1, by omega, by go_num, HST.out⟩
            case measure => simp [intOf]; omega
          · have hn' : n = 32 := by omega
            subst hn'
            rw [List.take_of_length_le (by simp), List.drop_of_length_le (by simp), List.append_nil] at hp
            have hc0 := hp.cellK (g := gp) (L := List.replicate 32 255) (i := 0) (by simp) (by simp)
            have hf0 := hp.frozK (g := gp) (L := List.replicate 32 255) (by simp) 0
            have hst := SETK.out _ _ 0 (237 + (lo : Int)) hp
            obtain ⟨Wb, hWb⟩ : ∃ W, wr.setCell ⟨gp, 0, none⟩ (.int .u8 (237 + (lo : Int))) = W := ⟨_, rfl⟩
            rw [hWb, ← P0.out] at hst
            have XB : Hid (Ev w.heap.size w (.pointer none) ([]) [(gp, bxK (pp)), (gs, bxK (r)), (gt, bxK (t)), (w.heap.size + 1, bxK (u)), (w.heap.size, bxK (k))] Wb) := hst
            clear hst hp hlt hn
            generalize List.getD _ 0 0 = z0'' at hc0
            go_wp2_with fail
            refine wp_region_quiet_in (C := fun Y => Below Wb.heap.size Wb Y) (by kernel_rfl) (by kernel_rfl) ((Below.refl _ _).drew) ?_
            refine wpQuiet_step (fun K hK => ?_)
            refine if_pos_mpr (by kernel_rfl) ⟨.agg (VI .u8 (k)), fun Y hY => quietAt_load_row 23 (.tmp 2) rfl (w.heap.size) rfl 23 (VI .u8 (k)) (0, 0) _ ((XB.out.below hY).row (g := w.heap.size) (x := bxK (k)) (by simp)) Try.underlying23 rfl (infoK LK.out), hK _ ?_⟩
            clear hK K
            try simp only [Act.put, List.getElem_toArray, List.getElem_cons_succ, List.getElem_cons_zero, List.getElem?_toArray, List.getElem?_cons_succ, List.getElem?_cons_zero, List.setIfInBounds_toArray, List.set_cons_zero, List.set_cons_succ]
            refine wpQuiet_step (fun K hK => ?_)
            refine if_pos_mpr (by kernel_rfl) ⟨.agg (VI .u8 (pp)), fun Y hY => quietAt_load_row 23 (.tmp 10) rfl (gp) rfl 23 (VI .u8 (pp)) (0, 0) _ ((XB.out.below hY).row (g := gp) (x := bxK (pp)) (by simp)) Try.underlying23 rfl (infoK LP.out), hK _ ?_⟩
            clear hK K
            try simp only [Act.put, List.getElem_toArray, List.getElem_cons_succ, List.getElem_cons_zero, List.getElem?_toArray, List.getElem?_cons_succ, List.getElem?_cons_zero, List.setIfInBounds_toArray, List.set_cons_zero, List.set_cons_succ]
            refine wpQuiet_step (fun K hK => ?_)
            refine if_pos_mpr (by kernel_rfl) ⟨.agg (VI .u8 r2), fun Y hY => ?_, hK _ ?_⟩
            · go_simp
              exact (S3.out Y).mono fun e w' hh => ⟨hh.1, hY.trans (hh.2.mono hY.size)⟩
            clear hK K
            try simp only [Act.put, List.getElem_toArray, List.getElem_cons_succ, List.getElem_cons_zero, List.getElem?_toArray, List.getElem?_cons_succ, List.getElem?_cons_zero, List.setIfInBounds_toArray, List.set_cons_zero, List.set_cons_succ]
            refine wpQuiet_step (fun K hK => ?_)
            refine if_pos_mpr (by kernel_rfl) ⟨.agg (VI .u8 (k)), fun Y hY => quietAt_load_row 23 (.tmp 2) rfl (w.heap.size) rfl 23 (VI .u8 (k)) (0, 0) _ ((XB.out.below hY).row (g := w.heap.size) (x := bxK (k)) (by simp)) Try.underlying23 rfl (infoK LK.out), hK _ ?_⟩
            clear hK K
            try simp only [Act.put, List.getElem_toArray, List.getElem_cons_succ, List.getElem_cons_zero, List.getElem?_toArray, List.getElem?_cons_succ, List.getElem?_cons_zero, List.setIfInBounds_toArray, List.set_cons_zero, List.set_cons_succ]
            refine wpQuiet_step (fun K hK => ?_)
            go_simp
            first | refine hK _ ?_ | refine ⟨_, fun _ _ => rfl, hK _ ?_⟩
            clear hK K
            refine wpQuiet_step (fun K hK => ?_)
            go_simp
            first | refine hK _ ?_ | refine ⟨_, fun _ _ => rfl, hK _ ?_⟩
            clear hK K
            refine wpQuiet_step (fun K hK => ?_)
            refine if_pos_mpr (by kernel_rfl) ⟨.agg (VI .u8 r2), fun Y hY => ?_, hK _ ?_⟩
            · go_simp
              exact (S4.out Y).mono fun e w' hh => ⟨hh.1, hY.trans (hh.2.mono hY.size)⟩
            clear hK K
            try simp only [Act.put, List.getElem_toArray, List.getElem_cons_succ, List.getElem_cons_zero, List.getElem?_toArray, List.getElem?_cons_succ, List.getElem?_cons_zero, List.setIfInBounds_toArray, List.set_cons_zero, List.set_cons_succ]
            have EQR := fun w => eqK LQ.out w
            refine wpQuiet_step (fun K hK => ?_)
            go_simp
            first | refine hK _ ?_ | refine ⟨_, fun _ _ => rfl, hK _ ?_⟩
            clear hK K
            refine wpQuiet_step (fun K hK => ?_)
            go_simp
            first | refine hK _ ?_ | refine ⟨_, fun _ _ => rfl, hK _ ?_⟩
            clear hK K
            refine wpQuiet_step (fun K hK => ?_)
            refine if_pos_mpr (by kernel_rfl) ⟨.bool true, fun Y hY => ?_, hK _ ?_⟩
            · go_simp
              exact (HK.out Y).mono fun e w' hh => ⟨hh.1, hY.trans (hh.2.mono hY.size)⟩
            clear hK K
            try simp only [Act.put, List.getElem_toArray, List.getElem_cons_succ, List.getElem_cons_zero, List.getElem?_toArray, List.getElem?_cons_succ, List.getElem?_cons_zero, List.setIfInBounds_toArray, List.set_cons_zero, List.set_cons_succ]
            refine wpQuiet_step (fun K hK => ?_)
            go_simp
            first | refine hK _ ?_ | refine ⟨_, fun _ _ => rfl, hK _ ?_⟩
            clear hK K
            refine wpQuiet_step (fun K hK => ?_)
            go_simp
            first | refine hK _ ?_ | refine ⟨_, fun _ _ => rfl, hK _ ?_⟩
            clear hK K
            refine wpQuiet_nil ?_
            intro Y7 hY
            have X7 : Hid (Ev w.heap.size w (.pointer none) ([]) [(gp, bxK (pp)), (gs, bxK (r)), (gt, bxK (t)), (w.heap.size + 1, bxK (u)), (w.heap.size, bxK (k))] Y7) := XB.out.below hY
            clear hY XB
            go_wp2
            go_ret
            exact ⟨rfl, X7.out.old⟩
end Go.Proofs.Ytlffamcifahbjaa
