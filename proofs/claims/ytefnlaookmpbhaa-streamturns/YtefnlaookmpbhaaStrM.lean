import Derived.Test.YtefnlaookmpbhaaStrL
namespace Go.Proofs.Ytefnlaookmpbhaa
set_option linter.unusedSimpArgs false
set_option linter.unusedVariables false
open Go.ChangeShapes Go.WideShapes Go.ChangeAt Go.RowKit Go.Pin Go.Str
abbrev RK (w : World) (g : Nat) (L : List Nat) (T : TypeId) : Prop := w.heap[g]? = some (.cells (VN .u8 L) T (0, 0))
theorem RK.cell {w : World} {g : Nat} {L : List Nat} {T : TypeId} (h : RK w g L T) {i : Nat} (hi : i < L.length) : w.cell? ⟨g, i, none⟩ = some (.int .u8 ((L.getD i 0 : Nat) : Int)) := by
  rw [cell_of_row _ _ _ _ _ _ h, VN_at _ _ _ hi]
theorem infoK {t : List Nat} (h : t.length = 32) : (Try.prog.info? 23).map (·.size) = some (VN .u8 t).size := by rw [VN_size, h]; kernel_rfl
theorem infoNn {t : List Nat} (h : t.length = 12) : (Try.prog.info? 26).map (·.size) = some (VN .u8 t).size := by rw [VN_size, h]; kernel_rfl
theorem infoB {t : List Nat} (h : t.length = 64) : (Try.prog.info? 29).map (·.size) = some (VN .u8 t).size := by rw [VN_size, h]; kernel_rfl
def stI (key : List Nat) (k : Nat) : List Nat := [1634760805, 857760878, 2036477234, 1797285236] ++ (List.range 8).map (fun p => if p < k then wd key p else 0) ++ [0, 0, 0, 0]
def stJ (key : List Nat) (c : Nat) (nonce : List Nat) (k : Nat) : List Nat := [1634760805, 857760878, 2036477234, 1797285236] ++ (List.range 8).map (wd key) ++ [c] ++ (List.range 3).map (fun p => if p < k then wd nonce p else 0)
theorem stI_set (key : List Nat) (k : Nat) (hk : k < 8) : (stI key k).set (4 + k) (wd key k) = stI key (k + 1) := by
  rcases (by omega : k = 0 ∨ k = 1 ∨ k = 2 ∨ k = 3 ∨ k = 4 ∨ k = 5 ∨ k = 6 ∨ k = 7) with rfl | rfl | rfl | rfl | rfl | rfl | rfl | rfl <;> rfl
theorem stI_end (key : List Nat) (c : Nat) (nonce : List Nat) : (stI key 8).set 12 c = stJ key c nonce 0 := rfl
theorem stJ_set (key : List Nat) (c : Nat) (nonce : List Nat) (k : Nat) (hk : k < 3) : (stJ key c nonce k).set (13 + k) (wd nonce k) = stJ key c nonce (k + 1) := by
  rcases (by omega : k = 0 ∨ k = 1 ∨ k = 2) with rfl | rfl | rfl <;> rfl
theorem stJ_end (key : List Nat) (c : Nat) (nonce : List Nat) : stJ key c nonce 3 = st key c nonce := rfl
theorem stI_len (key : List Nat) (k : Nat) : (stI key k).length = 16 := by simp [stI]
theorem stJ_len (key : List Nat) (c : Nat) (nonce : List Nat) (k : Nat) : (stJ key c nonce k).length = 16 := by simp [stJ]
/-- begin's boxes -/
structure BW (n : Nat) (w : World) (key nonce L : List Nat) (wr : World) : Prop where
  old : Below n w wr
  sz : n + 4 ≤ wr.heap.size
  hk : RK wr n key 23
  hn : RK wr (n + 1) nonce 26
  hr : RW wr (n + 2) (List.replicate 16 0) 68
  hs : RW wr (n + 3) L 68
theorem BW.set {n : Nat} {w wr : World} {key nonce L : List Nat} (h : BW n w key nonce L wr) (i v : Nat) : BW n w key nonce (L.set i v) (wr.setCell ⟨n + 3, i, none⟩ (.int .u32 (v : Int))) :=
  ⟨h.old.setCell (by simp) _, by simpa using h.sz, (heap_setCell_other _ _ _ _ (by simp)).trans h.hk, (heap_setCell_other _ _ _ _ (by simp)).trans h.hn, h.hr.other (by omega) _ _, h.hs.set _ _⟩
theorem BW.but {n : Nat} {w wr w' : World} {key nonce L : List Nat} (h : BW n w key nonce L wr) (hb : But (fun _ => False) wr w') : BW n w key nonce L w' :=
  ⟨h.old.trans (hb.below (fun k hk => hk.elim)), by rw [hb.size]; exact h.sz, (hb.block _ (fun h => h)).trans h.hk, (hb.block _ (fun h => h)).trans h.hn, (hb.block _ (fun h => h)).trans h.hr, (hb.block _ (fun h => h)).trans h.hs⟩
theorem bw_start (w : World) (key nonce L : List Nat) : BW w.heap.size w key nonce L ((((w.alloc (.cells (VN .u8 key) 23)).alloc (.cells (VN .u8 nonce) 26)).alloc (.cells (VN .u32 (List.replicate 16 0)) 68)).alloc (.cells (VN .u32 L) 68)) := by
  refine ⟨((((Below.refl _ _).alloc (Nat.le_refl _) _).alloc (by simp) _).alloc (by simp; omega) _).alloc (by simp; omega) _, by simp [size_alloc], ?_, ?_, ?_, ?_⟩
  all_goals simp only [RW, RK, heap_alloc_any, size_alloc]
  · rw [if_neg (by omega), if_neg (by omega), if_neg (by omega), if_pos trivial]
  · rw [if_neg (by omega), if_neg (by omega), if_pos trivial]
  · rw [if_neg (by omega), if_pos trivial]
  · rw [if_pos trivial]
set_option maxRecDepth 100000 in
set_option maxHeartbeats 4000000 in
theorem begin_any (key nonce : List Nat) (c : Nat) (hk : Bs 32 key) (hn : Bs 12 nonce) (hc : c < 4294967296) (w : World) :
    Calls Try.prog 28 #[.agg (VN .u8 key), .int .u32 (c : Int), .agg (VN .u8 nonce)] w fun e w' => e = .returned (.agg (VN .u32 (st key c nonce))) ∧ Below w.heap.size w w' := by
  have hst := bw_start w key nonce (stI key 0)
  obtain ⟨n, hnn⟩ : ∃ n, w.heap.size = n := ⟨_, rfl⟩
  obtain ⟨W0, hW0⟩ : ∃ W, ((w.alloc (.cells (VN .u8 key) 23)).alloc (.cells (VN .u8 nonce) 26)).alloc (.cells (VN .u32 (List.replicate 16 0)) 68) = W := ⟨_, rfl⟩
  rw [hW0, hnn] at hst
  have hW0' : ((w.alloc (.cells (VN .u8 key) 23)).alloc (.cells (VN .u8 nonce) 26)).alloc (.cells #[.int .u32 0, .int .u32 0, .int .u32 0, .int .u32 0, .int .u32 0, .int .u32 0, .int .u32 0, .int .u32 0, .int .u32 0, .int .u32 0, .int .u32 0, .int .u32 0, .int .u32 0, .int .u32 0, .int .u32 0, .int .u32 0] 68) = W0 := hW0
  have HS0 : Hid (W0.heap.size = n + 3) := by
    show W0.heap.size = n + 3
    rw [← hW0, ← hnn]; simp [size_alloc]
  have HST : Hid (BW n w key nonce (stI key 0) (W0.alloc (.cells (VN .u32 (stI key 0)) 68))) := hst
  have HK : Hid (∀ i w', i < 8 → BW n w key nonce (stI key i) w' → Calls Try.prog 42 #[.pointer (some ⟨n, 4 * i, none⟩)] w' fun e w'' => e = .returned (.int .u32 ((wd key i : Nat) : Int)) ∧ But (fun _ => False) w' w'') := fun i w' hi h => by
    refine word_any n (4 * i) _ _ _ _ (hk.at (4 * i)) (hk.at (4 * i + 1)) (hk.at (4 * i + 2)) (hk.at (4 * i + 3)) w' ?_ ?_ ?_ ?_
    all_goals exact h.hk.cell (by rw [hk.len]; omega)
  have HNo : Hid (∀ i w', i < 3 → BW n w key nonce (stJ key c nonce i) w' → Calls Try.prog 42 #[.pointer (some ⟨n + 1, 4 * i, none⟩)] w' fun e w'' => e = .returned (.int .u32 ((wd nonce i : Nat) : Int)) ∧ But (fun _ => False) w' w'') := fun i w' hi h => by
    refine word_any (n + 1) (4 * i) _ _ _ _ (hn.at (4 * i)) (hn.at (4 * i + 1)) (hn.at (4 * i + 2)) (hn.at (4 * i + 3)) w' ?_ ?_ ?_ ?_
    all_goals exact h.hn.cell (by rw [hn.len]; omega)
  have HKw : Hid (∀ i, wd key i < 4294967296) := fun i => hk.wd i
  have HNw : Hid (∀ i, wd nonce i < 4294967296) := fun i => hn.wd i
  have HIS : Hid ((Try.prog.info? 68).map (·.size) = some (VN .u32 (st key c nonce)).size) := infoWs (st_st hk hn hc).len
  have HSZ : Hid ((VN .u32 (List.replicate 16 0)).size = (VN .u32 (st key c nonce)).size) := by
    have : (VN .u32 (List.replicate 16 0)).size = (VN .u32 (st key c nonce)).size := by rw [VN_size, VN_size, (st_st hk hn hc).len, List.length_replicate]
    exact this
  have HN : Hid (w.heap.size = n) := hnn
  clear hst hk hn hW0
  go_enter Try.func28, Try.ntmps28
  go_wp2_with (with_reducible refine at_list ?_; first | (refine hold_store 68 (.tmp 7) (.tmp 10) rfl ?_))
  refine store_row_new rfl 68 (.tmp 7) (.tmp 10) rfl W0.heap.size (VN .u32 (stI key 0)) rfl rfl rfl 68 (VN .u32 (List.replicate 16 0)) (infoWs (stI_len _ _)) (by rw [VN_size, VN_size, stI_len, List.length_replicate]) (VN_one _ _) ?_
  obtain ⟨W, hW⟩ : ∃ W, W0.alloc (.cells (VN .u32 (stI key 0)) 68) = W := ⟨_, rfl⟩
  rw [hW] at HST ⊢
  rw [HS0.out]
  clear hW hW0' HS0
  rw [show n + 1 + 1 = n + 2 from rfl]
  go_wp2
  go_loopw [11] (fun v w' => ∃ i : Nat, i ≤ 8 ∧ v = .int .i64 i ∧ BW n w key nonce (stI key i) w') (fun v _ => 8 - (intOf v).toNat)
  case atStart => exact ⟨0, Nat.zero_le _, rfl, HST.out⟩
  case round =>
    clear HST
    obtain ⟨i, hi, rfl, hp⟩ := hrel
    by_cases hlt : i < 8
    · have HC : Hid _ := HK.out i wr hlt hp
      have hwl := HKw.out i
      have HSt : Hid (∀ w', But (fun _ => False) wr w' → BW n w key nonce (stI key (i + 1)) (w'.setCell ⟨n + 3, 4 + i, none⟩ (.int .u32 ((wd key i : Nat) : Int))) ∧ (∃ x : Nat, w'.cell? ⟨n + 3, 4 + i, none⟩ = some (.int .u32 (x : Int))) ∧ w'.frozen? ⟨n + 3, 4 + i, none⟩ = false) := fun w' hb => by
        have h1 := (hp.but hb).set (4 + i) (wd key i)
        rw [stI_set _ _ hlt] at h1
        exact ⟨h1, ⟨_, (hp.but hb).hs.cell (by rw [stI_len]; omega)⟩, (hp.but hb).hs.froz _⟩
      generalize wd key i = xw at *
      have b1 : (i : Int) < 8 := by omega
      have b2 : 4 + (i : Int) < 16 := by omega
      have hsl := run_piece wr 23 32 n 0 Try.underlying23 (4 * (i : Int)) (4 * (i : Int) + 4) (4 * i) (4 * i + 4) (by omega) (by omega) (by omega) (by omega) (by omega)
      rw [show 4 * i + 4 - 4 * i = 4 by omega] at hsl
      have hat := run_four wr (some ⟨n, 4 * i, none⟩) (32 - 4 * i)
      clear hp HK HNo HKw HNw
      go_wp2_with (first | (go_at_call 42; refine Calls.mono HC.out ?_; rintro e w2 ⟨rfl, hb2⟩; obtain ⟨h3, ⟨x3, c3⟩, f3⟩ := HSt.out w2 hb2; have H3 : Hid _ := h3; clear h3 hb2))
      go_roundw
      case rel => exact ⟨i + 1, by omega, by go_num, H3.out⟩
      case measure => simp [intOf]; omega
    · have hi' : i = 8 := by omega
      rw [hi'] at hp
      clear hi'
      have h1 := hp.set 12 c
      rw [stI_end key c nonce] at h1
      have c1 := hp.hs.cell (i := 12) (by rw [stI_len]; decide)
      have f1 := hp.hs.froz 12
      generalize (stI key 8).getD 12 0 = x12 at c1
      obtain ⟨W1, hW1⟩ : ∃ W, wr.setCell ⟨n + 3, 12, none⟩ (.int .u32 (c : Int)) = W := ⟨_, rfl⟩
      rw [hW1] at h1
      have HP : Hid (BW n w key nonce (stJ key c nonce 0) W1) := h1
      clear hp h1 HK HKw
      go_wp2
      go_loopw [28] (fun v w' => ∃ i : Nat, i ≤ 3 ∧ v = .int .i64 i ∧ BW n w key nonce (stJ key c nonce i) w') (fun v _ => 3 - (intOf v).toNat)
      case atStart => exact ⟨0, Nat.zero_le _, rfl, HP.out⟩
      case round =>
        clear HP hW1 c1 f1
        obtain ⟨i2, hi2, rfl, hp⟩ := hrel
        by_cases hlt2 : i2 < 3
        · have HC : Hid _ := HNo.out i2 wr hlt2 hp
          have hwl := HNw.out i2
          have HSt : Hid (∀ w', But (fun _ => False) wr w' → BW n w key nonce (stJ key c nonce (i2 + 1)) (w'.setCell ⟨n + 3, 13 + i2, none⟩ (.int .u32 ((wd nonce i2 : Nat) : Int))) ∧ (∃ x : Nat, w'.cell? ⟨n + 3, 13 + i2, none⟩ = some (.int .u32 (x : Int))) ∧ w'.frozen? ⟨n + 3, 13 + i2, none⟩ = false) := fun w' hb => by
            have h1 := (hp.but hb).set (13 + i2) (wd nonce i2)
            rw [stJ_set _ _ _ _ hlt2] at h1
            exact ⟨h1, ⟨_, (hp.but hb).hs.cell (by rw [stJ_len]; omega)⟩, (hp.but hb).hs.froz _⟩
          generalize wd nonce i2 = xw at *
          have b1 : (i2 : Int) < 3 := by omega
          have b2 : 13 + (i2 : Int) < 16 := by omega
          have hsl := run_piece wr 26 12 (n + 1) 0 Try.underlying26 (4 * (i2 : Int)) (4 * (i2 : Int) + 4) (4 * i2) (4 * i2 + 4) (by omega) (by omega) (by omega) (by omega) (by omega)
          rw [show 4 * i2 + 4 - 4 * i2 = 4 by omega] at hsl
          have hat := run_four wr (some ⟨n + 1, 4 * i2, none⟩) (12 - 4 * i2)
          clear hp HNo HNw
          go_wp2_with (first | (go_at_call 42; refine Calls.mono HC.out ?_; rintro e w2 ⟨rfl, hb2⟩; obtain ⟨h3, ⟨x3, c3⟩, f3⟩ := HSt.out w2 hb2; have H3 : Hid _ := h3; clear h3 hb2))
          go_roundw
          case rel => exact ⟨i2 + 1, by omega, by go_num, H3.out⟩
          case measure => simp [intOf]; omega
        · have hi' : i2 = 3 := by omega
          subst hi'
          rw [stJ_end] at hp
          have HP : Hid (BW n w key nonce (st key c nonce) wr) := hp
          clear hp HNo HNw
          obtain ⟨rs, hrs⟩ : ∃ x, st key c nonce = x := ⟨_, rfl⟩
          have HEB : Hid (st key c nonce = rs) := hrs
          rw [hrs] at HP HIS HSZ
          clear hrs
          go_wp2_with (with_reducible refine at_list ?_; first | (refine wpList_load_row rfl 68 (.tmp 7) rfl (n + 3) rfl 68 (VN .u32 rs) (0, 0) _ HP.out.hs Try.underlying68 rfl HIS.out ?_) | (refine wpList_store_row rfl 68 (.tmp 6) (.tmp 43) rfl (n + 2) (VN .u32 rs) rfl rfl 68 (VN .u32 (List.replicate 16 0)) HP.out.hr HIS.out HSZ.out (VN_one _ _) ?_))
          refine bodyPost_ret (v := .agg (VN .u32 rs)) ?_ rfl ⟨by rw [HEB.out], below_setRow (by rw [HN.out]; exact HP.out.old) _ (by rw [HN.out]; omega) _⟩
          exact results_cell_row (P := Try.prog) (fn := Try.f28) (p := 6) (ty := 68) rfl _ _ (n + 2) 68 (VN .u32 rs) (0, 0) _ rfl (setRow_heap _ _ _ _ 68 _ HP.out.hr) Try.underlying68 rfl HIS.out
end Go.Proofs.Ytefnlaookmpbhaa
