import Derived.Test.YtefnlaookmpbhaaRsA
import Derived.Test.YtefnlaookmpbhaaStrM
namespace Go.Proofs.Ytefnlaookmpbhaa
set_option linter.unusedSimpArgs false
set_option linter.unusedVariables false
open Go.ChangeShapes Go.WideShapes Go.ChangeAt Go.RowKit Go.Pin Go.Str
/-- laid's boxes -/
structure LW (n : Nat) (w : World) (key nonce L : List Nat) (wr : World) : Prop where
  old : Below n w wr
  sz : n + 4 ≤ wr.heap.size
  hk : RK wr n key 23
  hn : RK wr (n + 1) nonce 26
  hr : RI wr (n + 2) (List.replicate 16 0) 61
  hs : RI wr (n + 3) L 61
theorem LW.set {n : Nat} {w wr : World} {key nonce L : List Nat} (h : LW n w key nonce L wr) (i v : Nat) : LW n w key nonce (L.set i v) (wr.setCell ⟨n + 3, i, none⟩ (.int .i64 (v : Int))) :=
  ⟨h.old.setCell (by simp) _, by simpa using h.sz, (heap_setCell_other _ _ _ _ (by simp)).trans h.hk, (heap_setCell_other _ _ _ _ (by simp)).trans h.hn, h.hr.other (by omega) _ _, h.hs.set _ _⟩
theorem LW.drew {n : Nat} {w wr : World} {key nonce L : List Nat} (h : LW n w key nonce L wr) : LW n w key nonce L wr.drew := ⟨h.old.drew, h.sz, h.hk, h.hn, h.hr, h.hs⟩
theorem lw_start (w : World) (key nonce : List Nat) : LW w.heap.size w key nonce (List.replicate 16 0) ((((w.alloc (.cells (VN .u8 key) 23)).alloc (.cells (VN .u8 nonce) 26)).alloc (.cells (VN .i64 (List.replicate 16 0)) 61)).alloc (.cells (VN .i64 (List.replicate 16 0)) 61)) := by
  refine ⟨((((Below.refl _ _).alloc (Nat.le_refl _) _).alloc (by simp) _).alloc (by simp; omega) _).alloc (by simp; omega) _, by simp [size_alloc], ?_, ?_, ?_, ?_⟩
  all_goals simp only [RI, RK, heap_alloc_any, size_alloc]
  · rw [if_neg (by omega), if_neg (by omega), if_neg (by omega), if_pos trivial]
  · rw [if_neg (by omega), if_neg (by omega), if_pos trivial]
  · rw [if_neg (by omega), if_pos trivial]
  · rw [if_pos trivial]
set_option maxRecDepth 100000 in
set_option maxHeartbeats 4000000 in
theorem rlaid (key nonce : List Nat) (c : Nat) (hk : Bs 32 key) (hn : Bs 12 nonce) (hc : c < 4294967296) (w : World) :
    Calls Try.prog 24 #[.agg (VN .u8 key), .int .u32 (c : Int), .agg (VN .u8 nonce)] w fun e w' => e = .returned (.agg (VN .i64 (st key c nonce))) ∧ Below w.heap.size w w' := by
  have h0 := lw_start w key nonce
  obtain ⟨n, hnn⟩ : ∃ n, w.heap.size = n := ⟨_, rfl⟩
  obtain ⟨W0, hW0⟩ : ∃ W, (((w.alloc (.cells (VN .u8 key) 23)).alloc (.cells (VN .u8 nonce) 26)).alloc (.cells (VN .i64 (List.replicate 16 0)) 61)).alloc (.cells (VN .i64 (List.replicate 16 0)) 61) = W := ⟨_, rfl⟩
  rw [hW0, hnn] at h0
  have hW0' : (((w.alloc (.cells (VN .u8 key) 23)).alloc (.cells (VN .u8 nonce) 26)).alloc (.cells #[.int .i64 0, .int .i64 0, .int .i64 0, .int .i64 0, .int .i64 0, .int .i64 0, .int .i64 0, .int .i64 0, .int .i64 0, .int .i64 0, .int .i64 0, .int .i64 0, .int .i64 0, .int .i64 0, .int .i64 0, .int .i64 0] 61)).alloc (.cells #[.int .i64 0, .int .i64 0, .int .i64 0, .int .i64 0, .int .i64 0, .int .i64 0, .int .i64 0, .int .i64 0, .int .i64 0, .int .i64 0, .int .i64 0, .int .i64 0, .int .i64 0, .int .i64 0, .int .i64 0, .int .i64 0] 61) = W0 := hW0
  have c0 := h0.hs.cell (i := 0) (by decide)
  have f0 := h0.hs.froz 0
  have h1 := h0.set 0 1634760805
  obtain ⟨W1, e1⟩ : ∃ W, W0.setCell ⟨n + 3, 0, none⟩ (.int .i64 ((1634760805 : Nat) : Int)) = W := ⟨_, rfl⟩
  rw [e1] at h1
  have c1 := h1.hs.cell (i := 1) (by decide)
  have f1 := h1.hs.froz 1
  have h2 := h1.set 1 857760878
  obtain ⟨W2, e2⟩ : ∃ W, W1.setCell ⟨n + 3, 1, none⟩ (.int .i64 ((857760878 : Nat) : Int)) = W := ⟨_, rfl⟩
  rw [e2] at h2
  have c2 := h2.hs.cell (i := 2) (by decide)
  have f2 := h2.hs.froz 2
  have h3 := h2.set 2 2036477234
  obtain ⟨W3, e3⟩ : ∃ W, W2.setCell ⟨n + 3, 2, none⟩ (.int .i64 ((2036477234 : Nat) : Int)) = W := ⟨_, rfl⟩
  rw [e3] at h3
  have c3 := h3.hs.cell (i := 3) (by decide)
  have f3 := h3.hs.froz 3
  have h4 := h3.set 3 1797285236
  obtain ⟨W4, e4⟩ : ∃ W, W3.setCell ⟨n + 3, 3, none⟩ (.int .i64 ((1797285236 : Nat) : Int)) = W := ⟨_, rfl⟩
  rw [e4] at h4
  have H4 : Hid (LW n w key nonce (stI key 0) W4) := h4
  have e1' : W0.setCell ⟨n + 3, 0, none⟩ (.int .i64 1634760805) = W1 := e1
  have e2' : W1.setCell ⟨n + 3, 1, none⟩ (.int .i64 857760878) = W2 := e2
  have e3' : W2.setCell ⟨n + 3, 2, none⟩ (.int .i64 2036477234) = W3 := e3
  have e4' : W3.setCell ⟨n + 3, 3, none⟩ (.int .i64 1797285236) = W4 := e4
  have HK : Hid (∀ i w', i < 8 → LW n w key nonce (stI key i) w' → ∃ x0 x1 x2 x3 y : Nat, x0 < 256 ∧ x1 < 256 ∧ x2 < 256 ∧ x3 < 256 ∧ w'.cell? ⟨n, 4 * i, none⟩ = some (.int .u8 (x0 : Int)) ∧ w'.cell? ⟨n, 4 * i + 1, none⟩ = some (.int .u8 (x1 : Int)) ∧ w'.cell? ⟨n, 4 * i + 2, none⟩ = some (.int .u8 (x2 : Int)) ∧ w'.cell? ⟨n, 4 * i + 3, none⟩ = some (.int .u8 (x3 : Int)) ∧ w'.cell? ⟨n + 3, 4 + i, none⟩ = some (.int .i64 (y : Int)) ∧ w'.frozen? ⟨n + 3, 4 + i, none⟩ = false ∧ LW n w key nonce (stI key (i + 1)) (w'.setCell ⟨n + 3, 4 + i, none⟩ (.int .i64 ((x0 : Int) + 256 * (x1 : Int) + 65536 * (x2 : Int) + 16777216 * (x3 : Int))))) := fun i w' hi h => by
    have hs := h.set (4 + i) (wd key i)
    rw [stI_set _ _ hi] at hs
    refine ⟨_, _, _, _, _, hk.at (4 * i), hk.at (4 * i + 1), hk.at (4 * i + 2), hk.at (4 * i + 3), h.hk.cell (by rw [hk.len]; omega), h.hk.cell (by rw [hk.len]; omega), h.hk.cell (by rw [hk.len]; omega), h.hk.cell (by rw [hk.len]; omega), h.hs.cell (by rw [stI_len]; omega), h.hs.froz _, ?_⟩
    rw [show (((wd key i : Nat)) : Int) = ((key.getD (4 * i) 0 : Nat) : Int) + 256 * ((key.getD (4 * i + 1) 0 : Nat) : Int) + 65536 * ((key.getD (4 * i + 2) 0 : Nat) : Int) + 16777216 * ((key.getD (4 * i + 3) 0 : Nat) : Int) by unfold wd; omega] at hs
    exact hs
  have HNo : Hid (∀ i w', i < 3 → LW n w key nonce (stJ key c nonce i) w' → ∃ x0 x1 x2 x3 y : Nat, x0 < 256 ∧ x1 < 256 ∧ x2 < 256 ∧ x3 < 256 ∧ w'.cell? ⟨n + 1, 4 * i, none⟩ = some (.int .u8 (x0 : Int)) ∧ w'.cell? ⟨n + 1, 4 * i + 1, none⟩ = some (.int .u8 (x1 : Int)) ∧ w'.cell? ⟨n + 1, 4 * i + 2, none⟩ = some (.int .u8 (x2 : Int)) ∧ w'.cell? ⟨n + 1, 4 * i + 3, none⟩ = some (.int .u8 (x3 : Int)) ∧ w'.cell? ⟨n + 3, 13 + i, none⟩ = some (.int .i64 (y : Int)) ∧ w'.frozen? ⟨n + 3, 13 + i, none⟩ = false ∧ LW n w key nonce (stJ key c nonce (i + 1)) (w'.setCell ⟨n + 3, 13 + i, none⟩ (.int .i64 ((x0 : Int) + 256 * (x1 : Int) + 65536 * (x2 : Int) + 16777216 * (x3 : Int))))) := fun i w' hi h => by
    have hs := h.set (13 + i) (wd nonce i)
    rw [stJ_set _ _ _ _ hi] at hs
    refine ⟨_, _, _, _, _, hn.at (4 * i), hn.at (4 * i + 1), hn.at (4 * i + 2), hn.at (4 * i + 3), h.hn.cell (by rw [hn.len]; omega), h.hn.cell (by rw [hn.len]; omega), h.hn.cell (by rw [hn.len]; omega), h.hn.cell (by rw [hn.len]; omega), h.hs.cell (by rw [stJ_len]; omega), h.hs.froz _, ?_⟩
    rw [show (((wd nonce i : Nat)) : Int) = ((nonce.getD (4 * i) 0 : Nat) : Int) + 256 * ((nonce.getD (4 * i + 1) 0 : Nat) : Int) + 65536 * ((nonce.getD (4 * i + 2) 0 : Nat) : Int) + 16777216 * ((nonce.getD (4 * i + 3) 0 : Nat) : Int) by unfold wd; omega] at hs
    exact hs
  have HIS : Hid ((st key c nonce).length = 16) := (st_st hk hn hc).len
  have HN : Hid (w.heap.size = n) := hnn
  generalize List.getD _ 0 0 = z0 at c0
  generalize List.getD _ 1 0 = z1 at c1
  generalize List.getD _ 2 0 = z2 at c2
  generalize List.getD _ 3 0 = z3 at c3
  clear h0 h1 h2 h3 h4 e1 e2 e3 e4 hk hn hW0
  go_enter Try.func24, Try.ntmps24
  go_wp2
  rw [show n + 1 + 1 + 1 = n + 3 from rfl, show n + 1 + 1 = n + 2 from rfl]
  clear hW0' c0 c1 c2 c3 f0 f1 f2 f3 e1' e2' e3' e4'
  go_loopw [8] (fun v w' => ∃ i : Nat, i ≤ 8 ∧ v = .int .i64 (i : Int) ∧ LW n w key nonce (stI key i) w') (fun v _ => 8 - (intOf v).toNat)
  case atStart => exact ⟨0, Nat.zero_le _, rfl, H4.out⟩
  case round =>
    clear H4
    obtain ⟨i, hi, rfl, hp⟩ := hrel
    by_cases hlt : i < 8
    · obtain ⟨x0, x1, x2, x3, y, r0, r1, r2, r3, k0, k1, k2, k3, k4, k5, h5⟩ := HK.out i wr hlt hp
      have b1 : (i : Int) < 8 := by omega
      have H5 : Hid (LW n w key nonce (stI key (i + 1)) (wr.setCell ⟨n + 3, 4 + i, none⟩ (.int .i64 ((x0 : Int) + 256 * (x1 : Int) + 65536 * (x2 : Int) + 16777216 * (x3 : Int))))) := h5
      clear hp h5 HK HNo
      go_wp2
      go_region
      go_wp2
      go_roundw
      case rel => exact ⟨i + 1, by omega, by go_num, H5.out.drew⟩
      case measure => simp [intOf]; omega
    · have hi' : i = 8 := by omega
      rw [hi'] at hp
      clear hi'
      have h1 := hp.set 12 c
      rw [stI_end key c nonce] at h1
      have c1 := hp.hs.cell (i := 12) (by rw [stI_len]; decide)
      have f1 := hp.hs.froz 12
      generalize (stI key 8).getD 12 0 = x12 at c1
      obtain ⟨W1, hW1⟩ : ∃ W, wr.setCell ⟨n + 3, 12, none⟩ (.int .i64 (c : Int)) = W := ⟨_, rfl⟩
      rw [hW1] at h1
      have HP : Hid (LW n w key nonce (stJ key c nonce 0) W1) := h1
      clear hp h1 HK
      go_wp2
      go_loopw [9] (fun v w' => ∃ i : Nat, i ≤ 3 ∧ v = .int .i64 (i : Int) ∧ LW n w key nonce (stJ key c nonce i) w') (fun v _ => 3 - (intOf v).toNat)
      case atStart => exact ⟨0, Nat.zero_le _, rfl, HP.out⟩
      case round =>
        clear HP hW1 c1 f1
        obtain ⟨i2, hi2, rfl, hp⟩ := hrel
        by_cases hlt2 : i2 < 3
        · obtain ⟨x0, x1, x2, x3, y, r0, r1, r2, r3, k0, k1, k2, k3, k4, k5, h5⟩ := HNo.out i2 wr hlt2 hp
          have b1 : (i2 : Int) < 3 := by omega
          have H5 : Hid (LW n w key nonce (stJ key c nonce (i2 + 1)) (wr.setCell ⟨n + 3, 13 + i2, none⟩ (.int .i64 ((x0 : Int) + 256 * (x1 : Int) + 65536 * (x2 : Int) + 16777216 * (x3 : Int))))) := h5
          clear hp h5 HNo
          go_wp2
          go_region
          go_wp2
          go_roundw
          case rel => exact ⟨i2 + 1, by omega, by go_num, H5.out.drew⟩
          case measure => simp [intOf]; omega
        · have hi' : i2 = 3 := by omega
          rw [hi', stJ_end] at hp
          have HP : Hid (LW n w key nonce (st key c nonce) wr) := hp
          clear hp HNo hi'
          obtain ⟨rs, hrs⟩ : ∃ x, st key c nonce = x := ⟨_, rfl⟩
          have HEB : Hid (st key c nonce = rs) := hrs
          rw [hrs] at HP HIS
          clear hrs
          go_wp2_with (with_reducible refine at_list ?_; first | (refine wpList_load_row rfl 61 (.tmp 7) rfl (n + 3) rfl 61 (VN .i64 rs) (0, 0) _ HP.out.hs Try.underlying61 rfl (info16i HIS.out) ?_) | (refine wpList_store_row rfl 61 (.tmp 6) (.tmp 89) rfl (n + 2) (VN .i64 rs) rfl rfl 61 (VN .i64 (List.replicate 16 0)) HP.out.hr (info16i HIS.out) (by rw [VN_size, VN_size, HIS.out, List.length_replicate]) (VN_one _ _) ?_))
          refine bodyPost_ret (v := .agg (VN .i64 rs)) ?_ rfl ⟨by rw [HEB.out], below_setRow (by rw [HN.out]; exact HP.out.old) _ (by rw [HN.out]; omega) _⟩
          exact results_cell_row (P := Try.prog) (fn := Try.f24) (p := 6) (ty := 61) rfl _ _ (n + 2) 61 (VN .i64 rs) (0, 0) _ rfl (setRow_heap _ _ _ _ 61 _ HP.out.hr) Try.underlying61 rfl (info16i HIS.out)
end Go.Proofs.Ytefnlaookmpbhaa
