import Derived.Test.YtgfamcadgahiiabPrmE
namespace Go.Proofs.Ytgfamcadgahiiab
set_option linter.unusedSimpArgs false
open Go.ChangeShapes Go.WideShapes Go.ChangeAt Go.RowKit Go.Pin Go.Prm
/-- 17 bytes -/
structure Key17 (b : List Int) : Prop where
  len : b.length = 17
  bd : ∀ x ∈ b, 0 ≤ x ∧ x < 256
theorem Key17.info {b : List Int} (h : Key17 b) : (Try.prog.info? 71).map (·.size) = some (VI .u8 b).size := by rw [VI_size, h.len]; exact info17
/-- Decode's boxes -/
structure DW (n : Nat) (w : World) (L : List Int) (wr : World) : Prop where
  old : Below n w wr
  sz : n + 3 ≤ wr.heap.size
  hr : rowAt wr (n + 1) (List.replicate 5 0) 69
  hl : rowAt wr (n + 2) L 90
theorem DW.set {n : Nat} {w wr : World} {L : List Int} (h : DW n w L wr) (i : Nat) (v : Int) : DW n w (L.set i v) (wr.setCell ⟨n + 2, i, none⟩ (.int .u64 v)) :=
  ⟨h.old.setCell (by simp) _, by simpa using h.sz, row_other h.hr (by simp) _, row_set h.hl _ _⟩
theorem DW.below {n : Nat} {w wr w' : World} {L : List Int} (h : DW n w L wr) (hb : Below (n + 3) wr w') : DW n w L w' :=
  ⟨h.old.trans (hb.mono (by omega)), Nat.le_trans h.sz hb.size, (hb.block _ (by omega)).trans h.hr, (hb.block _ (by omega)).trans h.hl⟩
theorem DW.drew {n : Nat} {w wr : World} {L : List Int} (h : DW n w L wr) : DW n w L wr.drew := ⟨h.old.drew, h.sz, h.hr, h.hl⟩
theorem dw_start (w : World) (b : List Int) : DW w.heap.size w (List.replicate 6 0) (((w.alloc (.cells (VI .u8 b) 71)).alloc (.cells (VI .u64 (List.replicate 5 0)) 69)).alloc (.cells (VI .u64 (List.replicate 6 0)) 90)) ∧
    rowB (((w.alloc (.cells (VI .u8 b) 71)).alloc (.cells (VI .u64 (List.replicate 5 0)) 69)).alloc (.cells (VI .u64 (List.replicate 6 0)) 90)) w.heap.size b 71 := by
  refine ⟨⟨(((Below.refl _ _).alloc (Nat.le_refl _) _).alloc (by simp) _).alloc (by simp; omega) _, by simp [size_alloc], ?_, ?_⟩, ?_⟩
  all_goals simp only [rowAt, rowB, heap_alloc_any, size_alloc]
  · rw [if_neg (by omega), if_pos trivial]
  · rw [if_pos trivial]
  · rw [if_neg (by omega), if_neg (by omega), if_pos trivial]
/-- what Decode makes of bytes -/
def dec (b : List Int) : List Int := (LL (nb b)).take 5
theorem dec_lim (b : List Int) : Lim (dec b) := ⟨(LL_V _).2.2, fun x hx => by have := (LL_V (nb b)).2.1 x hx; omega⟩
set_option maxRecDepth 100000 in
set_option maxHeartbeats 4000000 in
theorem block_any (b : List Int) (hb : Key17 b) (w : World) :
    Calls Try.prog 32 #[.agg (VI .u8 b)] w fun e w' => e = .returned (.agg (VI .u64 (blk b))) ∧ Below w.heap.size w w' := by
  have hx := fun (i : Nat) (h : i < 17) (w : World) => run_index_row (P := Try.prog) w 71 5 .u8 .i64 17 b i hb.len h Try.underlying71 Try.underlying5 size5
  obtain ⟨hdw, hrb⟩ := dw_start w b
  obtain ⟨W, hW⟩ : ∃ W, ((w.alloc (.cells (VI .u8 b) 71)).alloc (.cells (VI .u64 (List.replicate 5 0)) 69)).alloc (.cells (VI .u64 (List.replicate 6 0)) 90) = W := ⟨_, rfl⟩
  have hW' : ((w.alloc (.cells (VI .u8 b) 71)).alloc (.cells #[.int .u64 0, .int .u64 0, .int .u64 0, .int .u64 0, .int .u64 0] 69)).alloc (.cells #[.int .u64 0, .int .u64 0, .int .u64 0, .int .u64 0, .int .u64 0, .int .u64 0] 90) = W := hW
  rw [hW] at hdw hrb
  have HD : Hid (DW w.heap.size w (LL (nbk b 0)) W) := by rw [show LL (nbk b 0) = List.replicate 6 0 from LL_zero]; exact hdw
  have HRB : Hid (rowB W w.heap.size b 71) := hrb
  have HB : Hid (Key17 b) := hb
  have HI : Hid ((Try.prog.info? 71).map (·.size) = some (VI .u8 b).size) := hb.info
  clear hdw hrb hW hb
  go_enter Try.func32, Try.ntmps32
  go_wp2_with (first | go_in | (with_reducible refine at_list ?_; refine wpList_load_row rfl 71 (.tmp 1) rfl w.heap.size rfl 71 (VI .u8 b) (0, 0) _ HRB.out Try.underlying71 rfl HI.out ?_))
  go_loopw [9] (fun i w' => ∃ k : Nat, k ≤ 17 ∧ i = .int .i64 k ∧ DW w.heap.size w (LL (nbk b k)) w') (fun i _ => 17 - (intOf i).toNat)
  case atStart => exact ⟨0, Nat.zero_le _, rfl, HD.out⟩
  case round =>
    clear HD HRB hW'
    obtain ⟨k, hk, rfl, hp⟩ := hrel
    by_cases hlt : k < 17
    · have hxk := hx k hlt
      have hkb : k < b.length := by rw [HB.out.len]; exact hlt
      obtain ⟨x0, x1⟩ := HB.out.bd _ (List.getElem_mem hkb)
      obtain ⟨x, hxe⟩ := Int.eq_ofNat_of_zero_le x0
      have hxd : b.getD k 0 = (x : Int) := by rw [List.getD_eq_getElem?_getD, List.getElem?_eq_getElem hkb]; exact hxe
      rw [hxe] at x1
      rw [hxd] at hxk
      have hx256 : x < 256 := by omega
      obtain ⟨q, hq⟩ : ∃ q : Nat, q = 8 * k / 26 := ⟨_, rfl⟩
      obtain ⟨r, hr⟩ : ∃ r : Nat, r = 8 * k % 26 := ⟨_, rfl⟩
      have hq' : (8 * (k : Int)) / 26 = (q : Int) := by omega
      have hr' : (8 * (k : Int)) % 26 = (r : Int) := by omega
      have hq5 : q < 5 := by omega
      have hq5' : (q : Int) < 5 := by omega
      have hr26 : r < 26 := by omega
      have hr26' : (r : Int) < 26 := by omega
      have hcq := row_cell hp.hl (i := q) (by rw [LL_len]; omega)
      have hcq1 := row_cell hp.hl (i := q + 1) (by rw [LL_len]; omega)
      have hfz : wr.frozen? ⟨w.heap.size + 2, q, none⟩ = false := frozen_of_row wr _ _ _ _ hp.hl
      have hfz1 : wr.frozen? ⟨w.heap.size + 2, q + 1, none⟩ = false := frozen_of_row wr _ _ _ _ hp.hl
      have hst := dec_step (nbk b k) x q r k hx256 (by omega) hr26 hq5
      have e : LL (nbk b (k + 1)) = LL (nbk b k ||| x <<< (8 * k)) := by rw [nbk, hxd]; rfl
      have HST : Hid (∀ W1, DW w.heap.size w (LL (nbk b k)) W1 → DW w.heap.size w (LL (nbk b (k + 1))) ((W1.setCell ⟨w.heap.size + 2, q, none⟩ (.int .u64 (bits .or .u64 ((LL (nbk b k)).getD q 0) (bits .and .u64 (IntKind.u64.wrap ((x : Int) * 2 ^ r)) 67108863)))).drew.setCell ⟨w.heap.size + 2, q + 1, none⟩ (.int .u64 (bits .or .u64 ((LL (nbk b k)).getD (q + 1) 0) ((x : Int) / 2 ^ (26 - r)))))) := fun W1 h1 => by
        rw [e, ← hst]
        exact ((h1.set _ _).drew).set _ _
      have HP : Hid (DW w.heap.size w (LL (nbk b k)) wr) := hp
      clear hp hst e hx hxe hxd hq hr x0
      generalize (LL (nbk b k)).getD q 0 = u at *
      generalize (LL (nbk b k)).getD (q + 1) 0 = v at *
      go_wp2
      go_region
      go_wp2
      go_region
      go_wp2
      go_roundw
      case rel => exact ⟨k + 1, by omega, by go_num, (HST.out _ HP.out).drew⟩
      case measure => simp [intOf]; omega
    · have hk' : k = 17 := by omega
      subst hk'
      have HP : Hid (DW w.heap.size w (LL (nb b)) wr) := hp
      obtain ⟨Ck, hCk⟩ : ∃ Ck, wr.heap.size = Ck := ⟨_, rfl⟩
      have hC3 : w.heap.size + 3 ≤ Ck := by rw [← hCk]; exact hp.sz
      have hp2 : DW w.heap.size w (LL (nb b)) (wr.alloc (.cells (VI .u64 (List.replicate 5 0)) 69)) ∧ rowAt (wr.alloc (.cells (VI .u64 (List.replicate 5 0)) 69)) Ck (List.replicate 5 0) 69 := by
        refine ⟨HP.out.below ((Below.refl _ _).alloc HP.out.sz _), ?_⟩
        simp only [rowAt, heap_alloc_any, hCk, if_true]
      have HP2 : Hid (DW w.heap.size w (LL (nb b)) (wr.alloc (.cells (VI .u64 (List.replicate 5 0)) 69)) ∧ rowAt (wr.alloc (.cells (VI .u64 (List.replicate 5 0)) 69)) Ck (List.replicate 5 0) 69) := hp2
      clear hp hp2 hx hlt hk HP
      rw [show ((17 : Nat) : Int) = 17 from rfl]
      go_wp2
      go_loopw [43] (fun i w' => ∃ k : Nat, k ≤ 5 ∧ i = .int .i64 k ∧ DW w.heap.size w (LL (nb b)) w' ∧ rowAt w' Ck ((dec b).take k ++ (List.replicate 5 (0 : Int)).drop k) 69) (fun i _ => 5 - (intOf i).toNat)
      case atStart => exact ⟨0, Nat.zero_le _, rfl, HP2.out⟩
      case round =>
        clear HP2 hCk
        obtain ⟨k, hk, rfl, hp, hpC⟩ := hrel
        by_cases hlt : k < 5
        · have hk5 : k < (dec b).length := by rw [(dec_lim b).len]; exact hlt
          have hcl := row_cell hp.hl (i := k) (by rw [LL_len]; omega)
          rw [show (LL (nb b)).getD k 0 = (dec b)[k] by
            rw [List.getD_eq_getElem?_getD, List.getElem?_eq_getElem (by rw [LL_len]; omega)]; simp [dec]] at hcl
          have hcc := row_cell hpC (i := k) (by simp [(dec_lim b).len]; omega)
          have hfz : wr.frozen? ⟨Ck, k, none⟩ = false := frozen_of_row wr _ _ _ _ hpC
          have hst := row_set hpC k (dec b)[k]
          rw [set_step _ _ _ hk5 (by simpa using hlt)] at hst
          have HST : Hid (rowAt (wr.setCell ⟨Ck, k, none⟩ (.int .u64 (dec b)[k])) Ck ((dec b).take (k + 1) ++ (List.replicate 5 (0 : Int)).drop (k + 1)) 69) := hst
          have HSE : Hid (∀ v, DW w.heap.size w (LL (nb b)) (wr.setCell ⟨Ck, k, none⟩ v)) := fun v => hp.below ((Below.refl _ _).setCell hC3 _)
          clear hp hpC hst
          generalize (dec b)[k] = y at *
          generalize List.getD _ k 0 = z at hcc
          go_wp2
          go_roundw
          case rel => exact ⟨k + 1, by omega, by go_num, HSE.out _, HST.out⟩
          case measure => simp [intOf]; omega
        · have hk' : k = 5 := by omega
          subst hk'
          rw [List.take_of_length_le (by rw [(dec_lim b).len]; omega), List.drop_of_length_le (by simp), List.append_nil] at hpC
          have h5 : (LL (nb b)).getD 5 0 < 64 ∧ 0 ≤ (LL (nb b)).getD 5 0 := by
            rw [LL_at _ 5 (by decide)]
            have := (limb5 (nb_lt b HB.out.bd)).2
            omega
          have hd0 := lim_at (dec_lim b) (k := 0) (by decide)
          have hc5 := row_cell hp.hl (i := 5) (by rw [LL_len]; omega)
          have e0 : (LL (nb b)).getD 0 0 = (dec b).getD 0 0 := by rw [LL_at _ 0 (by decide)]; rfl
          have hbe : blk b = (dec b).set 0 ((dec b).getD 0 0 + 5 * (LL (nb b)).getD 5 0) := by unfold blk; rw [e0]; rfl
          obtain ⟨x0, x1, x2, x3, x4, hxe, hx0, hx1, hx2, hx3, hx4, hf0, _, _, _, _⟩ := row5 hpC (dec_lim b).len
          rw [hxe.out] at hd0 hbe
          have HBE : Hid (blk b = [x0 + 5 * (LL (nb b)).getD 5 0, x1, x2, x3, x4]) := hbe
          obtain ⟨d0, d1⟩ := hd0
          simp only [List.getD_cons_zero] at d0 d1
          clear hbe
          generalize (LL (nb b)).getD 5 0 = y at *
          obtain ⟨y1, y0⟩ := h5
          obtain ⟨_, _, _, _, _, _, hy0, hy1, hy2, hy3, hy4, hz0, hz1, hz2, hz3, hz4⟩ := row5 hp.hr (by simp)
          have HP : Hid (DW w.heap.size w (LL (nb b)) wr) := hp
          have HSE : Hid (∀ v, DW w.heap.size w (LL (nb b)) (wr.setCell ⟨Ck, 0, none⟩ v)) := fun v => hp.below ((Below.refl _ _).setCell hC3 _)
          clear hp hpC hlt hk e0
          rw [show ((5 : Nat) : Int) = 5 from rfl]
          go_wp2
          refine bodyPost_ret (v := .agg (VI .u64 [x0 + 5 * y, x1, x2, x3, x4])) ?_ rfl ⟨by rw [HBE.out], (((((HSE.out _).old.setCell (by simp) _).setCell (by simp) _).setCell (by simp) _).setCell (by simp) _).setCell (by simp) _⟩
          exact results_cell_row (P := Try.prog) (fn := Try.f32) (p := 2) (ty := 69) rfl _ _ (w.heap.size + 1) 69 (VI .u64 [x0 + 5 * y, x1, x2, x3, x4]) (0, 0) _ rfl (store5 (HSE.out _).hr (x0 + 5 * y) x1 x2 x3 x4) Try.underlying69 rfl infoE
end Go.Proofs.Ytgfamcadgahiiab
