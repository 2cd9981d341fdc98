import Derived.Test.YtgfamcadgahiiaaMmab
namespace Go.Proofs.Ytgfamcadgahiiaa
set_option linter.unusedSimpArgs false
open Go.ChangeShapes Go.WideShapes Go.ChangeAt Go.RowKit Go.Pin Go.Prm
theorem info17 : (Try.prog.info? 67).map (·.size) = some 17 := by kernel_rfl
theorem size24 : ∀ w, (sizeOf 63).run Try.prog w = .ok 1 w := fun _ => by kernel_rfl
theorem size5 : ∀ w, (sizeOf 5).run Try.prog w = .ok 1 w := fun _ => by kernel_rfl
abbrev rowB (w : World) (g : Nat) (l : List Int) (T : TypeId) : Prop := w.heap[g]? = some (.cells (VI .u8 l) T (0, 0))
theorem rowB_cell {w : World} {g : Nat} {l : List Int} {T : TypeId} (h : rowB w g l T) {i : Nat} (hi : i < l.length) : w.cell? ⟨g, i, none⟩ = some (.int .u8 (l.getD i 0)) := by
  rw [cell_of_row w _ _ _ _ _ h, VI_at _ _ _ hi]
theorem rowB_set {w : World} {g : Nat} {l : List Int} {T : TypeId} (h : rowB w g l T) (i : Nat) (v : Int) : rowB (w.setCell ⟨g, i, none⟩ (.int .u8 v)) g (l.set i v) T := by
  unfold rowB
  rw [heap_setCell_same w _ _ _ _ _ h, VI_set]
/-- Encode's boxes -/
structure EW (n : Nat) (w : World) (L : List Int) (wr : World) : Prop where
  old : Below n w wr
  sz : n + 3 ≤ wr.heap.size
  hr : rowB wr (n + 1) (List.replicate 17 0) 67
  hl : rowAt wr (n + 2) L 114
theorem EW.set {n : Nat} {w wr : World} {L : List Int} (h : EW n w L wr) (i : Nat) (v : Int) : EW n w (L.set i v) (wr.setCell ⟨n + 2, i, none⟩ (.int .u64 v)) :=
  ⟨h.old.setCell (by simp) _, by simpa using h.sz, row_other h.hr (by simp) _, row_set h.hl _ _⟩
theorem EW.below {n : Nat} {w wr w' : World} {L : List Int} (h : EW n w L wr) (hb : Below (n + 3) wr w') : EW n w L w' :=
  ⟨h.old.trans (hb.mono (by omega)), Nat.le_trans h.sz hb.size, (hb.block _ (by omega)).trans h.hr, (hb.block _ (by omega)).trans h.hl⟩
theorem ew_start (w : World) (a : List Int) : EW w.heap.size w (List.replicate 6 0) (((w.alloc (.cells (VI .u64 a) 66)).alloc (.cells (VI .u8 (List.replicate 17 0)) 67)).alloc (.cells (VI .u64 (List.replicate 6 0)) 114)) ∧
    rowAt (((w.alloc (.cells (VI .u64 a) 66)).alloc (.cells (VI .u8 (List.replicate 17 0)) 67)).alloc (.cells (VI .u64 (List.replicate 6 0)) 114)) w.heap.size a 66 := by
  refine ⟨⟨(((Below.refl _ _).alloc (Nat.le_refl _) _).alloc (by simp) _).alloc (by simp; omega) _, by simp [size_alloc], ?_, ?_⟩, ?_⟩
  all_goals simp only [rowAt, rowB, heap_alloc_any, size_alloc]
  · rw [if_neg (by omega), if_pos trivial]
  · rw [if_pos trivial]
  · rw [if_neg (by omega), if_neg (by omega), if_pos trivial]
set_option maxRecDepth 100000 in
set_option maxHeartbeats 4000000 in
theorem encode_any (a : List Int) (ha : Lim a) (w : World) :
    Calls Try.prog 55 #[.agg (VI .u64 a)] w fun e w' => e = .returned (.agg (VI .u8 (bts (V a % 1361129467683753853853498429727072845819).toNat))) ∧ Below w.heap.size w w' := by
  obtain ⟨s0, s1, s2, s3, s4, c, hs, p0, q0, p1, q1, p2, q2, p3, q3, p4, q4, hc, c0, c1, hl, hv, hlb, hll⟩ := lst_facts ha
  clear hs p0 q0 p1 q1 p2 q2 p3 q3 p4 q4 hc c0 c1 hl
  have hx := fun (i : Nat) (h : i < 5) (w : World) => run_index_row (P := Try.prog) w 64 63 .u64 .i64 5 (lst a) i hll h Try.underlying64 Try.underlying63 size24
  obtain ⟨hew, hra⟩ := ew_start w a
  have HA : Hid (Lim a) := ha
  obtain ⟨a0, a1, a2, a3, a4, hae⟩ := five ha.len
  rw [hae] at hra
  obtain ⟨W, hW⟩ : ∃ W, ((w.alloc (.cells (VI .u64 a) 66)).alloc (.cells (VI .u8 (List.replicate 17 0)) 67)).alloc (.cells (VI .u64 (List.replicate 6 0)) 114) = W := ⟨_, rfl⟩
  rw [← hae] at hra
  rw [hW] at hew hra
  rw [hae] at hra
  obtain ⟨hc0, hc1, hc2, hc3, hc4⟩ := cells5 hra
  have HE : Hid (EW w.heap.size w (List.replicate 6 0) W) := hew
  have HLA : Hid (∀ w, Calls Try.prog 63 #[.agg #[.int .u64 a0, .int .u64 a1, .int .u64 a2, .int .u64 a3, .int .u64 a4]] w fun e w' => e = .returned (.agg (VI .u64 (lst a))) ∧ Below w.heap.size w w') := fun w => by
    have := least_any a ha w
    rw [show (VI .u64 a) = #[.int .u64 a0, .int .u64 a1, .int .u64 a2, .int .u64 a3, .int .u64 a4] by rw [hae]; rfl] at this
    exact this
  have hW' : ((w.alloc (.cells (VI .u64 a) 66)).alloc (.cells #[.int .u8 0, .int .u8 0, .int .u8 0, .int .u8 0, .int .u8 0, .int .u8 0, .int .u8 0, .int .u8 0, .int .u8 0, .int .u8 0, .int .u8 0, .int .u8 0, .int .u8 0, .int .u8 0, .int .u8 0, .int .u8 0, .int .u8 0] 67)).alloc (.cells #[.int .u64 0, .int .u64 0, .int .u64 0, .int .u64 0, .int .u64 0, .int .u64 0] 114) = W := hW
  clear hew hra hW ha hae
  have HV : Hid (V (lst a) = V a % 1361129467683753853853498429727072845819) := hv
  have HLB : Hid (∀ x ∈ lst a, 0 ≤ x ∧ x < 67108864) := hlb
  clear hv hlb
  go_enter Try.func55, Try.ntmps55
  go_wp2_with (go_at_call 63; refine (HLA.out _).mono ?_; rintro e w2 ⟨rfl, hb2⟩; have HE2 : Hid (EW w.heap.size w (List.replicate 6 0) w2) := HE.out.below (hb2.mono HE.out.sz); clear hb2)
  clear hc0 hc1 hc2 hc3 hc4 HE HLA hW'
  have h6 : (lst a ++ [0]).length = 6 := by simp [hll]
  go_loopw [10] (fun i w' => ∃ k : Nat, k ≤ 5 ∧ i = .int .i64 k ∧ EW w.heap.size w ((lst a ++ [0]).take k ++ (List.replicate 6 (0 : Int)).drop k) w') (fun i _ => 5 - (intOf i).toNat)
  case atStart => exact ⟨0, Nat.zero_le _, rfl, HE2.out⟩
  case round =>
    clear HE2
    obtain ⟨k, hk, rfl, hp⟩ := hrel
    by_cases hlt : k < 5
    · have hxk := hx k hlt
      have hst := hp.set k ((lst a)[k]'(by omega))
      rw [show (lst a)[k]'(by omega) = (lst a ++ [0])[k]'(by omega) from (List.getElem_append_left (by omega)).symm, set_step _ _ _ (by omega) (by simp; omega), List.getElem_append_left (by omega)] at hst
      have hcl := row_cell hp.hl (i := k) (by simp; omega)
      have hfz : wr.frozen? ⟨w.heap.size + 2, k, none⟩ = false := frozen_of_row wr _ _ _ _ hp.hl
      rw [List.getD_eq_getElem?_getD, List.getElem?_eq_getElem (show k < (lst a).length by omega), Option.getD_some] at hxk
      generalize (lst a)[k]'(by omega) = y at *
      have HST : Hid (EW w.heap.size w ((lst a ++ [0]).take (k + 1) ++ (List.replicate 6 (0 : Int)).drop (k + 1)) (wr.setCell ⟨w.heap.size + 2, k, none⟩ (.int .u64 y))) := hst
      clear hp hst hx
      go_wp2
      go_roundw
      case rel => exact ⟨k + 1, by omega, by go_num, HST.out⟩
      case measure => simp [intOf]; omega
    · have hk' : k = 5 := by omega
      subst hk'
      have e5 : (lst a ++ [0]).take 5 ++ (List.replicate 6 (0 : Int)).drop 5 = lst a ++ [0] := by
        rw [show 5 = (lst a).length from hll.symm, List.take_left, hll]; rfl
      rw [e5] at hp
      have hsz : wr.heap.size = wr.heap.size := rfl
      have HP : Hid (EW w.heap.size w (lst a ++ [0]) wr) := hp
      obtain ⟨Bk, hBk⟩ : ∃ Bk, wr.heap.size = Bk := ⟨_, rfl⟩
      have hB3 : w.heap.size + 3 ≤ Bk := by rw [← hBk]; exact hp.sz
      clear hp hx hlt hk hsz
      rw [show ((5 : Nat) : Int) = 5 from rfl]
      have hp2 : EW w.heap.size w (lst a ++ [0]) (wr.alloc (.cells (VI .u8 (List.replicate 17 0)) 67)) ∧ rowB (wr.alloc (.cells (VI .u8 (List.replicate 17 0)) 67)) Bk (List.replicate 17 0) 67 := by
        refine ⟨HP.out.below ((Below.refl _ _).alloc HP.out.sz _), ?_⟩
        simp only [rowB, heap_alloc_any, hBk, if_true]
      have HP2 : Hid (EW w.heap.size w (lst a ++ [0]) (wr.alloc (.cells (VI .u8 (List.replicate 17 0)) 67)) ∧ rowB (wr.alloc (.cells (VI .u8 (List.replicate 17 0)) 67)) Bk (List.replicate 17 0) 67) := hp2
      clear hp2
      go_wp2
      go_loopw [18] (fun i w' => ∃ k : Nat, k ≤ 17 ∧ i = .int .i64 k ∧ EW w.heap.size w (lst a ++ [0]) w' ∧ rowB w' Bk ((bts (V (lst a)).toNat).take k ++ (List.replicate 17 (0 : Int)).drop k) 67) (fun i _ => 17 - (intOf i).toNat)
      case atStart => exact ⟨0, Nat.zero_le _, rfl, HP2.out⟩
      case round =>
        clear HP2 HP hBk
        obtain ⟨k, hk, rfl, hp, hpB⟩ := hrel
        by_cases hlt : k < 17
        · obtain ⟨q, hq⟩ : ∃ q : Nat, q = 8 * k / 26 := ⟨_, rfl⟩
          obtain ⟨r, hr⟩ : ∃ r : Nat, r = 8 * k % 26 := ⟨_, rfl⟩
          have hq' : (8 * (k : Int)) / 26 = (q : Int) := by omega
          have hr' : (8 * (k : Int)) % 26 = (r : Int) := by omega
          have hq5 : q < 5 := by omega
          have hq5' : (q : Int) < 5 := by omega
          have hr26 : r < 26 := by omega
          have hr26' : (r : Int) < 26 := by omega
          have hcq := row_cell hp.hl (i := q) (by omega)
          have hcq1 := row_cell hp.hl (i := q + 1) (by omega)
          have hcb := rowB_cell hpB (i := k) (by simp; omega)
          have hfz : wr.frozen? ⟨Bk, k, none⟩ = false := frozen_of_row wr _ _ _ _ hpB
          obtain ⟨u, hu⟩ : ∃ u, (lst a ++ [0]).getD q 0 = u := ⟨_, rfl⟩
          obtain ⟨v, hv⟩ : ∃ v, (lst a ++ [0]).getD (q + 1) 0 = v := ⟨_, rfl⟩
          rw [hu] at hcq
          rw [hv] at hcq1
          have HP : Hid (EW w.heap.size w (lst a ++ [0]) wr) := hp
          have HPB : Hid (rowB wr Bk ((bts (V (lst a)).toNat).take k ++ (List.replicate 17 (0 : Int)).drop k) 67) := hpB
          have HQ : Hid (q = 8 * k / 26) := hq
          have HR : Hid (r = 8 * k % 26) := hr
          have HU : Hid ((lst a ++ [0]).getD q 0 = u) := hu
          have HVV : Hid ((lst a ++ [0]).getD (q + 1) 0 = v) := hv
          clear hp hpB hq hr hu hv
          generalize List.getD _ k 0 = cb at hcb
          have HST : Hid (rowB (wr.setCell ⟨Bk, k, none⟩ (.int .u8 (bits .or .u64 (u / 2 ^ r) (IntKind.u64.wrap (v * 2 ^ (26 - r))) % 256))) Bk ((bts (V (lst a)).toNat).take (k + 1) ++ (List.replicate 17 (0 : Int)).drop (k + 1)) 67) := by
            have e := enc_math (V (lst a)).toNat q r k (by rw [HQ.out, HR.out]; omega) hr26
            rw [← (V_limbs hll HLB.out q (by omega)).1, ← (V_limbs hll HLB.out (q + 1) (by omega)).1, HU.out, HVV.out, ← bts_at _ _ hlt] at e
            rw [e]
            have := rowB_set HPB.out k ((bts (V (lst a)).toNat)[k]'(by simpa using hlt))
            rw [set_step _ _ _ (by simpa using hlt) (by simpa using hlt)] at this
            exact this
          have HSE : Hid (∀ v, EW w.heap.size w (lst a ++ [0]) (wr.setCell ⟨Bk, k, none⟩ v)) := fun v => HP.out.below ((Below.refl _ _).setCell hB3 _)
          clear HPB HP
          go_wp2
          go_region
          go_wp2
          go_roundw
          case rel => exact ⟨k + 1, by omega, by go_num, (HSE.out _).below (Below.refl _ _).drew, HST.out⟩
          case measure => simp [intOf]; omega
        · have hk' : k = 17 := by omega
          subst hk'
          rw [List.take_of_length_le (by simp), List.drop_of_length_le (by simp), List.append_nil] at hpB
          have HP : Hid (EW w.heap.size w (lst a ++ [0]) wr) := hp
          have HPB : Hid (rowB wr Bk (bts (V (lst a)).toNat) 67) := hpB
          have HJ : Hid ((Try.prog.info? 67).map (·.size) = some (VI .u8 (bts (V (lst a)).toNat)).size) := by rw [VI_size, bts_len]; exact info17
          clear hp hpB hlt hk
          go_wp2_with (with_reducible refine at_list ?_; first | (refine wpList_load_row rfl 67 (.tmp 6) rfl Bk rfl 67 (VI .u8 (bts (V (lst a)).toNat)) (0, 0) _ HPB.out Try.underlying67 rfl HJ.out ?_) | (refine wpList_store_row rfl 67 (.tmp 2) (.tmp 46) rfl (w.heap.size + 1) (VI .u8 (bts (V (lst a)).toNat)) rfl rfl 67 (VI .u8 (List.replicate 17 0)) HP.out.hr HJ.out (by simp) (VI_one _ _) ?_))
          refine bodyPost_ret (v := .agg (VI .u8 (bts (V (lst a)).toNat))) ?_ rfl ⟨by rw [HV.out], below_setRow HP.out.old _ (by omega) _⟩
          exact results_cell_row (P := Try.prog) (fn := Try.f55) (p := 2) (ty := 67) rfl _ _ (w.heap.size + 1) 67 (VI .u8 (bts (V (lst a)).toNat)) (0, 0) _ rfl (setRow_heap wr _ _ _ 67 _ HP.out.hr) Try.underlying67 rfl HJ.out
end Go.Proofs.Ytgfamcadgahiiaa
namespace Go.Proofs.Ytgfamcadgahiiaa
set_option linter.unusedSimpArgs false
open Go.ChangeShapes Go.WideShapes Go.ChangeAt Go.RowKit Go.Pin Go.Prm
/-- 17 bytes -/
structure Key17 (b : List Int) : Prop where
  len : b.length = 17
  bd : ∀ x ∈ b, 0 ≤ x ∧ x < 256
theorem Key17.info {b : List Int} (h : Key17 b) : (Try.prog.info? 67).map (·.size) = some (VI .u8 b).size := by rw [VI_size, h.len]; exact info17
/-- Decode's boxes -/
structure DW (n : Nat) (w : World) (L : List Int) (wr : World) : Prop where
  old : Below n w wr
  sz : n + 3 ≤ wr.heap.size
  hr : rowAt wr (n + 1) (List.replicate 5 0) 66
  hl : rowAt wr (n + 2) L 114
theorem DW.set {n : Nat} {w wr : World} {L : List Int} (h : DW n w L wr) (i : Nat) (v : Int) : DW n w (L.set i v) (wr.setCell ⟨n + 2, i, none⟩ (.int .u64 v)) :=
  ⟨h.old.setCell (by simp) _, by simpa using h.sz, row_other h.hr (by simp) _, row_set h.hl _ _⟩
theorem DW.below {n : Nat} {w wr w' : World} {L : List Int} (h : DW n w L wr) (hb : Below (n + 3) wr w') : DW n w L w' :=
  ⟨h.old.trans (hb.mono (by omega)), Nat.le_trans h.sz hb.size, (hb.block _ (by omega)).trans h.hr, (hb.block _ (by omega)).trans h.hl⟩
theorem DW.drew {n : Nat} {w wr : World} {L : List Int} (h : DW n w L wr) : DW n w L wr.drew := ⟨h.old.drew, h.sz, h.hr, h.hl⟩
theorem dw_start (w : World) (b : List Int) : DW w.heap.size w (List.replicate 6 0) (((w.alloc (.cells (VI .u8 b) 67)).alloc (.cells (VI .u64 (List.replicate 5 0)) 66)).alloc (.cells (VI .u64 (List.replicate 6 0)) 114)) ∧
    rowB (((w.alloc (.cells (VI .u8 b) 67)).alloc (.cells (VI .u64 (List.replicate 5 0)) 66)).alloc (.cells (VI .u64 (List.replicate 6 0)) 114)) w.heap.size b 67 := by
  refine ⟨⟨(((Below.refl _ _).alloc (Nat.le_refl _) _).alloc (by simp) _).alloc (by simp; omega) _, by simp [size_alloc], ?_, ?_⟩, ?_⟩
  all_goals simp only [rowAt, rowB, heap_alloc_any, size_alloc]
  · rw [if_neg (by omega), if_pos trivial]
  · rw [if_pos trivial]
  · rw [if_neg (by omega), if_neg (by omega), if_pos trivial]
/-- what Decode makes of bytes -/
def dec (b : List Int) : List Int := (LL (nb b)).take 5
theorem dec_lim (b : List Int) : Lim (dec b) := ⟨(LL_V _).2.2, fun x hx => by have := (LL_V (nb b)).2.1 x hx; omega⟩
set_option maxRecDepth 100000 in
set_option maxHeartbeats 4000000 in
theorem block_any (b : List Int) (hb : Key17 b) (w : World) :
    Calls Try.prog 49 #[.agg (VI .u8 b)] w fun e w' => e = .returned (.agg (VI .u64 (blk b))) ∧ Below w.heap.size w w' := by
  have hx := fun (i : Nat) (h : i < 17) (w : World) => run_index_row (P := Try.prog) w 67 5 .u8 .i64 17 b i hb.len h Try.underlying67 Try.underlying5 size5
  obtain ⟨hdw, hrb⟩ := dw_start w b
  obtain ⟨W, hW⟩ : ∃ W, ((w.alloc (.cells (VI .u8 b) 67)).alloc (.cells (VI .u64 (List.replicate 5 0)) 66)).alloc (.cells (VI .u64 (List.replicate 6 0)) 114) = W := ⟨_, rfl⟩
  have hW' : ((w.alloc (.cells (VI .u8 b) 67)).alloc (.cells #[.int .u64 0, .int .u64 0, .int .u64 0, .int .u64 0, .int .u64 0] 66)).alloc (.cells #[.int .u64 0, .int .u64 0, .int .u64 0, .int .u64 0, .int .u64 0, .int .u64 0] 114) = W := hW
  rw [hW] at hdw hrb
  have HD : Hid (DW w.heap.size w (LL (nbk b 0)) W) := by rw [show LL (nbk b 0) = List.replicate 6 0 from LL_zero]; exact hdw
  have HRB : Hid (rowB W w.heap.size b 67) := hrb
  have HB : Hid (Key17 b) := hb
  have HI : Hid ((Try.prog.info? 67).map (·.size) = some (VI .u8 b).size) := hb.info
  clear hdw hrb hW hb
  go_enter Try.func49, Try.ntmps49
  go_wp2_with (first | go_in | (with_reducible refine at_list ?_; refine wpList_load_row rfl 67 (.tmp 1) rfl w.heap.size rfl 67 (VI .u8 b) (0, 0) _ HRB.out Try.underlying67 rfl HI.out ?_))
  go_loopw [9] (fun i w' => ∃ k : Nat, k ≤ 17 ∧ i = .int .i64 k ∧ DW w.heap.size w (LL (nbk b k)) w') (fun i _ => 17 - (intOf i).toNat)
  case atStart => exact ⟨0, Nat.zero_le _, rfl, HD.out⟩
  case round =>
    clear HD HRB hW'
    obtain ⟨k, hk, rfl, hp⟩ := hrel
    by_cases hlt : k < 17
    · have hxk := hx k hlt
      have hkb : k < b.length := by rw [HB.out.len]; exact hlt
      obtain ⟨x0, x1⟩ := HB.out.bd _ (List.getElem_mem hkb)
      obtain ⟨x, hxe⟩ := Int.eq_ofNat_of_zero_le x0
      have hxd : b.getD k 0 = (x : Int) := by rw [List.getD_eq_getElem?_getD, List.getElem?_eq_getElem hkb]; exact hxe
      rw [hxe] at x1
      rw [hxd] at hxk
      have hx256 : x < 256 := by omega
      obtain ⟨q, hq⟩ : ∃ q : Nat, q = 8 * k / 26 := ⟨_, rfl⟩
      obtain ⟨r, hr⟩ : ∃ r : Nat, r = 8 * k % 26 := ⟨_, rfl⟩
      have hq' : (8 * (k : Int)) / 26 = (q : Int) := by omega
      have hr' : (8 * (k : Int)) % 26 = (r : Int) := by omega
      have hq5 : q < 5 := by omega
      have hq5' : (q : Int) < 5 := by omega
      have hr26 : r < 26 := by omega
      have hr26' : (r : Int) < 26 := by omega
      have hcq := row_cell hp.hl (i := q) (by rw [LL_len]; omega)
      have hcq1 := row_cell hp.hl (i := q + 1) (by rw [LL_len]; omega)
      have hfz : wr.frozen? ⟨w.heap.size + 2, q, none⟩ = false := frozen_of_row wr _ _ _ _ hp.hl
      have hfz1 : wr.frozen? ⟨w.heap.size + 2, q + 1, none⟩ = false := frozen_of_row wr _ _ _ _ hp.hl
      have hst := dec_step (nbk b k) x q r k hx256 (by omega) hr26 hq5
      have e : LL (nbk b (k + 1)) = LL (nbk b k ||| x <<< (8 * k)) := by rw [nbk, hxd]; rfl
      have HST : Hid (∀ W1, DW w.heap.size w (LL (nbk b k)) W1 → DW w.heap.size w (LL (nbk b (k + 1))) ((W1.setCell ⟨w.heap.size + 2, q, none⟩ (.int .u64 (bits .or .u64 ((LL (nbk b k)).getD q 0) (bits .and .u64 (IntKind.u64.wrap ((x : Int) * 2 ^ r)) 67108863)))).drew.setCell ⟨w.heap.size + 2, q + 1, none⟩ (.int .u64 (bits .or .u64 ((LL (nbk b k)).getD (q + 1) 0) ((x : Int) / 2 ^ (26 - r)))))) := fun W1 h1 => by
        rw [e, ← hst]
        exact ((h1.set _ _).drew).set _ _
      have HP : Hid (DW w.heap.size w (LL (nbk b k)) wr) := hp
      clear hp hst e hx hxe hxd hq hr x0
      generalize (LL (nbk b k)).getD q 0 = u at *
      generalize (LL (nbk b k)).getD (q + 1) 0 = v at *
      go_wp2
      go_region
      go_wp2
      go_region
      go_wp2
      go_roundw
      case rel => exact ⟨k + 1, by omega, by go_num, (HST.out _ HP.out).drew⟩
      case measure => simp [intOf]; omega
    · have hk' : k = 17 := by omega
      subst hk'
      have HP : Hid (DW w.heap.size w (LL (nb b)) wr) := hp
      obtain ⟨Ck, hCk⟩ : ∃ Ck, wr.heap.size = Ck := ⟨_, rfl⟩
      have hC3 : w.heap.size + 3 ≤ Ck := by rw [← hCk]; exact hp.sz
      have hp2 : DW w.heap.size w (LL (nb b)) (wr.alloc (.cells (VI .u64 (List.replicate 5 0)) 66)) ∧ rowAt (wr.alloc (.cells (VI .u64 (List.replicate 5 0)) 66)) Ck (List.replicate 5 0) 66 := by
        refine ⟨HP.out.below ((Below.refl _ _).alloc HP.out.sz _), ?_⟩
        simp only [rowAt, heap_alloc_any, hCk, if_true]
      have HP2 : Hid (DW w.heap.size w (LL (nb b)) (wr.alloc (.cells (VI .u64 (List.replicate 5 0)) 66)) ∧ rowAt (wr.alloc (.cells (VI .u64 (List.replicate 5 0)) 66)) Ck (List.replicate 5 0) 66) := hp2
      clear hp hp2 hx hlt hk HP
      rw [show ((17 : Nat) : Int) = 17 from rfl]
      go_wp2
      go_loopw [43] (fun i w' => ∃ k : Nat, k ≤ 5 ∧ i = .int .i64 k ∧ DW w.heap.size w (LL (nb b)) w' ∧ rowAt w' Ck ((dec b).take k ++ (List.replicate 5 (0 : Int)).drop k) 66) (fun i _ => 5 - (intOf i).toNat)
      case atStart => exact ⟨0, Nat.zero_le _, rfl, HP2.out⟩
      case round =>
        clear HP2 hCk
        obtain ⟨k, hk, rfl, hp, hpC⟩ := hrel
        by_cases hlt : k < 5
        · have hk5 : k < (dec b).length := by rw [(dec_lim b).len]; exact hlt
          have hcl := row_cell hp.hl (i := k) (by rw [LL_len]; omega)
          rw [show (LL (nb b)).getD k 0 = (dec b)[k] by
            rw [List.getD_eq_getElem?_getD, List.getElem?_eq_getElem (by rw [LL_len]; omega)]; simp [dec]] at hcl
          have hcc := row_cell hpC (i := k) (by simp [(dec_lim b).len]; omega)
          have hfz : wr.frozen? ⟨Ck, k, none⟩ = false := frozen_of_row wr _ _ _ _ hpC
          have hst := row_set hpC k (dec b)[k]
          rw [set_step _ _ _ hk5 (by simpa using hlt)] at hst
          have HST : Hid (rowAt (wr.setCell ⟨Ck, k, none⟩ (.int .u64 (dec b)[k])) Ck ((dec b).take (k + 1) ++ (List.replicate 5 (0 : Int)).drop (k + 1)) 66) := hst
          have HSE : Hid (∀ v, DW w.heap.size w (LL (nb b)) (wr.setCell ⟨Ck, k, none⟩ v)) := fun v => hp.below ((Below.refl _ _).setCell hC3 _)
          clear hp hpC hst
          generalize (dec b)[k] = y at *
          generalize List.getD _ k 0 = z at hcc
          go_wp2
          go_roundw
          case rel => exact ⟨k + 1, by omega, by go_num, HSE.out _, HST.out⟩
          case measure => simp [intOf]; omega
        · have hk' : k = 5 := by omega
          subst hk'
          rw [List.take_of_length_le (by rw [(dec_lim b).len]; omega), List.drop_of_length_le (by simp), List.append_nil] at hpC
          have h5 : (LL (nb b)).getD 5 0 < 64 ∧ 0 ≤ (LL (nb b)).getD 5 0 := by
            rw [LL_at _ 5 (by decide)]
            have := (limb5 (nb_lt b HB.out.bd)).2
            omega
          have hd0 := lim_at (dec_lim b) (k := 0) (by decide)
          have hc5 := row_cell hp.hl (i := 5) (by rw [LL_len]; omega)
          have e0 : (LL (nb b)).getD 0 0 = (dec b).getD 0 0 := by rw [LL_at _ 0 (by decide)]; rfl
          have hbe : blk b = (dec b).set 0 ((dec b).getD 0 0 + 5 * (LL (nb b)).getD 5 0) := by unfold blk; rw [e0]; rfl
          obtain ⟨x0, x1, x2, x3, x4, hxe, hx0, hx1, hx2, hx3, hx4, hf0, _, _, _, _⟩ := row5 hpC (dec_lim b).len
          rw [hxe.out] at hd0 hbe
          have HBE : Hid (blk b = [x0 + 5 * (LL (nb b)).getD 5 0, x1, x2, x3, x4]) := hbe
          obtain ⟨d0, d1⟩ := hd0
          simp only [List.getD_cons_zero] at d0 d1
          clear hbe
          generalize (LL (nb b)).getD 5 0 = y at *
          obtain ⟨y1, y0⟩ := h5
          obtain ⟨_, _, _, _, _, _, hy0, hy1, hy2, hy3, hy4, hz0, hz1, hz2, hz3, hz4⟩ := row5 hp.hr (by simp)
          have HP : Hid (DW w.heap.size w (LL (nb b)) wr) := hp
          have HSE : Hid (∀ v, DW w.heap.size w (LL (nb b)) (wr.setCell ⟨Ck, 0, none⟩ v)) := fun v => hp.below ((Below.refl _ _).setCell hC3 _)
          clear hp hpC hlt hk e0
          rw [show ((5 : Nat) : Int) = 5 from rfl]
          go_wp2
          refine bodyPost_ret (v := .agg (VI .u64 [x0 + 5 * y, x1, x2, x3, x4])) ?_ rfl ⟨by rw [HBE.out], (((((HSE.out _).old.setCell (by simp) _).setCell (by simp) _).setCell (by simp) _).setCell (by simp) _).setCell (by simp) _⟩
          exact results_cell_row (P := Try.prog) (fn := Try.f49) (p := 2) (ty := 66) rfl _ _ (w.heap.size + 1) 66 (VI .u64 [x0 + 5 * y, x1, x2, x3, x4]) (0, 0) _ rfl (store5 (HSE.out _).hr (x0 + 5 * y) x1 x2 x3 x4) Try.underlying66 rfl infoE
end Go.Proofs.Ytgfamcadgahiiaa
namespace Go.Proofs.Ytgfamcadgahiiaa
set_option linter.unusedSimpArgs false
open Go.ChangeShapes Go.WideShapes Go.ChangeAt Go.RowKit Go.Pin Go.Prm
theorem rw17_key {f a l : Int} (f0 : 0 ≤ f) (f1 : f < 256) (a0 : 0 ≤ a) (a1 : a < 256) (l0 : 0 ≤ l) (l1 : l < 256) : Key17 (rw17 f a l) := ⟨rfl, by
  simp only [rw17, List.mem_cons, List.not_mem_nil, or_false, forall_eq_or_imp, forall_eq]
  omega⟩
/-- row's boxes -/
structure GW (n : Nat) (w : World) (L : List Int) (wr : World) : Prop where
  old : Below n w wr
  hr : rowB wr n (List.replicate 17 0) 67
  hl : rowB wr (n + 1) L 67
theorem GW.set {n : Nat} {w wr : World} {L : List Int} (h : GW n w L wr) (i : Nat) (v : Int) : GW n w (L.set i v) (wr.setCell ⟨n + 1, i, none⟩ (.int .u8 v)) :=
  ⟨h.old.setCell (by simp) _, row_other h.hr (by simp) _, rowB_set h.hl _ _⟩
theorem gw_start (w : World) : GW w.heap.size w (List.replicate 17 0) ((w.alloc (.cells (VI .u8 (List.replicate 17 0)) 67)).alloc (.cells (VI .u8 (List.replicate 17 0)) 67)) := by
  refine ⟨((Below.refl _ _).alloc (Nat.le_refl _) _).alloc (by simp) _, ?_, ?_⟩
  all_goals simp only [rowB, heap_alloc_any, size_alloc]
  · rw [if_neg (by omega), if_pos trivial]
  · rw [if_pos trivial]
end Go.Proofs.Ytgfamcadgahiiaa
namespace Go.Proofs.Ytgfamcadgahiiaa
set_option linter.unusedSimpArgs false
open Go.ChangeShapes Go.WideShapes Go.ChangeAt Go.RowKit Go.Pin Go.Prm
theorem infoT16 : (Try.prog.info? 36).map (·.size) = some 16 := by kernel_rfl
theorem info16 : (Try.prog.info? 35).map (·.size) = some 16 := by kernel_rfl
/-- 16 bytes -/
structure Key16 (b : List Int) : Prop where
  len : b.length = 16
  bd : ∀ x ∈ b, 0 ≤ x ∧ x < 256
theorem Key16.info {b : List Int} (h : Key16 b) : (Try.prog.info? 35).map (·.size) = some (VI .u8 b).size := by rw [VI_size, h.len]; exact info16
theorem Key16.infoT {b : List Int} (h : Key16 b) : (Try.prog.info? 36).map (·.size) = some (VI .u8 b).size := by rw [VI_size, h.len]; exact infoT16
theorem bts_key (n : Nat) : Key17 (bts n) := ⟨bts_len n, bts_bd n⟩
theorem bytes_any (a : List Int) (ha : Lim a) (w : World) : Calls Try.prog 55 #[.agg (VI .u64 a)] w fun e w' => e = .returned (.agg (VI .u8 (bts (num a)))) ∧ Below w.heap.size w w' := encode_any a ha w
/-- Sum's boxes: s, the result -/
structure SW0 (n : Nat) (w : World) (s : List Int) (wr : World) : Prop where
  old : Below n w wr
  sz : n + 3 ≤ wr.heap.size
  hs : rowB wr (n + 1) s 35
  hr : rowB wr (n + 2) (List.replicate 16 0) 36
theorem SW0.below {n : Nat} {w wr w' : World} {s : List Int} (h : SW0 n w s wr) (hb : Below (n + 3) wr w') : SW0 n w s w' :=
  ⟨h.old.trans (hb.mono (by omega)), Nat.le_trans h.sz hb.size, (hb.block _ (by omega)).trans h.hs, (hb.block _ (by omega)).trans h.hr⟩
theorem sw_start (w : World) (a s : List Int) : SW0 w.heap.size w s (((w.alloc (.cells (VI .u64 a) 66)).alloc (.cells (VI .u8 s) 35)).alloc (.cells (VI .u8 (List.replicate 16 0)) 36)) ∧
    rowAt (((w.alloc (.cells (VI .u64 a) 66)).alloc (.cells (VI .u8 s) 35)).alloc (.cells (VI .u8 (List.replicate 16 0)) 36)) w.heap.size a 66 := by
  refine ⟨⟨(((Below.refl _ _).alloc (Nat.le_refl _) _).alloc (by simp) _).alloc (by simp; omega) _, by simp [size_alloc], ?_, ?_⟩, ?_⟩
  all_goals simp only [rowAt, rowB, heap_alloc_any, size_alloc]
  · rw [if_neg (by omega), if_pos trivial]
  · rw [if_pos trivial]
  · rw [if_neg (by omega), if_neg (by omega), if_pos trivial]
/-- and the bytes at G, the tag at G + 1 -/
structure SW (n G : Nat) (w : World) (s b t : List Int) (wr : World) : Prop extends SW0 n w s wr where
  hG : n + 3 ≤ G
  hb : rowB wr G b 67
  ht : rowB wr (G + 1) t 36
theorem SW.set {n G : Nat} {w wr : World} {s b t : List Int} (h : SW n G w s b t wr) (i : Nat) (v : Int) : SW n G w s b (t.set i v) (wr.setCell ⟨G + 1, i, none⟩ (.int .u8 v)) :=
  ⟨h.toSW0.below ((Below.refl _ _).setCell (by have := h.hG; simp; omega) _), h.hG, row_other h.hb (by simp) _, rowB_set h.ht _ _⟩
theorem SW.drew {n G : Nat} {w wr : World} {s b t : List Int} (h : SW n G w s b t wr) : SW n G w s b t wr.drew := ⟨h.toSW0.below (Below.refl _ _).drew, h.hG, h.hb, h.ht⟩
theorem SW0.next {n : Nat} {w wr : World} {s : List Int} (h : SW0 n w s wr) (b : List Int) : SW n wr.heap.size w s b (List.replicate 16 0) ((wr.alloc (.cells (VI .u8 b) 67)).alloc (.cells (VI .u8 (List.replicate 16 0)) 36)) := by
  have hs := h.sz
  refine ⟨h.below (((Below.refl _ _).alloc hs _).alloc (by simp; omega) _), hs, ?_, ?_⟩
  all_goals simp only [rowB, heap_alloc_any, size_alloc]
  · rw [if_neg (by omega), if_pos trivial]
  · rw [if_pos trivial]
set_option maxRecDepth 100000 in
set_option maxHeartbeats 4000000 in
theorem sum_any (a s : List Int) (ha : Lim a) (hs : Key16 s) (w : World) :
    Calls Try.prog 39 #[.agg (VI .u64 a), .agg (VI .u8 s)] w fun e w' => e = .returned (.agg (VI .u8 (smt (bts (num a)) s))) ∧ Below w.heap.size w w' := by
  obtain ⟨hsw, hra⟩ := sw_start w a s
  have HB : Hid (∀ w, Calls Try.prog 55 #[.agg (VI .u64 a)] w fun e w' => e = .returned (.agg (VI .u8 (bts (num a)))) ∧ Below w.heap.size w w') := fun w => bytes_any a ha w
  obtain ⟨W, hW⟩ : ∃ W, ((w.alloc (.cells (VI .u64 a) 66)).alloc (.cells (VI .u8 s) 35)).alloc (.cells (VI .u8 (List.replicate 16 0)) 36) = W := ⟨_, rfl⟩
  have hW' : ((w.alloc (.cells (VI .u64 a) 66)).alloc (.cells (VI .u8 s) 35)).alloc (.cells #[.int .u8 0, .int .u8 0, .int .u8 0, .int .u8 0, .int .u8 0, .int .u8 0, .int .u8 0, .int .u8 0, .int .u8 0, .int .u8 0, .int .u8 0, .int .u8 0, .int .u8 0, .int .u8 0, .int .u8 0, .int .u8 0] 36) = W := hW
  rw [hW] at hsw hra
  clear hW
  obtain ⟨a0, a1, a2, a3, a4, rfl⟩ := five ha.len
  obtain ⟨ca0, ca1, ca2, ca3, ca4⟩ := cells5 hra
  have HSW : Hid (SW0 w.heap.size w s W) := hsw
  have HS : Hid (Key16 s) := hs
  have HK : Hid (Key17 (bts (num [a0, a1, a2, a3, a4]))) := bts_key _
  generalize bts (num [a0, a1, a2, a3, a4]) = b at *
  clear hsw hra ha hs
  go_enter Try.func39, Try.ntmps39
  go_wp2_with (first | (go_at_call 55; refine (HB.out W).mono ?_; rintro e W1 ⟨rfl, hb1⟩; have HW1 : Hid (SW0 w.heap.size w s W1) := HSW.out.below (hb1.mono HSW.out.sz); clear hb1) | (with_reducible refine at_list ?_; refine hold_store 67 (.tmp 5) (.tmp 10) rfl ?_))
  refine store_row_new rfl 67 (.tmp 5) (.tmp 10) rfl W1.heap.size (VI .u8 b) rfl rfl rfl 67 (VI .u8 (List.replicate 17 0)) HK.out.info (by rw [VI_size, VI_size, HK.out.len]; rfl) (VI_one _ _) ?_
  have hn := HW1.out.next b
  obtain ⟨G, hG⟩ : ∃ G, W1.heap.size = G := ⟨_, rfl⟩
  rw [hG] at hn
  obtain ⟨W2, hW2⟩ : ∃ W2, W1.alloc (.cells (VI .u8 b) 67) = W2 := ⟨_, rfl⟩
  have hs2 : W2.heap.size = G + 1 := by rw [← hW2, size_alloc, hG]
  rw [hW2] at hn ⊢
  obtain ⟨W3, hW3⟩ : ∃ W3, W2.alloc (.cells (VI .u8 (List.replicate 16 0)) 36) = W3 := ⟨_, rfl⟩
  have hW3' : W2.alloc (.cells #[.int .u8 0, .int .u8 0, .int .u8 0, .int .u8 0, .int .u8 0, .int .u8 0, .int .u8 0, .int .u8 0, .int .u8 0, .int .u8 0, .int .u8 0, .int .u8 0, .int .u8 0, .int .u8 0, .int .u8 0, .int .u8 0] 36) = W3 := hW3
  rw [hW3] at hn
  have HN : Hid (SW w.heap.size G w s b (List.replicate 16 0) W3) := hn
  clear hn hW3 HB HSW HW1 ca0 ca1 ca2 ca3 ca4 hW'
  simp only [hG]
  go_wp2
  go_loopw [7, 11] (fun o i w' => ∃ k : Nat, k ≤ 16 ∧ i = .int .i64 k ∧ o = .int .u64 (cr b s k) ∧ SW w.heap.size G w s b ((smt b s).take k ++ (List.replicate 16 (0 : Int)).drop k) w') (fun _ i _ => 16 - (intOf i).toNat)
  case atStart => exact ⟨0, Nat.zero_le _, rfl, rfl, HN.out⟩
  case round =>
    clear HN hW3' hs2 hW2 hG
    clear W3 W2 W1 W
    obtain ⟨k, hk, rfl, rfl, hp⟩ := hrel
    have hG := hp.hG
    by_cases hlt : k < 16
    · have hcb := rowB_cell hp.hb (i := k) (by rw [HK.out.len]; omega)
      have hcs := rowB_cell hp.hs (i := k) (by rw [HS.out.len]; omega)
      have hct := rowB_cell hp.ht (i := k) (by simp; omega)
      have hfz : wr.frozen? ⟨G + 1, k, none⟩ = false := frozen_of_row wr _ _ _ _ hp.ht
      obtain ⟨b0, b1⟩ := byte_at HK.out.bd k
      obtain ⟨s0, s1⟩ := byte_at HS.out.bd k
      obtain ⟨c0, c1⟩ := cr_bd HK.out.bd HS.out.bd k
      have hst := hp.set k ((smt b s)[k]'(by simpa using hlt))
      rw [set_step _ _ _ (by simpa using hlt) (by simpa using hlt), smt_at _ _ _ hlt] at hst
      have HST : Hid (SW w.heap.size G w s b ((smt b s).take (k + 1) ++ (List.replicate 16 (0 : Int)).drop (k + 1)) (wr.setCell ⟨G + 1, k, none⟩ (.int .u8 ((cr b s k + (b.getD k 0 + s.getD k 0)) % 256)))) := hst
      have HCR : Hid (cr b s (k + 1) = (cr b s k + (b.getD k 0 + s.getD k 0)) / 256) := rfl
      clear hp hst
      generalize cr b s k = c at *
      generalize b.getD k 0 = x at *
      generalize s.getD k 0 = y at *
      generalize List.getD _ k 0 = z at hct
      go_wp2
      go_region
      go_wp2
      go_roundw
      case rel => exact ⟨k + 1, by omega, by go_num, by rw [HCR.out], HST.out.drew⟩
      case measure => simp [intOf]; omega
    · have hk' : k = 16 := by omega
      subst hk'
      have h := hp
      rw [List.take_of_length_le (by simp), List.drop_of_length_le (by simp), List.append_nil] at h
      have HP : Hid (SW w.heap.size G w s b (smt b s) wr) := h
      have HI : Hid ((Try.prog.info? 36).map (·.size) = some (VI .u8 (smt b s)).size) := by rw [VI_size, smt_len]; exact infoT16
      clear hp h hlt hk
      rw [show ((16 : Nat) : Int) = 16 from rfl]
      go_wp2_with (with_reducible refine at_list ?_; first | (refine wpList_load_row rfl 36 (.tmp 6) rfl (G + 1) rfl 36 (VI .u8 (smt b s)) (0, 0) _ HP.out.ht Try.underlying36 rfl HI.out ?_) | (refine wpList_store_row rfl 36 (.tmp 4) (.tmp 32) rfl (w.heap.size + 2) (VI .u8 (smt b s)) rfl rfl 36 (VI .u8 (List.replicate 16 0)) HP.out.hr HI.out (by simp) (VI_one _ _) ?_))
      refine bodyPost_ret (v := .agg (VI .u8 (smt b s))) ?_ rfl ⟨rfl, below_setRow HP.out.old _ (by omega) _⟩
      exact results_cell_row (P := Try.prog) (fn := Try.f39) (p := 4) (ty := 36) rfl _ _ (w.heap.size + 2) 36 (VI .u8 (smt b s)) (0, 0) _ rfl (setRow_heap wr _ _ _ 36 _ HP.out.hr) Try.underlying36 rfl HI.out
end Go.Proofs.Ytgfamcadgahiiaa
namespace Go.Proofs.Ytgfamcadgahiiaa
set_option linter.unusedSimpArgs false
open Go.ChangeShapes Go.WideShapes Go.ChangeAt Go.RowKit Go.Pin Go.Prm
theorem pad17 {l : List Int} (hl : l.length = 16) (h : ∀ x ∈ l, 0 ≤ x ∧ x < 256) : Key17 (l ++ [0]) := ⟨by simp [hl], fun x hx => by
  rcases List.mem_append.1 hx with hx | hx
  · exact h x hx
  · rw [List.mem_singleton.1 hx]; decide⟩
/-- Clamp's boxes -/
structure IW (n : Nat) (w : World) (L : List Int) (wr : World) : Prop where
  old : Below n w wr
  sz : n + 2 ≤ wr.heap.size
  hk : rowB wr n L 35
  hr : rowAt wr (n + 1) (List.replicate 5 0) 66
theorem IW.set {n : Nat} {w wr : World} {L : List Int} (h : IW n w L wr) (i : Nat) (v : Int) : IW n w (L.set i v) (wr.setCell ⟨n, i, none⟩ (.int .u8 v)) :=
  ⟨h.old.setCell (Nat.le_refl _) _, by simpa using h.sz, rowB_set h.hk _ _, row_other h.hr (by simp) _⟩
theorem IW.below {n : Nat} {w wr w' : World} {L : List Int} (h : IW n w L wr) (hb : Below (n + 2) wr w') : IW n w L w' :=
  ⟨h.old.trans (hb.mono (by omega)), Nat.le_trans h.sz hb.size, (hb.block _ (by omega)).trans h.hk, (hb.block _ (by omega)).trans h.hr⟩
theorem iw_start (w : World) (k : List Int) : IW w.heap.size w k ((w.alloc (.cells (VI .u8 k) 35)).alloc (.cells (VI .u64 (List.replicate 5 0)) 66)) := by
  refine ⟨((Below.refl _ _).alloc (Nat.le_refl _) _).alloc (by simp) _, by simp [size_alloc], ?_, ?_⟩
  all_goals simp only [rowAt, rowB, heap_alloc_any, size_alloc]
  · rw [if_neg (by omega), if_pos trivial]
  · rw [if_pos trivial]
set_option maxRecDepth 100000 in
set_option maxHeartbeats 4000000 in
theorem clamp_any (key : List Int) (hk : Key16 key) (w : World) :
    Calls Try.prog 31 #[.agg (VI .u8 key)] w fun e w' => e = .returned (.agg (VI .u64 (blk (clp key ++ [0])))) ∧ Below w.heap.size w w' := by
  have hiw := iw_start w key
  obtain ⟨W, hW⟩ : ∃ W, (w.alloc (.cells (VI .u8 key) 35)).alloc (.cells (VI .u64 (List.replicate 5 0)) 66) = W := ⟨_, rfl⟩
  have hW' : (w.alloc (.cells (VI .u8 key) 35)).alloc (.cells #[.int .u64 0, .int .u64 0, .int .u64 0, .int .u64 0, .int .u64 0] 66) = W := hW
  rw [hW] at hiw
  have HI : Hid (IW w.heap.size w key W) := hiw
  have HK : Hid (Key16 key) := hk
  clear hiw hW hk
  go_enter Try.func31, Try.ntmps31
  go_wp2
  go_loopw [8] (fun i w' => ∃ k : Nat, k ≤ 4 ∧ i = .int .i64 k ∧ IW w.heap.size w (cl1 key k) w') (fun i _ => 4 - (intOf i).toNat)
  case atStart => exact ⟨0, Nat.zero_le _, rfl, HI.out⟩
  case round =>
    clear HI hW'
    obtain ⟨k, hk, rfl, hp⟩ := hrel
    obtain ⟨kl, kb⟩ := cl1_key HK.out.len HK.out.bd k
    by_cases hlt : k < 4
    · obtain ⟨j, hj⟩ : ∃ j : Nat, j = 4 * k + 3 := ⟨_, rfl⟩
      have hj' : 4 * (k : Int) + 3 = (j : Int) := by omega
      have hj16 : j < 16 := by omega
      have hc := rowB_cell hp.hk (i := j) (by rw [kl]; omega)
      have hfz : wr.frozen? ⟨w.heap.size, j, none⟩ = false := frozen_of_row wr _ _ _ _ hp.hk
      obtain ⟨x0, x1⟩ := byte_at kb j
      have hn := not240 _ x0 x1
      have HST : Hid (IW w.heap.size w (cl1 key (k + 1)) (wr.setCell ⟨w.heap.size, j, none⟩ (.int .u8 ((cl1 key k).getD j 0 % 16)))) := by
        have := hp.set j ((cl1 key k).getD j 0 % 16)
        rw [hj] at this ⊢
        exact this
      have HJ : Hid (j = 4 * k + 3) := hj
      clear hp kl kb hj
      generalize (cl1 key k).getD j 0 = x at *
      go_wp2
      go_roundw
      case rel => exact ⟨k + 1, by omega, by go_num, HST.out⟩
      case measure => simp [intOf]; omega
    · have hk' : k = 4 := by omega
      subst hk'
      have HP : Hid (IW w.heap.size w (cl1 key 4) wr) := hp
      have HKL : Hid ((cl1 key 4).length = 16) := kl
      have HKB : Hid (∀ x ∈ cl1 key 4, 0 ≤ x ∧ x < 256) := kb
      clear hp hlt hk kl kb
      rw [show ((4 : Nat) : Int) = 4 from rfl]
      go_wp2
      go_loopw [19] (fun i w' => ∃ k : Nat, k ≤ 3 ∧ i = .int .i64 k ∧ IW w.heap.size w (cl2 (cl1 key 4) k) w') (fun i _ => 3 - (intOf i).toNat)
      case atStart => exact ⟨0, Nat.zero_le _, rfl, HP.out⟩
      case round =>
        clear HP
        obtain ⟨k, hk, rfl, hp⟩ := hrel
        obtain ⟨kl, kb⟩ := cl2_key HKL.out HKB.out k
        by_cases hlt : k < 3
        · obtain ⟨j, hj⟩ : ∃ j : Nat, j = 4 * k + 4 := ⟨_, rfl⟩
          have hj' : 4 * (k : Int) + 4 = (j : Int) := by omega
          have hj16 : j < 16 := by omega
          have hc := rowB_cell hp.hk (i := j) (by rw [kl]; omega)
          have hfz : wr.frozen? ⟨w.heap.size, j, none⟩ = false := frozen_of_row wr _ _ _ _ hp.hk
          obtain ⟨x0, x1⟩ := byte_at kb j
          have hn := not3 _ x0 x1
          have HST : Hid (IW w.heap.size w (cl2 (cl1 key 4) (k + 1)) (wr.setCell ⟨w.heap.size, j, none⟩ (.int .u8 ((cl2 (cl1 key 4) k).getD j 0 - (cl2 (cl1 key 4) k).getD j 0 % 4)))) := by
            have := hp.set j ((cl2 (cl1 key 4) k).getD j 0 - (cl2 (cl1 key 4) k).getD j 0 % 4)
            rw [hj] at this ⊢
            exact this
          have HJ : Hid (j = 4 * k + 4) := hj
          clear hp kl kb hj
          generalize (cl2 (cl1 key 4) k).getD j 0 = x at *
          go_wp2
          go_roundw
          case rel => exact ⟨k + 1, by omega, by go_num, HST.out⟩
          case measure => simp [intOf]; omega
        · have hk' : k = 3 := by omega
          subst hk'
          rw [show cl2 (cl1 key 4) 3 = clp key from rfl] at hp kl kb
          have HP : Hid (IW w.heap.size w (clp key) wr) := hp
          have HIC : Hid ((Try.prog.info? 35).map (·.size) = some (VI .u8 (clp key)).size) := by rw [VI_size, kl]; exact info16
          have hx := fun (i : Nat) (h : i < 16) (w : World) => run_index_row (P := Try.prog) w 35 5 .u8 .i64 16 (clp key) i kl h Try.underlying35 Try.underlying5 size5
          have HC : Hid (Key16 (clp key)) := ⟨kl, kb⟩
          have HBL : Hid (∀ W, Calls Try.prog 49 #[.agg (VI .u8 (clp key ++ [0]))] W fun e w' => e = .returned (.agg (VI .u64 (blk (clp key ++ [0])))) ∧ Below W.heap.size W w') := fun W => block_any _ (pad17 kl kb) W
          have hbl := (blk_lim (pad17 kl kb).bd).len
          obtain ⟨x0, x1, x2, x3, x4, hxe⟩ := five hbl
          have hv : VI .u64 (blk (clp key ++ [0])) = #[.int .u64 x0, .int .u64 x1, .int .u64 x2, .int .u64 x3, .int .u64 x4] := by rw [hxe]; rfl
          obtain ⟨G, hG⟩ : ∃ G, wr.heap.size = G := ⟨_, rfl⟩
          have hG2 : w.heap.size + 2 ≤ G := by rw [← hG]; exact hp.sz
          have h2 : IW w.heap.size w (clp key) (wr.alloc (.cells (VI .u8 (List.replicate 17 0)) 67)) ∧ rowB (wr.alloc (.cells (VI .u8 (List.replicate 17 0)) 67)) G (List.replicate 17 0) 67 := by
            refine ⟨hp.below ((Below.refl _ _).alloc hp.sz _), ?_⟩
            simp only [rowB, heap_alloc_any, hG, if_true]
          obtain ⟨W2, hW2⟩ : ∃ W2, wr.alloc (.cells (VI .u8 (List.replicate 17 0)) 67) = W2 := ⟨_, rfl⟩
          have hW2' : wr.alloc (.cells #[.int .u8 0, .int .u8 0, .int .u8 0, .int .u8 0, .int .u8 0, .int .u8 0, .int .u8 0, .int .u8 0, .int .u8 0, .int .u8 0, .int .u8 0, .int .u8 0, .int .u8 0, .int .u8 0, .int .u8 0, .int .u8 0, .int .u8 0] 67) = W2 := hW2
          rw [hW2] at h2
          have H2 : Hid (IW w.heap.size w (clp key) W2 ∧ rowB W2 G (List.replicate 17 0) 67) := h2
          clear hp hlt hk kl kb hbl hxe h2 HP hW2
          rw [show ((3 : Nat) : Int) = 3 from rfl]
          go_wp2_with (first | go_in | (with_reducible refine at_list ?_; rw [hW2']; refine wpList_load_row rfl 35 (.tmp 1) rfl w.heap.size rfl 35 (VI .u8 (clp key)) (0, 0) _ H2.out.1.hk Try.underlying35 rfl HIC.out ?_) | (with_reducible refine at_list ?_; refine wpList_load_row rfl 35 (.tmp 1) rfl w.heap.size rfl 35 (VI .u8 (clp key)) (0, 0) _ H2.out.1.hk Try.underlying35 rfl HIC.out ?_))
          go_loopw [31] (fun i w' => ∃ k : Nat, k ≤ 16 ∧ i = .int .i64 k ∧ IW w.heap.size w (clp key) w' ∧ rowB w' G ((clp key ++ [0]).take k ++ (List.replicate 17 (0 : Int)).drop k) 67) (fun i _ => 16 - (intOf i).toNat)
          case atStart => exact ⟨0, Nat.zero_le _, rfl, H2.out⟩
          case round =>
            clear H2 hW2' hG
            obtain ⟨k, hk, rfl, hp, hpB⟩ := hrel
            by_cases hlt : k < 16
            · have hxk := hx k hlt
              have hkc : k < (clp key ++ [0]).length := by simp [HC.out.len]; omega
              have hcb := rowB_cell hpB (i := k) (by simp [HC.out.len]; omega)
              have hfz : wr.frozen? ⟨G, k, none⟩ = false := frozen_of_row wr _ _ _ _ hpB
              have hst := rowB_set hpB k ((clp key ++ [0])[k]'hkc)
              have hge : (clp key ++ [0])[k]'hkc = (clp key).getD k 0 := by
                rw [List.getElem_append_left (by rw [HC.out.len]; exact hlt), List.getD_eq_getElem?_getD, List.getElem?_eq_getElem (by rw [HC.out.len]; exact hlt)]; rfl
              rw [set_step _ _ _ hkc (by simp; omega), hge] at hst
              have HST : Hid (rowB (wr.setCell ⟨G, k, none⟩ (.int .u8 ((clp key).getD k 0))) G ((clp key ++ [0]).take (k + 1) ++ (List.replicate 17 (0 : Int)).drop (k + 1)) 67) := hst
              have HSE : Hid (∀ v, IW w.heap.size w (clp key) (wr.setCell ⟨G, k, none⟩ v)) := fun v => hp.below ((Below.refl _ _).setCell hG2 _)
              clear hp hpB hst hge hkc hx
              generalize (clp key).getD k 0 = y at *
              generalize List.getD _ k 0 = z at hcb
              go_wp2
              go_roundw
              case rel => exact ⟨k + 1, by omega, by go_num, HSE.out _, HST.out⟩
              case measure => simp [intOf]; omega
            · have hk' : k = 16 := by omega
              subst hk'
              have e : (clp key ++ [0]).take 16 ++ (List.replicate 17 (0 : Int)).drop 16 = clp key ++ [0] := by
                rw [List.take_append_of_le_length (by rw [HC.out.len]; omega), List.take_of_length_le (by rw [HC.out.len]; omega)]; rfl
              rw [e] at hpB
              have HPB : Hid (rowB wr G (clp key ++ [0]) 67) := hpB
              have HJ : Hid ((Try.prog.info? 67).map (·.size) = some (VI .u8 (clp key ++ [0])).size) := (pad17 HC.out.len HC.out.bd).info
              have HP : Hid (IW w.heap.size w (clp key) wr) := hp
              clear hp hpB hlt hk e hx
              rw [show ((16 : Nat) : Int) = 16 from rfl]
              go_wp2_with (first | (go_at_call 49; refine (HBL.out wr).mono ?_; rintro e w2 ⟨rfl, hb2⟩; have hp2 := HP.out.below (hb2.mono HP.out.sz); rw [hv]; obtain ⟨_, _, _, _, _, _, hy0, hy1, hy2, hy3, hy4, hz0, hz1, hz2, hz3, hz4⟩ := row5 hp2.hr (by simp); have HP2 : Hid (IW w.heap.size w (clp key) w2) := hp2; clear hp2 hb2) | (with_reducible refine at_list ?_; refine wpList_load_row rfl 67 (.tmp 5) rfl G rfl 67 (VI .u8 (clp key ++ [0])) (0, 0) _ HPB.out Try.underlying67 rfl HJ.out ?_))
              refine bodyPost_ret (v := .agg (VI .u64 [x0, x1, x2, x3, x4])) ?_ rfl ⟨by rw [hv]; rfl, ((((HP2.out.old.setCell (by simp) _).setCell (by simp) _).setCell (by simp) _).setCell (by simp) _).setCell (by simp) _⟩
              exact results_cell_row (P := Try.prog) (fn := Try.f31) (p := 2) (ty := 66) rfl _ _ (w.heap.size + 1) 66 (VI .u64 [x0, x1, x2, x3, x4]) (0, 0) _ rfl (store5 HP2.out.hr x0 x1 x2 x3 x4) Try.underlying66 rfl infoE
end Go.Proofs.Ytgfamcadgahiiaa
namespace Go.Proofs.Ytgfamcadgahiiaa
set_option linter.unusedSimpArgs false
open Go.ChangeShapes Go.WideShapes Go.ChangeAt Go.RowKit Go.Pin Go.Prm
/-- Mul's boxes: the row -/
structure MW1 (n : Nat) (W' : World) (a b R : List Int) (wr : World) : Prop where
  grow : Grow (fun k => n ≤ k ∧ k < n + 3) W' wr
  n3 : n + 3 ≤ W'.heap.size
  sz : wr.heap.size = W'.heap.size + 1
  ha : rowAt wr n a 66
  hb : rowAt wr (n + 1) b 66
  hr : rowAt wr (n + 2) (List.replicate 5 0) 66
  row : rowAt wr W'.heap.size R 117
theorem MW1.start {n : Nat} {W' : World} {a b : List Int} (h : AW n W' a b W') : MW1 n W' a b (List.replicate 10 0) (W'.alloc (.cells (VI .u64 (List.replicate 10 0)) 117)) := by
  have hs := h.sz
  refine ⟨(Grow.refl _ _).bel ((Below.refl _ _).alloc (Nat.le_refl _) _), hs, by simp [size_alloc], ?_, ?_, ?_, ?_⟩
  all_goals simp only [rowAt, heap_alloc_any]
  · rw [if_neg (by omega)]; exact h.ha
  · rw [if_neg (by omega)]; exact h.hb
  · rw [if_neg (by omega)]; exact h.hr
  · rw [if_pos trivial]
theorem MW1.set {n : Nat} {W' wr : World} {a b R : List Int} (h : MW1 n W' a b R wr) (i : Nat) (v : Int) : MW1 n W' a b (R.set i v) (wr.setCell ⟨W'.heap.size, i, none⟩ (.int .u64 v)) := by
  obtain ⟨h1, h0, h2, h3, h4, h5, h6⟩ := h
  exact ⟨h1.setCell (.inr (Nat.le_refl _)) _, h0, by simpa using h2, row_other h3 (by simp; omega) _, row_other h4 (by simp; omega) _, row_other h5 (by simp; omega) _, row_set h6 _ _⟩
structure MW2 (n : Nat) (W' : World) (a R c : List Int) (wr : World) : Prop where
  grow : Grow (fun k => n ≤ k ∧ k < n + 3) W' wr
  n3 : n + 3 ≤ W'.heap.size
  ha : rowAt wr n a 66
  hr : rowAt wr (n + 2) (List.replicate 5 0) 66
  row : rowAt wr W'.heap.size R 117
  lim : rowAt wr (W'.heap.size + 1) c 66
theorem MW1.next {n : Nat} {W' wr : World} {a b R : List Int} (h : MW1 n W' a b R wr) : MW2 n W' a R (List.replicate 5 0) (wr.alloc (.cells (VI .u64 (List.replicate 5 0)) 66)) := by
  obtain ⟨h1, h0, h2, h3, h4, h5, h6⟩ := h
  refine ⟨h1.bel ((Below.refl _ _).alloc (Nat.le_refl _) _), h0, ?_, ?_, ?_, ?_⟩
  all_goals simp only [rowAt, heap_alloc_any, h2]
  · rw [if_neg (by omega)]; exact h3
  · rw [if_neg (by omega)]; exact h5
  · rw [if_neg (by omega)]; exact h6
  · rw [if_pos trivial]
theorem MW2.set {n : Nat} {W' wr : World} {a R c : List Int} (h : MW2 n W' a R c wr) (i : Nat) (v : Int) : MW2 n W' a R (c.set i v) (wr.setCell ⟨W'.heap.size + 1, i, none⟩ (.int .u64 v)) := by
  obtain ⟨h1, h0, h3, h5, h6, h7⟩ := h
  exact ⟨h1.setCell (.inr (by simp)) _, h0, row_other h3 (by simp; omega) _, row_other h5 (by simp; omega) _, row_other h6 (by simp) _, row_set h7 _ _⟩
theorem MW2.drew {n : Nat} {W' wr : World} {a R c : List Int} (h : MW2 n W' a R c wr) : MW2 n W' a R c wr.drew := ⟨h.grow.drew, h.n3, h.ha, h.hr, h.row, h.lim⟩
theorem MW2.up {n : Nat} {W' wr w2 : World} {a R c y : List Int} (h : MW2 n W' a R c wr) (hu : Up (W'.heap.size + 1) 66 y wr w2) : MW2 n W' a R y w2 := by
  have h0 := h.n3
  exact ⟨h.grow.but hu.but (fun k hk => .inr (by omega)), h0, (hu.but.block _ (by omega)).trans h.ha, (hu.but.block _ (by omega)).trans h.hr, (hu.but.block _ (by omega)).trans h.row, hu.row⟩
theorem sums_len (a b : List Int) : (sums a b).length = 5 := rfl
theorem sums_get (a b : List Int) (k : Nat) (hk : k < 5) : (sums a b)[k]'(by rw [sums_len]; exact hk) = sm a (rw10 b) k 5 := by
  have h5 : k = 0 ∨ k = 1 ∨ k = 2 ∨ k = 3 ∨ k = 4 := by omega
  rcases h5 with rfl | rfl | rfl | rfl | rfl <;> rfl
set_option maxRecDepth 100000 in
set_option maxHeartbeats 8000000 in
theorem mul_any (rv : Value) (a b : List Int) (ha : Lim a) (hb : Lim b) (w : World) (Q : World → World → Prop) (hq : Opc rv 12 w Q) :
    Calls Try.prog 53 #[rv, .agg (VI .u64 a), .agg (VI .u64 b)] w fun e w' => e = .returned (.agg (VI .u64 (prod a b))) ∧ Opd Q w w' := by
  have HA : Hid (Lim a) := ha
  have HB : Hid (Lim b) := hb
  have HQ : Hid (Opc rv 12 w Q) := hq
  obtain ⟨r1, r2, r3, hs, hbw⟩ := alloc3_rows w a b
  obtain ⟨W, hW⟩ : ∃ W, ((w.alloc (.cells (VI .u64 a) 66)).alloc (.cells (VI .u64 b) 66)).alloc (.cells (VI .u64 (List.replicate 5 0)) 66) = W := ⟨_, rfl⟩
  have hW' : ((w.alloc (.cells (VI .u64 a) 66)).alloc (.cells (VI .u64 b) 66)).alloc (.cells #[.int .u64 0, .int .u64 0, .int .u64 0, .int .u64 0, .int .u64 0] 66) = W := hW
  rw [hW] at r1 r2 r3 hs hbw
  have HS : Hid (W.heap.size = w.heap.size + 3) := hs
  have HBW : Hid (Below w.heap.size w W) := hbw
  have HAW : Hid (∀ W1, Grow (fun k => k < w.heap.size) W W1 → AW w.heap.size W1 a b W1) := fun W1 hg => AW.start r1 r2 r3 hs hg
  obtain ⟨sb, sl⟩ := sums_bd ha hb
  have HSB : Hid (∀ x ∈ sums a b, 0 ≤ x ∧ x < 1152921504606846976) := sb
  clear hW r1 r2 r3 hs hbw hq ha hb sb
  go_enter Try.func53, Try.ntmps53
  go_wp2_with (go_at_call 61; refine (HQ.out.call _ HBW.out).mono ?_; rintro e W1 ⟨rfl, hQ⟩; have hp := HAW.out W1 (HQ.out.keep _ _ HBW.out hQ); have HP : Hid (MW1 w.heap.size W1 a b (List.replicate 10 0) (W1.alloc (.cells (VI .u64 (List.replicate 10 0)) 117))) := MW1.start hp; have HD : Hid (∀ w', Grow (fun k => w.heap.size ≤ k ∧ k < w.heap.size + 3) W1 w' → Opd Q w w') := (fun w' hg => ⟨W, W1, HBW.out, hQ, hg.mono (fun k hk => by rw [HS.out]; exact hk)⟩); clear hp HAW hQ hW' HQ HBW HS)
  obtain ⟨n, hn⟩ : ∃ n, w.heap.size = n := ⟨_, rfl⟩
  obtain ⟨G, hG⟩ : ∃ G, W1.heap.size = G := ⟨_, rfl⟩
  simp only [hn, hG] at HP HD ⊢
  go_loopw [14] (fun i w' => ∃ (k : Nat) (R : List Int), k ≤ 5 ∧ i = .int .i64 k ∧ R.length = 10 ∧ (∀ j, j < k → R.getD j 0 = 5 * b.getD j 0 ∧ R.getD (j + 5) 0 = b.getD j 0) ∧ MW1 n W1 a b R w') (fun i _ => 5 - (intOf i).toNat)
  case atStart => exact ⟨0, List.replicate 10 0, Nat.zero_le _, rfl, rfl, fun j hj => absurd hj (Nat.not_lt_zero j), HP.out⟩
  case round =>
    clear HP
    obtain ⟨k, R, hk, rfl, hl, hR, hp⟩ := hrel
    by_cases hlt : k < 5
    · have hcb := row_cell hp.hb (i := k) (by rw [HB.out.len]; exact hlt)
      have hc1 := row_cell hp.row (i := k) (by omega)
      have hc2 := row_cell hp.row (i := k + 5) (by omega)
      have hf1 : wr.frozen? ⟨W1.heap.size, k, none⟩ = false := frozen_of_row wr _ _ _ _ hp.row
      have hf2 : wr.frozen? ⟨W1.heap.size, k + 5, none⟩ = false := frozen_of_row wr _ _ _ _ hp.row
      have hn3 := hp.n3
      have hbk := lim_at HB.out hlt
      have HS : Hid (MW1 n W1 a b ((R.set k (5 * b.getD k 0)).set (k + 5) (b.getD k 0)) ((wr.setCell ⟨W1.heap.size, k, none⟩ (.int .u64 (5 * b.getD k 0))).setCell ⟨W1.heap.size, k + 5, none⟩ (.int .u64 (b.getD k 0)))) := (hp.set _ _).set _ _
      have HF : Hid (∀ j, j < k + 1 → ((R.set k (5 * b.getD k 0)).set (k + 5) (b.getD k 0)).getD j 0 = 5 * b.getD j 0 ∧ ((R.set k (5 * b.getD k 0)).set (k + 5) (b.getD k 0)).getD (j + 5) 0 = b.getD j 0) := fill_step b R k hl hlt hR
      have hlen : Hid (((R.set k (5 * b.getD k 0)).set (k + 5) (b.getD k 0)).length = 10) := by
        have : ((R.set k (5 * b.getD k 0)).set (k + 5) (b.getD k 0)).length = 10 := by simpa using hl
        exact this
      rw [hG] at hc1 hc2 hf1 hf2 hn3 HS
      obtain ⟨q0, q1⟩ := hbk
      clear hp hR hl
      generalize hbk : b.getD k 0 = bk at *
      generalize R.getD k 0 = rk1 at *
      generalize R.getD (k + 5) 0 = rk2 at *
      have HK : Hid (b.getD k 0 = bk) := hbk
      clear hbk
      go_wp2
      go_roundw
      case rel =>
        exact ⟨k + 1, _, by omega, by go_num, hlen.out, HF.out, HS.out⟩
      case measure => simp [intOf]; omega
    · have hk' : k = 5 := by omega
      subst hk'
      have hR10 : R = rw10 b := fill_done b R hl HB.out.len hR
      subst hR10
      have HN : Hid (MW2 n W1 a (rw10 b) (List.replicate 5 0) (wr.alloc (.cells (VI .u64 (List.replicate 5 0)) 66))) := hp.next
      obtain ⟨w1, hw1⟩ : ∃ w1, wr.alloc (.cells (VI .u64 (List.replicate 5 0)) 66) = w1 := ⟨_, rfl⟩
      have hw1' : wr.alloc (.cells #[.int .u64 0, .int .u64 0, .int .u64 0, .int .u64 0, .int .u64 0] 66) = w1 := hw1
      have hs : wr.heap.size = G + 1 := by rw [← hG]; exact hp.sz
      rw [hw1] at HN
      clear hp hR hl hk hlt hw1
      rw [show ((5 : Nat) : Int) = 5 from rfl]
      go_wp2
      go_loopw [32] (fun i w' => ∃ p : Nat, p ≤ 5 ∧ i = .int .i64 p ∧ MW2 n W1 a (rw10 b) ((sums a b).take p ++ (List.replicate 5 (0 : Int)).drop p) w') (fun i _ => 5 - (intOf i).toNat)
      case atStart => exact ⟨0, Nat.zero_le _, rfl, HN.out⟩
      case round =>
        clear HN hw1' hs
        clear w1
        obtain ⟨p, hpl, rfl, hp⟩ := hrel
        by_cases hlt : p < 5
        · have HS : Hid (MW2 n W1 a (rw10 b) (((sums a b).take p ++ (List.replicate 5 (0 : Int)).drop p).set p (sm a (rw10 b) p 0)) wr) := by
            have : (((sums a b).take p ++ (List.replicate 5 (0 : Int)).drop p).set p (sm a (rw10 b) p 0)) = (sums a b).take p ++ (List.replicate 5 (0 : Int)).drop p := by
              have h5 : p = 0 ∨ p = 1 ∨ p = 2 ∨ p = 3 ∨ p = 4 := by omega
              rcases h5 with rfl | rfl | rfl | rfl | rfl <;> rfl
            rw [this]; exact hp
          clear hp
          go_wp2
          go_loopw [35] (fun i w' => ∃ k : Nat, k ≤ 5 ∧ i = .int .i64 k ∧ MW2 n W1 a (rw10 b) (((sums a b).take p ++ (List.replicate 5 (0 : Int)).drop p).set p (sm a (rw10 b) p k)) w') (fun i _ => 5 - (intOf i).toNat)
          case atStart => exact ⟨0, Nat.zero_le _, rfl, HS.out⟩
          case round =>
            clear HS
            obtain ⟨k, hk, rfl, hp⟩ := hrel
            by_cases hlt' : k < 5
            · obtain ⟨j, hj⟩ : ∃ j : Nat, j = p + 5 - k := ⟨_, rfl⟩
              have hj' : (p : Int) - k + 5 = (j : Int) := by omega
              have hj10 : j < 10 := by omega
              have hca := row_cell hp.ha (i := k) (by rw [HA.out.len]; exact hlt')
              have hcr := row_cell hp.row (i := j) (by rw [rw10_len HB.out.len]; omega)
              have hcl := row_cell hp.lim (i := p) (by simp [sums_len]; omega)
              rw [show (((sums a b).take p ++ (List.replicate 5 (0 : Int)).drop p).set p (sm a (rw10 b) p k)).getD p 0 = sm a (rw10 b) p k by
                rw [List.getD_eq_getElem?_getD, List.getElem?_set_self (by simp [sums_len]; omega)]; rfl] at hcl
              have hfz : wr.frozen? ⟨W1.heap.size + 1, p, none⟩ = false := frozen_of_row wr _ _ _ _ hp.lim
              obtain ⟨y0, y1⟩ := lim_at HA.out hlt'
              obtain ⟨z0, z1⟩ := rw10_at HB.out hj10
              obtain ⟨s0, s1⟩ := sm_bd HA.out HB.out p k
              obtain ⟨m0, m1⟩ := bdq y0 y1 z0 z1
              have HST : Hid (MW2 n W1 a (rw10 b) (((sums a b).take p ++ (List.replicate 5 (0 : Int)).drop p).set p (sm a (rw10 b) p (k + 1))) (wr.setCell ⟨W1.heap.size + 1, p, none⟩ (.int .u64 (sm a (rw10 b) p k + a.getD k 0 * (rw10 b).getD j 0)))) := by
                have := hp.set p (sm a (rw10 b) p k + a.getD k 0 * (rw10 b).getD j 0)
                rw [List.set_set, hj] at this
                rw [hj]
                exact this
              have hn3 := hp.n3
              rw [hG] at hcr hcl hfz HST hn3
              clear hp
              generalize sm a (rw10 b) p k = s at *
              generalize a.getD k 0 = x at *
              generalize (rw10 b).getD j 0 = y at *
              have hw1 : IntKind.u64.wrap (x * y) = x * y := by rw [IntKind.wrap_u64]; omega
              have hw2 : IntKind.u64.wrap (s + x * y) = s + x * y := by rw [IntKind.wrap_u64]; omega
              have HJ : Hid (j = p + 5 - k) := hj
              clear hj y0 y1 z0 z1 s0 s1 m0 m1
              go_wp2
              go_region
              go_wp2
              go_roundw
              case rel => exact ⟨k + 1, by omega, by go_num, HST.out.drew⟩
              case measure => simp [intOf]; omega
            · have hk' : k = 5 := by omega
              subst hk'
              rw [← sums_get a b p hlt, set_step _ _ _ (by rw [sums_len]; exact hlt) (by simpa using hlt)] at hp
              have HP : Hid (MW2 n W1 a (rw10 b) ((sums a b).take (p + 1) ++ (List.replicate 5 (0 : Int)).drop (p + 1)) wr) := hp
              clear hp
              rw [show ((5 : Nat) : Int) = 5 from rfl]
              go_wp2
              go_roundw
              case rel => exact ⟨p + 1, by omega, by go_num, HP.out⟩
              case measure => simp [intOf]; omega
        · have hp' : p = 5 := by omega
          subst hp'
          rw [List.take_of_length_le (by rw [sums_len]; omega), List.drop_of_length_le (by simp), List.append_nil] at hp
          have HP : Hid (MW2 n W1 a (rw10 b) (sums a b) wr) := hp
          have hn3 := hp.n3
          have HSE : Hid (Calls Try.prog 62 #[.pointer (some ⟨G + 1, 0, none⟩)] wr fun e w' => e = .returned (.tuple #[]) ∧ Up (W1.heap.size + 1) 66 (stl (sums a b)) wr w') := by
            have := settle_any (W1.heap.size + 1) 66 (sums a b) sl HSB.out wr hp.lim
            rw [hG] at this ⊢
            exact this
          rw [hG] at hn3
          clear hp
          rw [show ((5 : Nat) : Int) = 5 from rfl]
          go_wp2_with (go_at_call 62; refine HSE.out.mono ?_; rintro e w2 ⟨rfl, hU⟩; have hp2 := HP.out.up hU; obtain ⟨x0, x1, x2, x3, x4, hxe, hx0, hx1, hx2, hx3, hx4, _, _, _, _, _⟩ := row5 hp2.lim (stl_lim _ sl HSB.out).1.len; obtain ⟨_, _, _, _, _, _, hy0, hy1, hy2, hy3, hy4, hz0, hz1, hz2, hz3, hz4⟩ := row5 hp2.hr (by simp); rw [hG] at hx0 hx1 hx2 hx3 hx4; have HP2 : Hid (MW2 n W1 a (rw10 b) (stl (sums a b)) w2) := hp2; clear hp2 hU)
          refine bodyPost_ret (v := .agg (VI .u64 [x0, x1, x2, x3, x4])) ?_ rfl ⟨by rw [prod, hxe.out], HD.out _ (((((HP2.out.grow.setCell ?_ _).setCell ?_ _).setCell ?_ _).setCell ?_ _).setCell ?_ _)⟩
          · exact results_cell_row (P := Try.prog) (fn := Try.f53) (p := 6) (ty := 66) rfl _ _ (n + 1 + 1) 66 (VI .u64 [x0, x1, x2, x3, x4]) (0, 0) _ rfl (store5 HP2.out.hr x0 x1 x2 x3 x4) Try.underlying66 rfl infoE
          all_goals (left; simp; omega)
end Go.Proofs.Ytgfamcadgahiiaa
