import Derived.Test.YtgfamcadgahiiabPrmL
namespace Go.Proofs.Ytgfamcadgahiiab
set_option linter.unusedSimpArgs false
open Go.ChangeShapes Go.WideShapes Go.ChangeAt Go.RowKit Go.Pin Go.Prm
theorem info17 : (Try.prog.info? 71).map (·.size) = some 17 := by kernel_rfl
theorem size24 : ∀ w, (sizeOf 46).run Try.prog w = .ok 1 w := fun _ => by kernel_rfl
theorem size5 : ∀ w, (sizeOf 5).run Try.prog w = .ok 1 w := fun _ => by kernel_rfl
abbrev rowB (w : World) (g : Nat) (l : List Int) (T : TypeId) : Prop := w.heap[g]? = some (.cells (VI .u8 l) T (0, 0))
theorem rowB_cell {w : World} {g : Nat} {l : List Int} {T : TypeId} (h : rowB w g l T) {i : Nat} (hi : i < l.length) : w.cell? ⟨g, i, none⟩ = some (.int .u8 (l.getD i 0)) := by
  rw [cell_of_row w _ _ _ _ _ h, VI_at _ _ _ hi]
theorem rowB_set {w : World} {g : Nat} {l : List Int} {T : TypeId} (h : rowB w g l T) (i : Nat) (v : Int) : rowB (w.setCell ⟨g, i, none⟩ (.int .u8 v)) g (l.set i v) T := by
  unfold rowB
  rw [heap_setCell_same w _ _ _ _ _ h, VI_set]
/-- Encode's boxes -/
structure EW (n : Nat) (w : World) (L : List Int) (wr : World) : Prop where
  old : Below n w wr
  sz : n + 3 ≤ wr.heap.size
  hr : rowB wr (n + 1) (List.replicate 17 0) 71
  hl : rowAt wr (n + 2) L 90
theorem EW.set {n : Nat} {w wr : World} {L : List Int} (h : EW n w L wr) (i : Nat) (v : Int) : EW n w (L.set i v) (wr.setCell ⟨n + 2, i, none⟩ (.int .u64 v)) :=
  ⟨h.old.setCell (by simp) _, by simpa using h.sz, row_other h.hr (by simp) _, row_set h.hl _ _⟩
theorem EW.below {n : Nat} {w wr w' : World} {L : List Int} (h : EW n w L wr) (hb : Below (n + 3) wr w') : EW n w L w' :=
  ⟨h.old.trans (hb.mono (by omega)), Nat.le_trans h.sz hb.size, (hb.block _ (by omega)).trans h.hr, (hb.block _ (by omega)).trans h.hl⟩
theorem ew_start (w : World) (a : List Int) : EW w.heap.size w (List.replicate 6 0) (((w.alloc (.cells (VI .u64 a) 69)).alloc (.cells (VI .u8 (List.replicate 17 0)) 71)).alloc (.cells (VI .u64 (List.replicate 6 0)) 90)) ∧
    rowAt (((w.alloc (.cells (VI .u64 a) 69)).alloc (.cells (VI .u8 (List.replicate 17 0)) 71)).alloc (.cells (VI .u64 (List.replicate 6 0)) 90)) w.heap.size a 69 := by
  refine ⟨⟨(((Below.refl _ _).alloc (Nat.le_refl _) _).alloc (by simp) _).alloc (by simp; omega) _, by simp [size_alloc], ?_, ?_⟩, ?_⟩
  all_goals simp only [rowAt, rowB, heap_alloc_any, size_alloc]
  · rw [if_neg (by omega), if_pos trivial]
  · rw [if_pos trivial]
  · rw [if_neg (by omega), if_neg (by omega), if_pos trivial]
set_option maxRecDepth 100000 in
set_option maxHeartbeats 4000000 in
theorem encode_any (a : List Int) (ha : Lim a) (w : World) :
    Calls Try.prog 36 #[.agg (VI .u64 a)] w fun e w' => e = .returned (.agg (VI .u8 (bts (V a % 1361129467683753853853498429727072845819).toNat))) ∧ Below w.heap.size w w' := by
  obtain ⟨s0, s1, s2, s3, s4, c, hs, p0, q0, p1, q1, p2, q2, p3, q3, p4, q4, hc, c0, c1, hl, hv, hlb, hll⟩ := lst_facts ha
  clear hs p0 q0 p1 q1 p2 q2 p3 q3 p4 q4 hc c0 c1 hl
  have hx := fun (i : Nat) (h : i < 5) (w : World) => run_index_row (P := Try.prog) w 67 46 .u64 .i64 5 (lst a) i hll h Try.underlying67 Try.underlying46 size24
  obtain ⟨hew, hra⟩ := ew_start w a
  have HA : Hid (Lim a) := ha
  obtain ⟨a0, a1, a2, a3, a4, hae⟩ := five ha.len
  rw [hae] at hra
  obtain ⟨W, hW⟩ : ∃ W, ((w.alloc (.cells (VI .u64 a) 69)).alloc (.cells (VI .u8 (List.replicate 17 0)) 71)).alloc (.cells (VI .u64 (List.replicate 6 0)) 90) = W := ⟨_, rfl⟩
  rw [← hae] at hra
  rw [hW] at hew hra
  rw [hae] at hra
  obtain ⟨hc0, hc1, hc2, hc3, hc4⟩ := cells5 hra
  have HE : Hid (EW w.heap.size w (List.replicate 6 0) W) := hew
  have HLA : Hid (∀ w, Calls Try.prog 41 #[.agg #[.int .u64 a0, .int .u64 a1, .int .u64 a2, .int .u64 a3, .int .u64 a4]] w fun e w' => e = .returned (.agg (VI .u64 (lst a))) ∧ Below w.heap.size w w') := fun w => by
    have := least_any a ha w
    rw [show (VI .u64 a) = #[.int .u64 a0, .int .u64 a1, .int .u64 a2, .int .u64 a3, .int .u64 a4] by rw [hae]; rfl] at this
    exact this
  have hW' : ((w.alloc (.cells (VI .u64 a) 69)).alloc (.cells #[.int .u8 0, .int .u8 0, .int .u8 0, .int .u8 0, .int .u8 0, .int .u8 0, .int .u8 0, .int .u8 0, .int .u8 0, .int .u8 0, .int .u8 0, .int .u8 0, .int .u8 0, .int .u8 0, .int .u8 0, .int .u8 0, .int .u8 0] 71)).alloc (.cells #[.int .u64 0, .int .u64 0, .int .u64 0, .int .u64 0, .int .u64 0, .int .u64 0] 90) = W := hW
  clear hew hra hW ha hae
  have HV : Hid (V (lst a) = V a % 1361129467683753853853498429727072845819) := hv
  have HLB : Hid (∀ x ∈ lst a, 0 ≤ x ∧ x < 67108864) := hlb
  clear hv hlb
  go_enter Try.func36, Try.ntmps36
  go_wp2_with (go_at_call 41; refine (HLA.out _).mono ?_; rintro e w2 ⟨rfl, hb2⟩; have HE2 : Hid (EW w.heap.size w (List.replicate 6 0) w2) := HE.out.below (hb2.mono HE.out.sz); clear hb2)
  clear hc0 hc1 hc2 hc3 hc4 HE HLA hW'
  have h6 : (lst a ++ [0]).length = 6 := by simp [hll]
  go_loopw [10] (fun i w' => ∃ k : Nat, k ≤ 5 ∧ i = .int .i64 k ∧ EW w.heap.size w ((lst a ++ [0]).take k ++ (List.replicate 6 (0 : Int)).drop k) w') (fun i _ => 5 - (intOf i).toNat)
  case atStart => exact ⟨0, Nat.zero_le _, rfl, HE2.out⟩
  case round =>
    clear HE2
    obtain ⟨k, hk, rfl, hp⟩ := hrel
    by_cases hlt : k < 5
    · have hxk := hx k hlt
      have hst := hp.set k ((lst a)[k]'(by omega))
      rw [show (lst a)[k]'(by omega) = (lst a ++ [0])[k]'(by omega) from (List.getElem_append_left (by omega)).symm, set_step _ _ _ (by omega) (by simp; omega), List.getElem_append_left (by omega)] at hst
      have hcl := row_cell hp.hl (i := k) (by simp; omega)
      have hfz : wr.frozen? ⟨w.heap.size + 2, k, none⟩ = false := frozen_of_row wr _ _ _ _ hp.hl
      rw [List.getD_eq_getElem?_getD, List.getElem?_eq_getElem (show k < (lst a).length by omega), Option.getD_some] at hxk
      generalize (lst a)[k]'(by omega) = y at *
      have HST : Hid (EW w.heap.size w ((lst a ++ [0]).take (k + 1) ++ (List.replicate 6 (0 : Int)).drop (k + 1)) (wr.setCell ⟨w.heap.size + 2, k, none⟩ (.int .u64 y))) := hst
      clear hp hst hx
      go_wp2
      go_roundw
      case rel => exact ⟨k + 1, by omega, by go_num, HST.out⟩
      case measure => simp [intOf]; omega
    · have hk' : k = 5 := by omega
      subst hk'
      have e5 : (lst a ++ [0]).take 5 ++ (List.replicate 6 (0 : Int)).drop 5 = lst a ++ [0] := by
        rw [show 5 = (lst a).length from hll.symm, List.take_left, hll]; rfl
      rw [e5] at hp
      have hsz : wr.heap.size = wr.heap.size := rfl
      have HP : Hid (EW w.heap.size w (lst a ++ [0]) wr) := hp
      obtain ⟨Bk, hBk⟩ : ∃ Bk, wr.heap.size = Bk := ⟨_, rfl⟩
      have hB3 : w.heap.size + 3 ≤ Bk := by rw [← hBk]; exact hp.sz
      clear hp hx hlt hk hsz
      rw [show ((5 : Nat) : Int) = 5 from rfl]
      have hp2 : EW w.heap.size w (lst a ++ [0]) (wr.alloc (.cells (VI .u8 (List.replicate 17 0)) 71)) ∧ rowB (wr.alloc (.cells (VI .u8 (List.replicate 17 0)) 71)) Bk (List.replicate 17 0) 71 := by
        refine ⟨HP.out.below ((Below.refl _ _).alloc HP.out.sz _), ?_⟩
        simp only [rowB, heap_alloc_any, hBk, if_true]
      have HP2 : Hid (EW w.heap.size w (lst a ++ [0]) (wr.alloc (.cells (VI .u8 (List.replicate 17 0)) 71)) ∧ rowB (wr.alloc (.cells (VI .u8 (List.replicate 17 0)) 71)) Bk (List.replicate 17 0) 71) := hp2
      clear hp2
      go_wp2
      go_loopw [18] (fun i w' => ∃ k : Nat, k ≤ 17 ∧ i = .int .i64 k ∧ EW w.heap.size w (lst a ++ [0]) w' ∧ rowB w' Bk ((bts (V (lst a)).toNat).take k ++ (List.replicate 17 (0 : Int)).drop k) 71) (fun i _ => 17 - (intOf i).toNat)
      case atStart => exact ⟨0, Nat.zero_le _, rfl, HP2.out⟩
      case round =>
        clear HP2 HP hBk
        obtain ⟨k, hk, rfl, hp, hpB⟩ := hrel
        by_cases hlt : k < 17
        · obtain ⟨q, hq⟩ : ∃ q : Nat, q = 8 * k / 26 := ⟨_, rfl⟩
          obtain ⟨r, hr⟩ : ∃ r : Nat, r = 8 * k % 26 := ⟨_, rfl⟩
          have hq' : (8 * (k : Int)) / 26 = (q : Int) := by omega
          have hr' : (8 * (k : Int)) % 26 = (r : Int) := by omega
          have hq5 : q < 5 := by omega
          have hq5' : (q : Int) < 5 := by omega
          have hr26 : r < 26 := by omega
          have hr26' : (r : Int) < 26 := by omega
          have hcq := row_cell hp.hl (i := q) (by omega)
          have hcq1 := row_cell hp.hl (i := q + 1) (by omega)
          have hcb := rowB_cell hpB (i := k) (by simp; omega)
          have hfz : wr.frozen? ⟨Bk, k, none⟩ = false := frozen_of_row wr _ _ _ _ hpB
          obtain ⟨u, hu⟩ : ∃ u, (lst a ++ [0]).getD q 0 = u := ⟨_, rfl⟩
          obtain ⟨v, hv⟩ : ∃ v, (lst a ++ [0]).getD (q + 1) 0 = v := ⟨_, rfl⟩
          rw [hu] at hcq
          rw [hv] at hcq1
          have HP : Hid (EW w.heap.size w (lst a ++ [0]) wr) := hp
          have HPB : Hid (rowB wr Bk ((bts (V (lst a)).toNat).take k ++ (List.replicate 17 (0 : Int)).drop k) 71) := hpB
          have HQ : Hid (q = 8 * k / 26) := hq
          have HR : Hid (r = 8 * k % 26) := hr
          have HU : Hid ((lst a ++ [0]).getD q 0 = u) := hu
          have HVV : Hid ((lst a ++ [0]).getD (q + 1) 0 = v) := hv
          clear hp hpB hq hr hu hv
          generalize List.getD _ k 0 = cb at hcb
          have HST : Hid (rowB (wr.setCell ⟨Bk, k, none⟩ (.int .u8 (bits .or .u64 (u / 2 ^ r) (IntKind.u64.wrap (v * 2 ^ (26 - r))) % 256))) Bk ((bts (V (lst a)).toNat).take (k + 1) ++ (List.replicate 17 (0 : Int)).drop (k + 1)) 71) := by
            have e := enc_math (V (lst a)).toNat q r k (by rw [HQ.out, HR.out]; omega) hr26
            rw [← (V_limbs hll HLB.out q (by omega)).1, ← (V_limbs hll HLB.out (q + 1) (by omega)).1, HU.out, HVV.out, ← bts_at _ _ hlt] at e
            rw [e]
            have := rowB_set HPB.out k ((bts (V (lst a)).toNat)[k]'(by simpa using hlt))
            rw [set_step _ _ _ (by simpa using hlt) (by simpa using hlt)] at this
            exact this
          have HSE : Hid (∀ v, EW w.heap.size w (lst a ++ [0]) (wr.setCell ⟨Bk, k, none⟩ v)) := fun v => HP.out.below ((Below.refl _ _).setCell hB3 _)
          clear HPB HP
          go_wp2
          go_region
          go_wp2
          go_roundw
          case rel => exact ⟨k + 1, by omega, by go_num, (HSE.out _).below (Below.refl _ _).drew, HST.out⟩
          case measure => simp [intOf]; omega
        · have hk' : k = 17 := by omega
          subst hk'
          rw [List.take_of_length_le (by simp), List.drop_of_length_le (by simp), List.append_nil] at hpB
          have HP : Hid (EW w.heap.size w (lst a ++ [0]) wr) := hp
          have HPB : Hid (rowB wr Bk (bts (V (lst a)).toNat) 71) := hpB
          have HJ : Hid ((Try.prog.info? 71).map (·.size) = some (VI .u8 (bts (V (lst a)).toNat)).size) := by rw [VI_size, bts_len]; exact info17
          clear hp hpB hlt hk
          go_wp2_with (with_reducible refine at_list ?_; first | (refine wpList_load_row rfl 71 (.tmp 6) rfl Bk rfl 71 (VI .u8 (bts (V (lst a)).toNat)) (0, 0) _ HPB.out Try.underlying71 rfl HJ.out ?_) | (refine wpList_store_row rfl 71 (.tmp 2) (.tmp 46) rfl (w.heap.size + 1) (VI .u8 (bts (V (lst a)).toNat)) rfl rfl 71 (VI .u8 (List.replicate 17 0)) HP.out.hr HJ.out (by simp) (VI_one _ _) ?_))
          refine bodyPost_ret (v := .agg (VI .u8 (bts (V (lst a)).toNat))) ?_ rfl ⟨by rw [HV.out], below_setRow HP.out.old _ (by omega) _⟩
          exact results_cell_row (P := Try.prog) (fn := Try.f36) (p := 2) (ty := 71) rfl _ _ (w.heap.size + 1) 71 (VI .u8 (bts (V (lst a)).toNat)) (0, 0) _ rfl (setRow_heap wr _ _ _ 71 _ HP.out.hr) Try.underlying71 rfl HJ.out
end Go.Proofs.Ytgfamcadgahiiab
