import Derived.Test.YtefnlaookmpbhaaRsB
import Derived.Test.YtefnlaookmpbhaaRsC
import Derived.Test.YtefnlaookmpbhaaStrP
namespace Go.Proofs.Ytefnlaookmpbhaa
set_option linter.unusedSimpArgs false
set_option linter.unusedVariables false
open Go.ChangeShapes Go.WideShapes Go.ChangeAt Go.RowKit Go.Pin Go.Str
def outT (B : List Nat) (m : Nat) : List Nat := (List.range 64).map fun p => if p < m then bt B p else 0
theorem outT_len (B : List Nat) (m : Nat) : (outT B m).length = 64 := by simp [outT]
theorem outT_at (B : List Nat) (m j : Nat) (hj : j < 64) : (outT B m).getD j 0 = if j < m then bt B j else 0 := by simp only [outT, List.getD, List.getElem?_map, List.getElem?_range hj, Option.map_some, Option.getD_some]
theorem outT_zero (B : List Nat) : outT B 0 = List.replicate 64 0 := by
  apply list_ext (by rw [outT_len, List.length_replicate])
  intro j hj
  rw [outT_len] at hj
  rw [outT_at _ _ _ hj, rep_at]; simp
theorem outT_set (B : List Nat) (m : Nat) (hm : m < 64) : (outT B m).set m (bt B m) = outT B (m + 1) := by
  apply list_ext (by simp [outT_len])
  intro p hp
  simp only [List.length_set, outT_len] at hp
  by_cases e : p = m
  · subst e
    rw [getD_set_eq _ _ _ (by rw [outT_len]; exact hp), outT_at _ _ _ hp, if_pos (by omega)]
  · rw [getD_set_ne _ _ _ _ (fun h => e h.symm), outT_at _ _ _ hp, outT_at _ _ _ hp]
    by_cases h : p < m
    · simp only [h, show p < m + 1 by omega, if_true]
    · simp only [h, show ¬ p < m + 1 by omega, if_false]
theorem outT_full (key : List Nat) (c : Nat) (nonce : List Nat) (hc : c < 4294967296) : outT (blk (st key c nonce)) 64 = kb key c nonce := by
  apply list_ext (by rw [outT_len, kb_len])
  intro j hj
  rw [outT_len] at hj
  have h := bt_ks key c nonce 0 j rfl hj
  rw [cat0 _ hc, Nat.zero_add] at h
  rw [outT_at _ _ _ hj, if_pos hj, kb_at _ _ _ _ hj, h]
/-- ref Block's boxes -/
structure DW (n m : Nat) (w : World) (S L : List Nat) (wr : World) : Prop where
  old : Below n w wr
  hm : n + 3 ≤ m
  sz : m + 2 ≤ wr.heap.size
  hr : RK wr (n + 2) (List.replicate 64 0) 29
  hw : RI wr m S 61
  hv : RI wr (m + 1) L 61
theorem DW.below {n m : Nat} {w wr w' : World} {S L : List Nat} (h : DW n m w S L wr) (hb : Below wr.heap.size wr w') : DW n m w S L w' := by
  have hm := h.hm
  have sz := h.sz
  exact ⟨h.old.trans (hb.mono (by omega)), hm, Nat.le_trans sz hb.size, (hb.block _ (by omega)).trans h.hr, (hb.block _ (by omega)).trans h.hw, (hb.block _ (by omega)).trans h.hv⟩
theorem DW.row {n m : Nat} {w wr : World} {S L M : List Nat} (h : DW n m w S L wr) : DW n m w S M (wr.setRow (m + 1) (VN .i64 M)) := by
  have hm := h.hm
  have b := but_setRow wr (m + 1) (VN .i64 M)
  exact ⟨h.old.trans (b.below (fun k hk => by omega)), hm, by rw [b.size]; exact h.sz, (b.block _ (by omega)).trans h.hr, (b.block _ (by omega)).trans h.hw, setRow_heap _ _ _ _ _ _ h.hv⟩
theorem DW.drew {n m : Nat} {w wr : World} {S L : List Nat} (h : DW n m w S L wr) : DW n m w S L wr.drew := ⟨h.old.drew, h.hm, h.sz, h.hr, h.hw, h.hv⟩
/-- the bytes beside them -/
structure FZ (n m z : Nat) (w : World) (S L O : List Nat) (wr : World) : Prop where
  dw : DW n m w S L wr
  hz : m + 2 ≤ z
  ho : RB wr z O 29 (0, 0)
theorem FZ.set {n m z : Nat} {w wr : World} {S L O : List Nat} (h : FZ n m z w S L O wr) (i v : Nat) (hv : v < 256) : FZ n m z w S L (O.set i v) (wr.setCell ⟨z, i, none⟩ (.int .u8 (v : Int))) := by
  have hm := h.dw.hm
  have hz := h.hz
  exact ⟨⟨h.dw.old.setCell (by show n ≤ z; omega) _, hm, by simpa using h.dw.sz, (heap_setCell_other _ _ _ _ (by show n + 2 ≠ z; omega)).trans h.dw.hr, h.dw.hw.other (by omega) _ _, h.dw.hv.other (by omega) _ _⟩, hz, h.ho.set _ _ hv⟩
set_option maxRecDepth 100000 in
set_option maxHeartbeats 8000000 in
theorem rblock (key nonce : List Nat) (c : Nat) (hk : Bs 32 key) (hn : Bs 12 nonce) (hc : c < 4294967296) (w : World) :
    Calls Try.prog 10 #[.agg (VN .u8 key), .int .u32 (c : Int), .agg (VN .u8 nonce)] w fun e w' => e = .returned (.agg (VN .u8 (kb key c nonce))) ∧ Below w.heap.size w w' := by
  obtain ⟨q, hq⟩ : ∃ q, w.heap.size = q := ⟨_, rfl⟩
  obtain ⟨W0, hW0⟩ : ∃ W, ((w.alloc (.cells (VN .u8 key) 23)).alloc (.cells (VN .u8 nonce) 26)).alloc (.cells (VN .u8 (List.replicate 64 0)) 29) = W := ⟨_, rfl⟩
  have hW0' : ((w.alloc (.cells (VN .u8 key) 23)).alloc (.cells (VN .u8 nonce) 26)).alloc (.cells #[.int .u8 0, .int .u8 0, .int .u8 0, .int .u8 0, .int .u8 0, .int .u8 0, .int .u8 0, .int .u8 0, .int .u8 0, .int .u8 0, .int .u8 0, .int .u8 0, .int .u8 0, .int .u8 0, .int .u8 0, .int .u8 0, .int .u8 0, .int .u8 0, .int .u8 0, .int .u8 0, .int .u8 0, .int .u8 0, .int .u8 0, .int .u8 0, .int .u8 0, .int .u8 0, .int .u8 0, .int .u8 0, .int .u8 0, .int .u8 0, .int .u8 0, .int .u8 0, .int .u8 0, .int .u8 0, .int .u8 0, .int .u8 0, .int .u8 0, .int .u8 0, .int .u8 0, .int .u8 0, .int .u8 0, .int .u8 0, .int .u8 0, .int .u8 0, .int .u8 0, .int .u8 0, .int .u8 0, .int .u8 0, .int .u8 0, .int .u8 0, .int .u8 0, .int .u8 0, .int .u8 0, .int .u8 0, .int .u8 0, .int .u8 0, .int .u8 0, .int .u8 0, .int .u8 0, .int .u8 0, .int .u8 0, .int .u8 0, .int .u8 0, .int .u8 0] 29) = W0 := hW0
  have h0 : RK W0 q key 23 ∧ RK W0 (q + 1) nonce 26 ∧ RK W0 (q + 2) (List.replicate 64 0) 29 ∧ Below q w W0 ∧ W0.heap.size = q + 3 := by
    rw [← hW0, ← hq]
    refine ⟨?_, ?_, ?_, (((Below.refl _ _).alloc (Nat.le_refl _) _).alloc (by simp) _).alloc (by simp; omega) _, by simp [size_alloc]⟩
    all_goals simp only [RK, heap_alloc_any, size_alloc]
    · rw [if_neg (by omega), if_neg (by omega), if_pos trivial]
    · rw [if_neg (by omega), if_pos trivial]
    · rw [if_pos trivial]
  have HK0 : Hid _ := h0.1
  have HN0 : Hid _ := h0.2.1
  have HX0 : Hid (RK W0 (q + 2) (List.replicate 64 0) 29 ∧ Below q w W0 ∧ W0.heap.size = q + 3) := h0.2.2
  have HIK : Hid ((Try.prog.info? 23).map (·.size) = some (VN .u8 key).size) := infoK hk.len
  have HIN : Hid ((Try.prog.info? 26).map (·.size) = some (VN .u8 nonce).size) := infoNn hn.len
  have CL : Hid (Calls Try.prog 24 #[.agg (VN .u8 key), .int .u32 (c : Int), .agg (VN .u8 nonce)] W0 fun e w' => e = .returned (.agg (VN .i64 (st key c nonce))) ∧ Below W0.heap.size W0 w') := rlaid key nonce c hk hn hc W0
  have HSS : Hid (St (st key c nonce)) := st_st hk hn hc
  have HOF : Hid (outT (blk (st key c nonce)) 64 = kb key c nonce) := outT_full key c nonce hc
  have HQ : Hid (w.heap.size = q) := hq
  clear h0 hk hn hW0
  obtain ⟨s, hs⟩ : ∃ s, st key c nonce = s := ⟨_, rfl⟩
  rw [hs] at CL HSS HOF
  clear hs
  have HI : Hid (∀ L, St L → (Try.prog.info? 61).map (·.size) = some (VN .i64 L).size) := fun L h => info16i h.len
  go_enter Try.func10, Try.ntmps10
  go_wp2_with (first | (go_at_call 24; refine Calls.mono CL.out ?_; rintro e w1 ⟨rfl, hb1⟩) | (with_reducible refine at_list ?_; first | (refine wpList_load_row rfl 23 (.tmp 3) rfl q rfl 23 (VN .u8 key) (0, 0) _ HK0.out Try.underlying23 rfl HIK.out ?_) | (refine wpList_load_row rfl 26 (.tmp 5) rfl (q + 1) rfl 26 (VN .u8 nonce) (0, 0) _ HN0.out Try.underlying26 rfl HIN.out ?_) | (refine hold_store 61 (.tmp 7) (.tmp 19) rfl ?_)))
  refine store_row_new rfl 61 (.tmp 7) (.tmp 19) rfl w1.heap.size (VN .i64 s) rfl rfl rfl 61 (VN .i64 (List.replicate 16 0)) (HI.out _ HSS.out) (by rw [VN_size, VN_size, HSS.out.len, List.length_replicate]) (VN_one _ _) ?_
  obtain ⟨m, hm⟩ : ∃ m, w1.heap.size = m := ⟨_, rfl⟩
  obtain ⟨W1, hW1⟩ : ∃ W, w1.alloc (.cells (VN .i64 s) 61) = W := ⟨_, rfl⟩
  rw [hW1, hm]
  have HF1 : Hid (RI W1 m s 61) := by
    show RI W1 m _ _
    rw [← hW1, ← hm]; simp only [RI, heap_alloc_any]; rw [if_pos trivial]
  have HS1 : Hid (W1.heap.size = m + 1) := by
    show W1.heap.size = m + 1
    rw [← hW1, ← hm]; simp [size_alloc]
  have HST : Hid (DW q m w s (rnds 0 s) (W1.alloc (.cells (VN .i64 s) 61))) := by
    obtain ⟨p2, p4, p3⟩ := HX0.out
    have s1 := HS1.out
    have hle : q + 3 ≤ m := by have := hb1.size; omega
    have hbb : Below m w1 W1 := by rw [← hW1, ← hm]; exact (Below.refl _ _).alloc (Nat.le_refl _) _
    have hb2 : Below (m + 1) W1 (W1.alloc (.cells (VN .i64 s) 61)) := by rw [← s1]; exact (Below.refl _ _).alloc (Nat.le_refl _) _
    refine ⟨p4.trans ((hb1.mono (by omega)).trans ((hbb.mono (by omega)).trans (hb2.mono (by omega)))), hle, by simp [size_alloc, s1], ?_, ?_, ?_⟩
    · exact (hb2.block _ (by omega)).trans ((hbb.block _ (by omega)).trans ((hb1.block _ (by omega)).trans p2))
    · exact (hb2.block _ (by omega)).trans HF1.out
    · simp only [RI, heap_alloc_any, s1]; rw [if_pos trivial]; rfl
  clear hb1 hW0' HX0 CL HK0 HN0
  go_wp2_with (with_reducible refine at_list ?_; first | (refine wpList_load_row rfl 61 (.tmp 7) rfl m rfl 61 (VN .i64 s) (0, 0) _ HF1.out Try.underlying61 rfl (HI.out _ HSS.out) ?_) | (refine hold_store 61 (.tmp 8) (.tmp 20) rfl ?_))
  refine store_row_new rfl 61 (.tmp 8) (.tmp 20) rfl W1.heap.size (VN .i64 s) rfl rfl rfl 61 (VN .i64 (List.replicate 16 0)) (HI.out _ HSS.out) (by rw [VN_size, VN_size, HSS.out.len, List.length_replicate]) (VN_one _ _) ?_
  obtain ⟨W, hW⟩ : ∃ W, W1.alloc (.cells (VN .i64 s) 61) = W := ⟨_, rfl⟩
  rw [hW] at HST ⊢
  rw [HS1.out]
  clear hW hW1 HS1 HF1
  have HQr : Hid (∀ (L : List Nat) (i j k p : Nat) (w' : World), St L → i < 16 → j < 16 → k < 16 → p < 16 → i ≠ j → i ≠ k → i ≠ p → j ≠ k → j ≠ p → k ≠ p → Calls Try.prog 25 #[.agg (VN .i64 L), .int .i64 (i : Int), .int .i64 (j : Int), .int .i64 (k : Int), .int .i64 (p : Int)] w' fun e w'' => e = .returned (.agg (VN .i64 (qat L i j k p))) ∧ Below w'.heap.size w' w'') := fun L i j k p w' hL hi hj hk hp a b c d e f => rquarter i j k p L w' hL.len hL.bd hi hj hk hp a b c d e f
  go_wp2
  go_loopw [9] (fun v w' => ∃ r : Nat, r ≤ 10 ∧ v = .int .i64 (r : Int) ∧ DW q m w s (rnds r s) w') (fun v _ => 10 - (intOf v).toNat)
  case atStart => exact ⟨0, Nat.zero_le _, rfl, HST.out⟩
  case round =>
    clear HST
    obtain ⟨r, hr, rfl, hp⟩ := hrel
    by_cases hlt : r < 10
    · have HP : Hid (DW q m w s (cols 0 (rnds r s)) wr) := hp
      have HL : Hid (St (rnds r s)) := HSS.out.rnds r
      have HD : Hid (∀ w', DW q m w s (dias 4 (cols 4 (rnds r s))) w' → DW q m w s (rnds (r + 1) s) w') := fun _ h => h
      clear hp
      generalize rnds r s = t at *
      have b0 : (r : Int) < 10 := by omega
      go_wp2
      go_loopw [10] (fun v w' => ∃ i : Nat, i ≤ 4 ∧ v = .int .i64 (i : Int) ∧ DW q m w s (cols i t) w') (fun v _ => 4 - (intOf v).toNat)
      case atStart => exact ⟨0, Nat.zero_le _, rfl, HP.out⟩
      case round =>
        clear HP
        obtain ⟨i, hi, rfl, hp⟩ := hrel
        by_cases hlt2 : i < 4
        · have cq := HQr.out (cols i t) i (4 + i) (8 + i) (12 + i) wr (HL.out.cols i) (by omega) (by omega) (by omega) (by omega) (by omega) (by omega) (by omega) (by omega) (by omega) (by omega)
          rw [show ((4 + i : Nat) : Int) = 4 + (i : Int) by omega, show ((8 + i : Nat) : Int) = 8 + (i : Int) by omega, show ((12 + i : Nat) : Int) = 12 + (i : Int) by omega] at cq
          have CQ : Hid _ := cq
          have HIa : Hid _ := HI.out _ (HL.out.cols i)
          have HIb : Hid ((Try.prog.info? 61).map (·.size) = some (VN .i64 (cols (i + 1) t)).size) := HI.out _ (HL.out.cols (i + 1))
          have HSb : Hid ((VN .i64 (cols i t)).size = (VN .i64 (cols (i + 1) t)).size) := by
            have : (VN .i64 (cols i t)).size = (VN .i64 (cols (i + 1) t)).size := by rw [VN_size, VN_size, (HL.out.cols i).len, (HL.out.cols (i + 1)).len]
            exact this
          have HPx : Hid (DW q m w s (cols i t) wr) := hp
          have b1 : (i : Int) < 4 := by omega
          clear cq hp
          rw [show qat (cols i t) i (4 + i) (8 + i) (12 + i) = cols (i + 1) t from rfl] at CQ
          generalize hL1 : cols (i + 1) t = L1 at *
          have HL1 : Hid (cols (i + 1) t = L1) := hL1
          clear hL1
          generalize cols i t = L0 at *
          go_wp2_with (first | (go_at_call 25; refine Calls.mono CQ.out ?_; rintro e w2 ⟨rfl, hb2⟩; have H2 : Hid (DW q m w s L0 w2) := HPx.out.below hb2; clear hb2) | (with_reducible refine at_list ?_; first | (refine wpList_load_row rfl 61 (.tmp 8) rfl (m + 1) rfl 61 (VN .i64 L0) (0, 0) _ HPx.out.hv Try.underlying61 rfl HIa.out ?_) | (refine wpList_store_row rfl 61 (.tmp 8) (.tmp 37) rfl (m + 1) (VN .i64 L1) rfl rfl 61 (VN .i64 L0) H2.out.hv HIb.out HSb.out (VN_one _ _) ?_)))
          go_roundw
          case rel => exact ⟨i + 1, by omega, by go_num, by rw [HL1.out]; exact H2.out.row⟩
          case measure => simp [intOf]; omega
        · have bb : ¬ (i : Int) < 4 := by omega
          have hi' : i = 4 := by omega
          rw [hi'] at hp
          clear hi'
          have HP : Hid (DW q m w s (dias 0 (cols 4 t)) wr) := hp
          have HL4 : Hid (St (cols 4 t)) := HL.out.cols 4
          clear hp HL
          generalize cols 4 t = t4 at *
          go_wp2
          go_loopw [11] (fun v w' => ∃ i : Nat, i ≤ 4 ∧ v = .int .i64 (i : Int) ∧ DW q m w s (dias i t4) w') (fun v _ => 4 - (intOf v).toNat)
          case atStart => exact ⟨0, Nat.zero_le _, rfl, HP.out⟩
          case round =>
            clear HP
            obtain ⟨i2, hi2, rfl, hp⟩ := hrel
            by_cases hlt3 : i2 < 4
            · have cq := HQr.out (dias i2 t4) i2 (4 + (i2 + 1) % 4) (8 + (i2 + 2) % 4) (12 + (i2 + 3) % 4) wr (HL4.out.dias i2) (by omega) (by omega) (by omega) (by omega) (by omega) (by omega) (by omega) (by omega) (by omega) (by omega)
              rw [show ((4 + (i2 + 1) % 4 : Nat) : Int) = 4 + ((i2 : Int) + 1) % 4 by omega, show ((8 + (i2 + 2) % 4 : Nat) : Int) = 8 + ((i2 : Int) + 2) % 4 by omega, show ((12 + (i2 + 3) % 4 : Nat) : Int) = 12 + ((i2 : Int) + 3) % 4 by omega] at cq
              have CQ : Hid _ := cq
              have HIa : Hid _ := HI.out _ (HL4.out.dias i2)
              have HIb : Hid ((Try.prog.info? 61).map (·.size) = some (VN .i64 (dias (i2 + 1) t4)).size) := HI.out _ (HL4.out.dias (i2 + 1))
              have HSb : Hid ((VN .i64 (dias i2 t4)).size = (VN .i64 (dias (i2 + 1) t4)).size) := by
                have : (VN .i64 (dias i2 t4)).size = (VN .i64 (dias (i2 + 1) t4)).size := by rw [VN_size, VN_size, (HL4.out.dias i2).len, (HL4.out.dias (i2 + 1)).len]
                exact this
              have HPx : Hid (DW q m w s (dias i2 t4) wr) := hp
              have b1 : (i2 : Int) < 4 := by omega
              clear cq hp
              rw [show qat (dias i2 t4) i2 (4 + (i2 + 1) % 4) (8 + (i2 + 2) % 4) (12 + (i2 + 3) % 4) = dias (i2 + 1) t4 from rfl] at CQ
              generalize hL1 : dias (i2 + 1) t4 = L1 at *
              have HL1 : Hid (dias (i2 + 1) t4 = L1) := hL1
              clear hL1
              generalize dias i2 t4 = L0 at *
              go_wp2_with (first | (go_at_call 25; refine Calls.mono CQ.out ?_; rintro e w2 ⟨rfl, hb2⟩; have H2 : Hid (DW q m w s L0 w2) := HPx.out.below hb2; clear hb2) | (with_reducible refine at_list ?_; first | (refine wpList_load_row rfl 61 (.tmp 8) rfl (m + 1) rfl 61 (VN .i64 L0) (0, 0) _ HPx.out.hv Try.underlying61 rfl HIa.out ?_) | (refine wpList_store_row rfl 61 (.tmp 8) (.tmp 56) rfl (m + 1) (VN .i64 L1) rfl rfl 61 (VN .i64 L0) H2.out.hv HIb.out HSb.out (VN_one _ _) ?_)))
              go_roundw
              case rel => exact ⟨i2 + 1, by omega, by go_num, by rw [HL1.out]; exact H2.out.row⟩
              case measure => simp [intOf]; omega
            · have bb2 : ¬ (i2 : Int) < 4 := by omega
              have hi' : i2 = 4 := by omega
              rw [hi'] at hp
              clear hi'
              have H2 : Hid (DW q m w s (rnds (r + 1) s) wr) := HD.out _ hp
              clear hp HD HL4
              go_wp2
              go_roundw
              case rel => exact ⟨r + 1, by omega, by go_num, H2.out⟩
              case measure => simp [intOf]; omega
    · have b0 : ¬ (r : Int) < 10 := by omega
      have hr' : r = 10 := by omega
      rw [hr'] at hp
      clear hr'
      have sr := HSS.out.rnds 10
      have eb : blk s = List.zipWith ad (rnds 10 s) s := by unfold blk; rfl
      have sb := HSS.out.blk
      obtain ⟨bs, hbs⟩ : ∃ x, blk s = x := ⟨_, rfl⟩
      rw [hbs] at HOF sb eb
      clear hbs
      generalize rnds 10 s = rs at *
      have HX : Hid (∀ i, i < 16 → rs.getD i 0 < 4294967296 ∧ s.getD i 0 < 4294967296 ∧ bs.getD i 0 = ad (rs.getD i 0) (s.getD i 0) ∧ bs.getD i 0 < 4294967296) := fun i hi => by
        refine ⟨sr.bd.at i, HSS.out.bd.at i, ?_, sb.bd.at i⟩
        rw [eb]
        simp only [List.getD, List.getElem?_zipWith]
        rw [List.getElem?_eq_getElem (show i < rs.length by rw [sr.len]; exact hi), List.getElem?_eq_getElem (show i < s.length by rw [HSS.out.len]; exact hi)]
        rfl
      have HZ : Hid (FZ q m wr.heap.size w s rs (outT bs (4 * 0)) (wr.alloc (.cells (VN .u8 (List.replicate 64 0)) 29))) := by
        show FZ q m wr.heap.size w s rs (outT bs 0) _
        rw [outT_zero]
        exact ⟨hp.below ((Below.refl _ _).alloc (Nat.le_refl _) _), hp.sz, by rw [heap_alloc_any, if_pos rfl], .inl rfl, rep_bd 64⟩
      have HRSl : Hid (rs.length = 16 ∧ s.length = 16) := ⟨sr.len, HSS.out.len⟩
      obtain ⟨z, hz⟩ : ∃ z, wr.heap.size = z := ⟨_, rfl⟩
      obtain ⟨Wz, hWz⟩ : ∃ W, wr.alloc (.cells (VN .u8 (List.replicate 64 0)) 29) = W := ⟨_, rfl⟩
      have hWz' : wr.alloc (.cells #[.int .u8 0, .int .u8 0, .int .u8 0, .int .u8 0, .int .u8 0, .int .u8 0, .int .u8 0, .int .u8 0, .int .u8 0, .int .u8 0, .int .u8 0, .int .u8 0, .int .u8 0, .int .u8 0, .int .u8 0, .int .u8 0, .int .u8 0, .int .u8 0, .int .u8 0, .int .u8 0, .int .u8 0, .int .u8 0, .int .u8 0, .int .u8 0, .int .u8 0, .int .u8 0, .int .u8 0, .int .u8 0, .int .u8 0, .int .u8 0, .int .u8 0, .int .u8 0, .int .u8 0, .int .u8 0, .int .u8 0, .int .u8 0, .int .u8 0, .int .u8 0, .int .u8 0, .int .u8 0, .int .u8 0, .int .u8 0, .int .u8 0, .int .u8 0, .int .u8 0, .int .u8 0, .int .u8 0, .int .u8 0, .int .u8 0, .int .u8 0, .int .u8 0, .int .u8 0, .int .u8 0, .int .u8 0, .int .u8 0, .int .u8 0, .int .u8 0, .int .u8 0, .int .u8 0, .int .u8 0, .int .u8 0, .int .u8 0, .int .u8 0, .int .u8 0] 29) = Wz := hWz
      rw [hWz, hz] at HZ
      clear hp sr sb eb hWz HQr
      go_wp2
      clear hWz'
      go_loopw [13] (fun v w' => ∃ i : Nat, i ≤ 16 ∧ v = .int .i64 (i : Int) ∧ FZ q m z w s rs (outT bs (4 * i)) w') (fun v _ => 16 - (intOf v).toNat)
      case atStart => exact ⟨0, Nat.zero_le _, rfl, HZ.out⟩
      case round =>
        clear HZ
        obtain ⟨i, hi, rfl, hp⟩ := hrel
        by_cases hlt2 : i < 16
        · obtain ⟨x1, x2, x3, x4⟩ := HX.out i hlt2
          have c1 := hp.dw.hv.cell (i := i) (by rw [HRSl.out.1]; exact hlt2)
          have c2 := hp.dw.hw.cell (i := i) (by rw [HRSl.out.2]; exact hlt2)
          have e1 := rem32 (rs.getD i 0) (s.getD i 0) x1 x2
          rw [← x3] at e1
          have b1 : (i : Int) < 16 := by omega
          have HP : Hid (∀ d, FZ q m z w s rs (outT bs (4 * i + 0)) (wr.drewN d)) := fun d => ⟨hp.dw.below ⟨rfl, rfl, rfl, Nat.le_refl _, fun _ _ => rfl⟩, hp.hz, hp.ho.row, hp.ho.ok, hp.ho.bd⟩
          have HBt : Hid (∀ k, k < 4 → bt bs (4 * i + k) = bs.getD i 0 / 256 ^ k % 256) := fun k hk => bt_at bs i k hk
          clear hp x3 HX
          generalize rs.getD i 0 = y1 at *
          generalize s.getD i 0 = y2 at *
          generalize bs.getD i 0 = y3 at *
          go_wp2
          go_quiet (fail)
          go_wp2
          go_loopw [14, 15] (fun vx vk w' => ∃ k : Nat, k ≤ 4 ∧ vx = .int .i64 ((y3 / 256 ^ k : Nat) : Int) ∧ vk = .int .i64 (k : Int) ∧ FZ q m z w s rs (outT bs (4 * i + k)) w') (fun _ vk _ => 4 - (intOf vk).toNat)
          case atStart => exact ⟨0, Nat.zero_le _, by simp [e1], rfl, HP.out _⟩
          case round =>
            clear HP c1 c2 e1
            obtain ⟨k, hk, rfl, rfl, hp⟩ := hrel
            by_cases hlt3 : k < 4
            · have hs := hp.set (4 * i + k) (bt bs (4 * i + k)) (bt_lt _ _)
              rw [outT_set _ _ (by omega), HBt.out k hlt3] at hs
              have c3 := hp.ho.cell (i := 4 * i + k) (by rw [outT_len]; omega)
              have f3 := hp.ho.froz (j := 4 * i + k) (by rw [outT_len]; omega)
              generalize (outT bs (4 * i + k)).getD (4 * i + k) 0 = y5 at c3
              have HY : Hid (y3 / 256 ^ (k + 1) = y3 / 256 ^ k / 256) := by
                show y3 / 256 ^ (k + 1) = y3 / 256 ^ k / 256
                rw [Nat.pow_succ, Nat.div_div_eq_div_mul]
              have y6 : y3 / 256 ^ k < 4294967296 := Nat.lt_of_le_of_lt (Nat.div_le_self _ _) x4
              obtain ⟨u, hu⟩ : ∃ u, y3 / 256 ^ k = u := ⟨_, rfl⟩
              rw [hu] at hs y6 HY ⊢
              have HSx : Hid (FZ q m z w s rs (outT bs (4 * i + (k + 1))) (wr.setCell ⟨z, 4 * i + k, none⟩ (.int .u8 ((u : Int) % 256)))) := hs
              have b3 : (k : Int) < 4 := by omega
              have b4 : 4 * (i : Int) + (k : Int) < 64 := by omega
              clear hs hp hu HBt
              go_wp2
              go_roundw
              case rel => exact ⟨k + 1, by omega, by rw [HY.out]; exact congrArg (Value.int .i64) (by omega), by go_num, HSx.out⟩
              case measure => simp [intOf]; omega
            · have b3 : ¬ (k : Int) < 4 := by omega
              have hk' : k = 4 := by omega
              rw [hk'] at hp
              have HSx : Hid (FZ q m z w s rs (outT bs (4 * (i + 1))) wr) := hp
              clear hp hk' HBt
              go_wp2
              go_roundw
              case rel => exact ⟨i + 1, by omega, by go_num, HSx.out⟩
              case measure => simp [intOf]; omega
        · have b1 : ¬ (i : Int) < 16 := by omega
          have hi' : i = 16 := by omega
          rw [hi', show 4 * 16 = 64 from rfl, HOF.out] at hp
          have HP : Hid (FZ q m z w s rs (kb key c nonce) wr) := hp
          have HIB : Hid ((Try.prog.info? 29).map (·.size) = some (VN .u8 (kb key c nonce)).size) := infoB (kb_len _ _ _)
          have HSB : Hid ((VN .u8 (List.replicate 64 0)).size = (VN .u8 (kb key c nonce)).size) := by
            have : (VN .u8 (List.replicate 64 0)).size = (VN .u8 (kb key c nonce)).size := by rw [VN_size, VN_size, kb_len, List.length_replicate]
            exact this
          clear hp hi' HX HOF
          obtain ⟨kbs, hkb⟩ : ∃ x, kb key c nonce = x := ⟨_, rfl⟩
          have HKB : Hid (kb key c nonce = kbs) := hkb
          rw [hkb] at HP HIB HSB
          clear hkb
          go_wp2_with (with_reducible refine at_list ?_; first | (refine wpList_load_row rfl 29 (.tmp 12) rfl z rfl 29 (VN .u8 kbs) (0, 0) _ HP.out.ho.row Try.underlying29 rfl HIB.out ?_) | (refine wpList_store_row rfl 29 (.tmp 6) (.tmp 83) rfl (q + 1 + 1) (VN .u8 kbs) rfl rfl 29 (VN .u8 (List.replicate 64 0)) HP.out.dw.hr HIB.out HSB.out (VN_one _ _) ?_))
          refine bodyPost_ret (v := .agg (VN .u8 kbs)) ?_ rfl ⟨by rw [HKB.out], below_setRow (by first | exact HP.out.dw.old | (rw [HQ.out]; exact HP.out.dw.old)) _ (by first | omega | (rw [HQ.out]; omega)) _⟩
          exact results_cell_row (P := Try.prog) (fn := Try.f10) (p := 6) (ty := 29) rfl _ _ (q + 1 + 1) 29 (VN .u8 kbs) (0, 0) _ rfl (setRow_heap _ _ _ _ 29 _ HP.out.dw.hr) Try.underlying29 rfl HIB.out
end Go.Proofs.Ytefnlaookmpbhaa
