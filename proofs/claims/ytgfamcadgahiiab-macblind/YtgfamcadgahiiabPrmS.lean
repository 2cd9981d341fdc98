import Derived.Test.YtgfamcadgahiiabPrmG
namespace Go.Proofs.Ytgfamcadgahiiab
set_option linter.unusedSimpArgs false
open Go.ChangeShapes Go.WideShapes Go.ChangeAt Go.RowKit Go.Pin Go.Prm
theorem infoT16 : (Try.prog.info? 27).map (·.size) = some 16 := by kernel_rfl
theorem info16 : (Try.prog.info? 26).map (·.size) = some 16 := by kernel_rfl
/-- 16 bytes -/
structure Key16 (b : List Int) : Prop where
  len : b.length = 16
  bd : ∀ x ∈ b, 0 ≤ x ∧ x < 256
theorem Key16.info {b : List Int} (h : Key16 b) : (Try.prog.info? 26).map (·.size) = some (VI .u8 b).size := by rw [VI_size, h.len]; exact info16
theorem Key16.infoT {b : List Int} (h : Key16 b) : (Try.prog.info? 27).map (·.size) = some (VI .u8 b).size := by rw [VI_size, h.len]; exact infoT16
theorem bts_key (n : Nat) : Key17 (bts n) := ⟨bts_len n, bts_bd n⟩
theorem bytes_any (a : List Int) (ha : Lim a) (w : World) : Calls Try.prog 36 #[.agg (VI .u64 a)] w fun e w' => e = .returned (.agg (VI .u8 (bts (num a)))) ∧ Below w.heap.size w w' := encode_any a ha w
/-- Sum's boxes: s, the result -/
structure SW0 (n : Nat) (w : World) (s : List Int) (wr : World) : Prop where
  old : Below n w wr
  sz : n + 3 ≤ wr.heap.size
  hs : rowB wr (n + 1) s 26
  hr : rowB wr (n + 2) (List.replicate 16 0) 27
theorem SW0.below {n : Nat} {w wr w' : World} {s : List Int} (h : SW0 n w s wr) (hb : Below (n + 3) wr w') : SW0 n w s w' :=
  ⟨h.old.trans (hb.mono (by omega)), Nat.le_trans h.sz hb.size, (hb.block _ (by omega)).trans h.hs, (hb.block _ (by omega)).trans h.hr⟩
theorem sw_start (w : World) (a s : List Int) : SW0 w.heap.size w s (((w.alloc (.cells (VI .u64 a) 69)).alloc (.cells (VI .u8 s) 26)).alloc (.cells (VI .u8 (List.replicate 16 0)) 27)) ∧
    rowAt (((w.alloc (.cells (VI .u64 a) 69)).alloc (.cells (VI .u8 s) 26)).alloc (.cells (VI .u8 (List.replicate 16 0)) 27)) w.heap.size a 69 := by
  refine ⟨⟨(((Below.refl _ _).alloc (Nat.le_refl _) _).alloc (by simp) _).alloc (by simp; omega) _, by simp [size_alloc], ?_, ?_⟩, ?_⟩
  all_goals simp only [rowAt, rowB, heap_alloc_any, size_alloc]
  · rw [if_neg (by omega), if_pos trivial]
  · rw [if_pos trivial]
  · rw [if_neg (by omega), if_neg (by omega), if_pos trivial]
/-- and the bytes at G, the tag at G + 1 -/
structure SW (n G : Nat) (w : World) (s b t : List Int) (wr : World) : Prop extends SW0 n w s wr where
  hG : n + 3 ≤ G
  hb : rowB wr G b 71
  ht : rowB wr (G + 1) t 27
theorem SW.set {n G : Nat} {w wr : World} {s b t : List Int} (h : SW n G w s b t wr) (i : Nat) (v : Int) : SW n G w s b (t.set i v) (wr.setCell ⟨G + 1, i, none⟩ (.int .u8 v)) :=
  ⟨h.toSW0.below ((Below.refl _ _).setCell (by have := h.hG; simp; omega) _), h.hG, row_other h.hb (by simp) _, rowB_set h.ht _ _⟩
theorem SW.drew {n G : Nat} {w wr : World} {s b t : List Int} (h : SW n G w s b t wr) : SW n G w s b t wr.drew := ⟨h.toSW0.below (Below.refl _ _).drew, h.hG, h.hb, h.ht⟩
theorem SW0.next {n : Nat} {w wr : World} {s : List Int} (h : SW0 n w s wr) (b : List Int) : SW n wr.heap.size w s b (List.replicate 16 0) ((wr.alloc (.cells (VI .u8 b) 71)).alloc (.cells (VI .u8 (List.replicate 16 0)) 27)) := by
  have hs := h.sz
  refine ⟨h.below (((Below.refl _ _).alloc hs _).alloc (by simp; omega) _), hs, ?_, ?_⟩
  all_goals simp only [rowB, heap_alloc_any, size_alloc]
  · rw [if_neg (by omega), if_pos trivial]
  · rw [if_pos trivial]
set_option maxRecDepth 100000 in
set_option maxHeartbeats 4000000 in
theorem sum_any (a s : List Int) (ha : Lim a) (hs : Key16 s) (w : World) :
    Calls Try.prog 28 #[.agg (VI .u64 a), .agg (VI .u8 s)] w fun e w' => e = .returned (.agg (VI .u8 (smt (bts (num a)) s))) ∧ Below w.heap.size w w' := by
  obtain ⟨hsw, hra⟩ := sw_start w a s
  have HB : Hid (∀ w, Calls Try.prog 36 #[.agg (VI .u64 a)] w fun e w' => e = .returned (.agg (VI .u8 (bts (num a)))) ∧ Below w.heap.size w w') := fun w => bytes_any a ha w
  obtain ⟨W, hW⟩ : ∃ W, ((w.alloc (.cells (VI .u64 a) 69)).alloc (.cells (VI .u8 s) 26)).alloc (.cells (VI .u8 (List.replicate 16 0)) 27) = W := ⟨_, rfl⟩
  have hW' : ((w.alloc (.cells (VI .u64 a) 69)).alloc (.cells (VI .u8 s) 26)).alloc (.cells #[.int .u8 0, .int .u8 0, .int .u8 0, .int .u8 0, .int .u8 0, .int .u8 0, .int .u8 0, .int .u8 0, .int .u8 0, .int .u8 0, .int .u8 0, .int .u8 0, .int .u8 0, .int .u8 0, .int .u8 0, .int .u8 0] 27) = W := hW
  rw [hW] at hsw hra
  clear hW
  obtain ⟨a0, a1, a2, a3, a4, rfl⟩ := five ha.len
  obtain ⟨ca0, ca1, ca2, ca3, ca4⟩ := cells5 hra
  have HSW : Hid (SW0 w.heap.size w s W) := hsw
  have HS : Hid (Key16 s) := hs
  have HK : Hid (Key17 (bts (num [a0, a1, a2, a3, a4]))) := bts_key _
  generalize bts (num [a0, a1, a2, a3, a4]) = b at *
  clear hsw hra ha hs
  go_enter Try.func28, Try.ntmps28
  go_wp2_with (first | (go_at_call 36; refine (HB.out W).mono ?_; rintro e W1 ⟨rfl, hb1⟩; have HW1 : Hid (SW0 w.heap.size w s W1) := HSW.out.below (hb1.mono HSW.out.sz); clear hb1) | (with_reducible refine at_list ?_; refine hold_store 71 (.tmp 5) (.tmp 10) rfl ?_))
  refine store_row_new rfl 71 (.tmp 5) (.tmp 10) rfl W1.heap.size (VI .u8 b) rfl rfl rfl 71 (VI .u8 (List.replicate 17 0)) HK.out.info (by rw [VI_size, VI_size, HK.out.len]; rfl) (VI_one _ _) ?_
  have hn := HW1.out.next b
  obtain ⟨G, hG⟩ : ∃ G, W1.heap.size = G := ⟨_, rfl⟩
  rw [hG] at hn
  obtain ⟨W2, hW2⟩ : ∃ W2, W1.alloc (.cells (VI .u8 b) 71) = W2 := ⟨_, rfl⟩
  have hs2 : W2.heap.size = G + 1 := by rw [← hW2, size_alloc, hG]
  rw [hW2] at hn ⊢
  obtain ⟨W3, hW3⟩ : ∃ W3, W2.alloc (.cells (VI .u8 (List.replicate 16 0)) 27) = W3 := ⟨_, rfl⟩
  have hW3' : W2.alloc (.cells #[.int .u8 0, .int .u8 0, .int .u8 0, .int .u8 0, .int .u8 0, .int .u8 0, .int .u8 0, .int .u8 0, .int .u8 0, .int .u8 0, .int .u8 0, .int .u8 0, .int .u8 0, .int .u8 0, .int .u8 0, .int .u8 0] 27) = W3 := hW3
  rw [hW3] at hn
  have HN : Hid (SW w.heap.size G w s b (List.replicate 16 0) W3) := hn
  clear hn hW3 HB HSW HW1 ca0 ca1 ca2 ca3 ca4 hW'
  simp only [hG]
  go_wp2
  go_loopw [7, 11] (fun o i w' => ∃ k : Nat, k ≤ 16 ∧ i = .int .i64 k ∧ o = .int .u64 (cr b s k) ∧ SW w.heap.size G w s b ((smt b s).take k ++ (List.replicate 16 (0 : Int)).drop k) w') (fun _ i _ => 16 - (intOf i).toNat)
  case atStart => exact ⟨0, Nat.zero_le _, rfl, rfl, HN.out⟩
  case round =>
    clear HN hW3' hs2 hW2 hG
    clear W3 W2 W1 W
    obtain ⟨k, hk, rfl, rfl, hp⟩ := hrel
    have hG := hp.hG
    by_cases hlt : k < 16
    · have hcb := rowB_cell hp.hb (i := k) (by rw [HK.out.len]; omega)
      have hcs := rowB_cell hp.hs (i := k) (by rw [HS.out.len]; omega)
      have hct := rowB_cell hp.ht (i := k) (by simp; omega)
      have hfz : wr.frozen? ⟨G + 1, k, none⟩ = false := frozen_of_row wr _ _ _ _ hp.ht
      obtain ⟨b0, b1⟩ := byte_at HK.out.bd k
      obtain ⟨s0, s1⟩ := byte_at HS.out.bd k
      obtain ⟨c0, c1⟩ := cr_bd HK.out.bd HS.out.bd k
      have hst := hp.set k ((smt b s)[k]'(by simpa using hlt))
      rw [set_step _ _ _ (by simpa using hlt) (by simpa using hlt), smt_at _ _ _ hlt] at hst
      have HST : Hid (SW w.heap.size G w s b ((smt b s).take (k + 1) ++ (List.replicate 16 (0 : Int)).drop (k + 1)) (wr.setCell ⟨G + 1, k, none⟩ (.int .u8 ((cr b s k + (b.getD k 0 + s.getD k 0)) % 256)))) := hst
      have HCR : Hid (cr b s (k + 1) = (cr b s k + (b.getD k 0 + s.getD k 0)) / 256) := rfl
      clear hp hst
      generalize cr b s k = c at *
      generalize b.getD k 0 = x at *
      generalize s.getD k 0 = y at *
      generalize List.getD _ k 0 = z at hct
      go_wp2
      go_region
      go_wp2
      go_roundw
      case rel => exact ⟨k + 1, by omega, by go_num, by rw [HCR.out], HST.out.drew⟩
      case measure => simp [intOf]; omega
    · have hk' : k = 16 := by omega
      subst hk'
      have h := hp
      rw [List.take_of_length_le (by simp), List.drop_of_length_le (by simp), List.append_nil] at h
      have HP : Hid (SW w.heap.size G w s b (smt b s) wr) := h
      have HI : Hid ((Try.prog.info? 27).map (·.size) = some (VI .u8 (smt b s)).size) := by rw [VI_size, smt_len]; exact infoT16
      clear hp h hlt hk
      rw [show ((16 : Nat) : Int) = 16 from rfl]
      go_wp2_with (with_reducible refine at_list ?_; first | (refine wpList_load_row rfl 27 (.tmp 6) rfl (G + 1) rfl 27 (VI .u8 (smt b s)) (0, 0) _ HP.out.ht Try.underlying27 rfl HI.out ?_) | (refine wpList_store_row rfl 27 (.tmp 4) (.tmp 32) rfl (w.heap.size + 2) (VI .u8 (smt b s)) rfl rfl 27 (VI .u8 (List.replicate 16 0)) HP.out.hr HI.out (by simp) (VI_one _ _) ?_))
      refine bodyPost_ret (v := .agg (VI .u8 (smt b s))) ?_ rfl ⟨rfl, below_setRow HP.out.old _ (by omega) _⟩
      exact results_cell_row (P := Try.prog) (fn := Try.f28) (p := 4) (ty := 27) rfl _ _ (w.heap.size + 2) 27 (VI .u8 (smt b s)) (0, 0) _ rfl (setRow_heap wr _ _ _ 27 _ HP.out.hr) Try.underlying27 rfl HI.out
end Go.Proofs.Ytgfamcadgahiiab
