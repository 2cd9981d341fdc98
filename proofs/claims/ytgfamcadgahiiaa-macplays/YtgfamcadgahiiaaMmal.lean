import Derived.Test.YtgfamcadgahiiaaMmak
namespace Go.Proofs.Ytgfamcadgahiiaa
set_option linter.unusedSimpArgs false
set_option linter.unusedVariables false
open Go.ChangeShapes Go.WideShapes Go.ChangeAt Go.RowKit Go.Pin Go.Prm
theorem wrapS16 {m m2 : Nat} (h : m = m2 + 16) (hb : m ≤ 1000000) : wrap64 ((m : Int) - 16) = (m2 : Int) ∧ IntKind.i64.wrap ((m : Int) - 16) = (m2 : Int) := by
  rw [IntWalk.wrap64_in _ ⟨by omega, by omega⟩, IntWalk.i64_in _ ⟨by omega, by omega⟩]
  omega
theorem wrapZ {z : Int} {k : Nat} (h : z = (k : Int)) (hb : k ≤ 1000000) : wrap64 z = (k : Int) ∧ IntKind.i64.wrap z = (k : Int) := by
  rw [IntWalk.wrap64_in _ ⟨by omega, by omega⟩, IntWalk.i64_in _ ⟨by omega, by omega⟩]
  omega
set_option maxRecDepth 100000 in
set_option maxHeartbeats 8000000 in
theorem ewrite_any (h n : Nat) (hh : h < 16) (hn : n ≤ 131072) (w : World) : Calls Try.prog 18 #[.int .i64 (h : Int), .int .i64 (n : Int)] w fun e w' => ∃ u, e = .returned (.tuple #[u, .int .i64 (((h + n) % 16 : Nat) : Int)]) ∧ Evl w.heap.size w u (wlog h n) w' := by
  obtain ⟨B, hB⟩ : ∃ B, w.heap.size = B := ⟨_, rfl⟩
  have h0 : Evl B w (.slice none 0 0) [] w := ⟨Below.refl _ _, by rw [hB]; exact Nat.le_refl _, World.ownsRow_nil _ _ _ _⟩
  rw [hB]
  by_cases hp : 0 < h
  · have bp : (0 : Int) < (h : Int) := by omega
    obtain ⟨k, hk⟩ : ∃ k, h + k = 16 := ⟨16 - h, by omega⟩
    have HWK : Hid (wrap64 (16 - (h : Int)) = (k : Int) ∧ IntKind.i64.wrap (16 - (h : Int)) = (k : Int)) := wrapZ (by omega) (by omega)
    have HAP : Hid (∀ ty, ∃ v' w', (Builtin.append_ #[31, 31] ty #[.slice none 0 0, .slice (some ⟨w.heap.size + 1, 0, none⟩) 1 1]).run Try.prog ((w.alloc (.cells #[.int .i64 1, .int .i64 1] 82)).alloc (.cells #[.int .i64 1, .int .i64 1] 82)) = .ok v' w' ∧ Evl B w v' ([] ++ [(1, 1)]) w') := fun ty => h0.app (((Below.refl _ _).alloc (Nat.le_refl _) _).alloc (by simp) _) [(1, 1)] rfl (by rw [heap_alloc_any, if_pos (by simp [size_alloc])]; rfl) (by simp only [List.length_append, List.length_cons, List.length_nil]; omega) ty
    by_cases hs : n < k
    · have bs : (n : Int) < (k : Int) := by omega
      obtain ⟨s, hs2⟩ : ∃ s, h + n = s := ⟨_, rfl⟩
      have HWS : Hid (wrap64 ((h : Int) + (n : Int)) = (s : Int) ∧ IntKind.i64.wrap ((h : Int) + (n : Int)) = (s : Int)) := wrapZ (by omega) (by omega)
      obtain ⟨z, hz⟩ : ∃ z : Nat, z = 0 := ⟨_, rfl⟩
      have HB : Hid (h < 16 ∧ n ≤ 131072 ∧ h + k = 16 ∧ n < k ∧ h + n = s ∧ 0 < h ∧ z = 0) := ⟨hh, hn, hk, hs, hs2, hp, hz⟩
      have b16 : ¬ (s : Int) = 16 := by omega
      have b16' : ((s : Int) == 16) = false := by simp; omega
      have HWL : Hid (wlog h n = [(1, 1), (2, (h : Int)), (2, (n : Int)), (1, 0)] ++ (rnl (z / 16) ++ [ifl false, ifl (decide (0 < z % 16))])) := by
        have : wlog h n = [(1, 1), (2, (h : Int)), (2, (n : Int)), (1, 0)] ++ (rnl (z / 16) ++ [ifl false, ifl (decide (0 < z % 16))]) := by
          rw [hz]
          unfold wlog
          rw [if_pos hp, if_pos (by omega)]
          rfl
        exact this
      have HZ : Hid (z = 0) := hz
      clear h0 hB hh hn hk hs2 hz
      obtain ⟨q1, q2⟩ := HWK.out
      obtain ⟨q3, q4⟩ := HWS.out
      go_enter Try.func18, Try.ntmps18
      go_upto_region 7 with (first | (go_at_call 33; refine (rif2 true _).mono ?_; rintro e wi ⟨rfl, hw⟩; obtain rfl := hw) | (at_builtin; refine wpList_app _ rfl (.tmp 8) (.tmp 12) 31 31 rfl _ _ rfl rfl HAP.out ?_; intro av aw ah; have aH : Hid _ := ah; clear ah HAP))
      have HAQ : Hid (∀ ty, ∃ v' w', (Builtin.append_ #[31, 31] ty #[av, .slice (some ⟨aw.heap.size + 1 + 1, 0, none⟩) 2 2]).run Try.prog (((aw.alloc (.cells #[.int .i64 2, .int .i64 (h : Int)] 82)).alloc (.cells #[.int .i64 2, .int .i64 (n : Int)] 82)).alloc (.cells #[.int .i64 2, .int .i64 (h : Int), .int .i64 2, .int .i64 (n : Int)] 82)) = .ok v' w' ∧ Evl B w v' (([] ++ [(1, 1)]) ++ [(2, (h : Int)), (2, (n : Int))]) w') := fun ty => aH.out.app ((((Below.refl _ _).alloc (Nat.le_refl _) _).alloc (by simp) _).alloc (by simp; omega) _) [(2, (h : Int)), (2, (n : Int))] rfl (by rw [heap_alloc_any, if_pos (by simp [size_alloc])]; rfl) (by simp only [List.length_append, List.length_cons, List.length_nil]; omega) ty
      go_upto_region 10 with (first | (go_at_call 34; first | (refine (rat2 (h : Int) _).mono ?_; rintro e wi ⟨rfl, hw⟩; obtain rfl := hw) | (refine (rat2 (n : Int) _).mono ?_; rintro e wi ⟨rfl, hw⟩; obtain rfl := hw)) | (at_builtin; refine wpList_app _ rfl (.tmp 22) (.tmp 27) 31 31 rfl _ _ rfl rfl HAQ.out ?_; intro bv bw bh; have bH : Hid _ := bh; clear bh HAQ))
      have HAR : Hid (∀ ty, ∃ v' w', (Builtin.append_ #[31, 31] ty #[bv, .slice (some ⟨bw.heap.size + 1, 0, none⟩) 1 1]).run Try.prog ((bw.alloc (.cells #[.int .i64 1, .int .i64 0] 82)).alloc (.cells #[.int .i64 1, .int .i64 0] 82)) = .ok v' w' ∧ Evl B w v' (([] ++ [(1, 1)] ++ [(2, (h : Int)), (2, (n : Int))]) ++ [(1, 0)]) w') := fun ty => bH.out.app (((Below.refl _ _).alloc (Nat.le_refl _) _).alloc (by simp) _) [(1, 0)] rfl (by rw [heap_alloc_any, if_pos (by simp [size_alloc])]; rfl) (by simp only [List.length_append, List.length_cons, List.length_nil]; omega) ty
      go_upto_region 11 with (first | (go_at_call 33; refine (rif2 false _).mono ?_; rintro e wi ⟨rfl, hw⟩; obtain rfl := hw) | (at_builtin; refine wpList_app _ rfl (.tmp 35) (.tmp 39) 31 31 rfl _ _ rfl rfl HAR.out ?_; intro cv cw ch; have cH : Hid _ := ch; clear ch HAR))
      clear HWK HWS q1 q2 q3 q4
      go_wp2_with fail
      go_loopw [1, 6] (fun vn vl w' => ∃ (j m : Nat), z = 16 * j + m ∧ vn = .int .i64 (m : Int) ∧ Evl B w vl ([(1, 1), (2, (h : Int)), (2, (n : Int)), (1, 0)] ++ rnl j) w') (fun vn _ _ => (intOf vn).toNat)
      case atStart => exact ⟨0, z, by omega, by rw [HZ.out]; rfl, by rw [show [(1, 1), (2, (h : Int)), (2, (n : Int)), (1, 0)] ++ rnl 0 = [] ++ [(1, 1)] ++ [(2, (h : Int)), (2, (n : Int))] ++ [(1, 0)] from by simp [rnl]]; exact cH.out⟩
      case round =>
        obtain ⟨j, m, hm, rfl, hp⟩ := hrel
        have HP : Hid (Evl B w u6 ([(1, 1), (2, (h : Int)), (2, (n : Int)), (1, 0)] ++ rnl j) wr) := hp
        have HM : Hid (z = 16 * j + m) := hm
        have HLN : Hid (([(1, 1), (2, (h : Int)), (2, (n : Int)), (1, 0)] ++ rnl j).length + 10 ≤ 900000) := by
          have : ([(1, 1), (2, (h : Int)), (2, (n : Int)), (1, 0)] ++ rnl j).length + 10 ≤ 900000 := by
            have := HB.out
            simp only [List.length_append, List.length_cons, List.length_nil, rnl_len, tkl]
            omega
          exact this
        clear hp
        by_cases hge : 16 ≤ m
        · have b1 : (16 : Int) ≤ (m : Int) := by omega
          obtain ⟨m2, hm2⟩ : ∃ m2, m = m2 + 16 := ⟨m - 16, by omega⟩
          have HWM : Hid (wrap64 ((m : Int) - 16) = (m2 : Int) ∧ IntKind.i64.wrap ((m : Int) - 16) = (m2 : Int)) := wrapS16 hm2 (by have := HB.out; have := HM.out; omega)
          have HM2 : Hid (m = m2 + 16) := hm2
          have HAP : Hid (∀ ty, ∃ v' w', (Builtin.append_ #[31, 31] ty #[u6, .slice (some ⟨wr.heap.size + 1, 0, none⟩) 1 1]).run Try.prog ((wr.alloc (.cells #[.int .i64 1, .int .i64 1] 82)).alloc (.cells #[.int .i64 1, .int .i64 1] 82)) = .ok v' w' ∧ Evl B w v' (([(1, 1), (2, (h : Int)), (2, (n : Int)), (1, 0)] ++ rnl j) ++ [(1, 1)]) w') := fun ty => HP.out.app (((Below.refl _ _).alloc (Nat.le_refl _) _).alloc (by simp) _) [(1, 1)] rfl (by rw [heap_alloc_any, if_pos (by simp [size_alloc])]; rfl) (by have := HLN.out; simp only [List.length_append, List.length_cons, List.length_nil] at this ⊢; omega) ty
          clear hm hm2
          obtain ⟨q1, q2⟩ := HWM.out
          go_wp2_with (first | (go_at_call 33; refine (rif2 true _).mono ?_; rintro e wi ⟨rfl, hw⟩; obtain rfl := hw) | (at_builtin; refine wpList_app _ rfl (.tmp 47) (.tmp 49) 31 31 rfl _ _ rfl rfl HAP.out ?_; intro av aw ah; have aH : Hid _ := ah; clear ah HAP; have CT : Hid _ := taken_any aH.out (by have := HLN.out; simp only [List.length_append, List.length_cons, List.length_nil] at this ⊢; omega)) | (go_at_call 35; refine Calls.mono CT.out ?_; rintro e w9 ⟨u9, rfl, h9⟩; have H9 : Hid _ := h9; clear h9))
          go_roundw
          case rel =>
            refine ⟨j + 1, m2, by have := HM.out; have := HM2.out; omega, rfl, ?_⟩
            have h9 := H9.out
            rw [rnl]
            simp only [List.append_assoc, List.cons_append, List.nil_append] at h9 ⊢
            exact h9
          case measure => have := HM2.out; simp only [intOf]; omega
        · have b1 : ¬ (16 : Int) ≤ (m : Int) := by omega
          by_cases h0 : 0 < m
          · have b2 : (0 : Int) < (m : Int) := by omega
            have HLG : Hid (wlog h n = ([(1, 1), (2, (h : Int)), (2, (n : Int)), (1, 0)] ++ rnl j) ++ [(1, 0), (1, 1)]) := by
              have : wlog h n = ([(1, 1), (2, (h : Int)), (2, (n : Int)), (1, 0)] ++ rnl j) ++ [(1, 0), (1, 1)] := by
                have e1 : z / 16 = j := by have := HM.out; omega
                have e2 : z % 16 = m := by have := HM.out; omega
                rw [HWL.out, e1, e2, decide_eq_true h0]
                simp only [List.append_assoc]
                rfl
              exact this
            have HFI : Hid ((h + n) % 16 = m) := by
              have : (h + n) % 16 = m := by have := HM.out; have := HB.out; omega
              exact this
            clear hm hge
            have HAP : Hid (∀ ty, ∃ v' w', (Builtin.append_ #[31, 31] ty #[u6, .slice (some ⟨wr.heap.size + 1 + 1, 0, none⟩) 2 2]).run Try.prog (((wr.alloc (.cells #[.int .i64 1, .int .i64 0] 82)).alloc (.cells #[.int .i64 1, .int .i64 1] 82)).alloc (.cells #[.int .i64 1, .int .i64 0, .int .i64 1, .int .i64 1] 82)) = .ok v' w' ∧ Evl B w v' (([(1, 1), (2, (h : Int)), (2, (n : Int)), (1, 0)] ++ rnl j) ++ [(1, 0), (1, 1)]) w') := fun ty => HP.out.app ((((Below.refl _ _).alloc (Nat.le_refl _) _).alloc (by simp) _).alloc (by simp; omega) _) [(1, 0), (1, 1)] rfl (by rw [heap_alloc_any, if_pos (by simp [size_alloc])]; rfl) (by have := HLN.out; simp only [List.length_append, List.length_cons, List.length_nil] at this ⊢; omega) ty
            go_wp2_with (first | (go_at_call 33; first | (refine (rif2 false _).mono ?_; rintro e wi ⟨rfl, hw⟩; obtain rfl := hw) | (refine (rif2 true _).mono ?_; rintro e wi ⟨rfl, hw⟩; obtain rfl := hw)) | (at_builtin; refine wpList_app _ rfl (.tmp 55) (.tmp 60) 31 31 rfl _ _ rfl rfl HAP.out ?_; intro av aw ah; have aH : Hid _ := ah; clear ah HAP))
            go_ret2
            refine ⟨av, by rw [HFI.out]; rfl, ?_⟩
            rw [HLG.out]
            exact aH.out
          · have b2 : ¬ (0 : Int) < (m : Int) := by omega
            have HLG : Hid (wlog h n = ([(1, 1), (2, (h : Int)), (2, (n : Int)), (1, 0)] ++ rnl j) ++ [(1, 0), (1, 0)]) := by
              have : wlog h n = ([(1, 1), (2, (h : Int)), (2, (n : Int)), (1, 0)] ++ rnl j) ++ [(1, 0), (1, 0)] := by
                have e1 : z / 16 = j := by have := HM.out; omega
                have e2 : z % 16 = m := by have := HM.out; omega
                rw [HWL.out, e1, e2, decide_eq_false h0]
                simp only [List.append_assoc]
                rfl
              exact this
            have HFI : Hid ((h + n) % 16 = s) := by
              have : (h + n) % 16 = s := by have := HM.out; have := HB.out; omega
              exact this
            clear hm hge
            have HAP : Hid (∀ ty, ∃ v' w', (Builtin.append_ #[31, 31] ty #[u6, .slice (some ⟨wr.heap.size + 1 + 1, 0, none⟩) 2 2]).run Try.prog (((wr.alloc (.cells #[.int .i64 1, .int .i64 0] 82)).alloc (.cells #[.int .i64 1, .int .i64 0] 82)).alloc (.cells #[.int .i64 1, .int .i64 0, .int .i64 1, .int .i64 0] 82)) = .ok v' w' ∧ Evl B w v' (([(1, 1), (2, (h : Int)), (2, (n : Int)), (1, 0)] ++ rnl j) ++ [(1, 0), (1, 0)]) w') := fun ty => HP.out.app ((((Below.refl _ _).alloc (Nat.le_refl _) _).alloc (by simp) _).alloc (by simp; omega) _) [(1, 0), (1, 0)] rfl (by rw [heap_alloc_any, if_pos (by simp [size_alloc])]; rfl) (by have := HLN.out; simp only [List.length_append, List.length_cons, List.length_nil] at this ⊢; omega) ty
            go_wp2_with (first | (go_at_call 33; first | (refine (rif2 false _).mono ?_; rintro e wi ⟨rfl, hw⟩; obtain rfl := hw) | (refine (rif2 true _).mono ?_; rintro e wi ⟨rfl, hw⟩; obtain rfl := hw)) | (at_builtin; refine wpList_app _ rfl (.tmp 55) (.tmp 60) 31 31 rfl _ _ rfl rfl HAP.out ?_; intro av aw ah; have aH : Hid _ := ah; clear ah HAP))
            go_ret2
            refine ⟨av, by rw [HFI.out]; rfl, ?_⟩
            rw [HLG.out]
            exact aH.out
    · have bs : ¬ (n : Int) < (k : Int) := by omega
      obtain ⟨z, hz⟩ : ∃ z, n = k + z := ⟨n - k, by omega⟩
      have HWS : Hid (wrap64 ((h : Int) + (k : Int)) = 16 ∧ IntKind.i64.wrap ((h : Int) + (k : Int)) = 16) := wrapZ (k := 16) (by omega) (by omega)
      have HWZ : Hid (wrap64 ((n : Int) - (k : Int)) = (z : Int) ∧ IntKind.i64.wrap ((n : Int) - (k : Int)) = (z : Int)) := wrapZ (by omega) (by omega)
      have HB : Hid (h < 16 ∧ n ≤ 131072 ∧ h + k = 16 ∧ n = k + z ∧ 0 < h) := ⟨hh, hn, hk, hz, hp⟩
      have HWL : Hid (wlog h n = ([(1, 1), (2, (h : Int)), (2, (k : Int)), (1, 1)] ++ tkl) ++ (rnl (z / 16) ++ [ifl false, ifl (decide (0 < z % 16))])) := by
        have : wlog h n = ([(1, 1), (2, (h : Int)), (2, (k : Int)), (1, 1)] ++ tkl) ++ (rnl (z / 16) ++ [ifl false, ifl (decide (0 < z % 16))]) := by
          unfold wlog
          rw [if_pos hp, if_neg (by omega)]
          have e1 : 16 - h = k := by omega
          have e2 : h + n - 16 = z := by omega
          have e3 : (h + n) % 16 = z % 16 := by omega
          rw [e1, e2, e3]
          simp
          rfl
        exact this
      clear h0 hB hh hn hk hz
      obtain ⟨q1, q2⟩ := HWK.out
      obtain ⟨q3, q4⟩ := HWS.out
      obtain ⟨q5, q6⟩ := HWZ.out
      go_enter Try.func18, Try.ntmps18
      go_upto_region 7 with (first | (go_at_call 33; refine (rif2 true _).mono ?_; rintro e wi ⟨rfl, hw⟩; obtain rfl := hw) | (at_builtin; refine wpList_app _ rfl (.tmp 8) (.tmp 12) 31 31 rfl _ _ rfl rfl HAP.out ?_; intro av aw ah; have aH : Hid _ := ah; clear ah HAP))
      have HAQ : Hid (∀ ty, ∃ v' w', (Builtin.append_ #[31, 31] ty #[av, .slice (some ⟨aw.heap.size + 1 + 1, 0, none⟩) 2 2]).run Try.prog (((aw.alloc (.cells #[.int .i64 2, .int .i64 (h : Int)] 82)).alloc (.cells #[.int .i64 2, .int .i64 (k : Int)] 82)).alloc (.cells #[.int .i64 2, .int .i64 (h : Int), .int .i64 2, .int .i64 (k : Int)] 82)) = .ok v' w' ∧ Evl B w v' (([] ++ [(1, 1)]) ++ [(2, (h : Int)), (2, (k : Int))]) w') := fun ty => aH.out.app ((((Below.refl _ _).alloc (Nat.le_refl _) _).alloc (by simp) _).alloc (by simp; omega) _) [(2, (h : Int)), (2, (k : Int))] rfl (by rw [heap_alloc_any, if_pos (by simp [size_alloc])]; rfl) (by simp only [List.length_append, List.length_cons, List.length_nil]; omega) ty
      go_upto_region 10 with (first | (go_at_call 34; first | (refine (rat2 (h : Int) _).mono ?_; rintro e wi ⟨rfl, hw⟩; obtain rfl := hw) | (refine (rat2 (k : Int) _).mono ?_; rintro e wi ⟨rfl, hw⟩; obtain rfl := hw)) | (at_builtin; refine wpList_app _ rfl (.tmp 22) (.tmp 27) 31 31 rfl _ _ rfl rfl HAQ.out ?_; intro bv bw bh; have bH : Hid _ := bh; clear bh HAQ))
      have HAR : Hid (∀ ty, ∃ v' w', (Builtin.append_ #[31, 31] ty #[bv, .slice (some ⟨bw.heap.size + 1, 0, none⟩) 1 1]).run Try.prog ((bw.alloc (.cells #[.int .i64 1, .int .i64 1] 82)).alloc (.cells #[.int .i64 1, .int .i64 1] 82)) = .ok v' w' ∧ Evl B w v' (([] ++ [(1, 1)] ++ [(2, (h : Int)), (2, (k : Int))]) ++ [(1, 1)]) w') := fun ty => bH.out.app (((Below.refl _ _).alloc (Nat.le_refl _) _).alloc (by simp) _) [(1, 1)] rfl (by rw [heap_alloc_any, if_pos (by simp [size_alloc])]; rfl) (by simp only [List.length_append, List.length_cons, List.length_nil]; omega) ty
      go_upto_region 13 with (first | (go_at_call 33; refine (rif2 true _).mono ?_; rintro e wi ⟨rfl, hw⟩; obtain rfl := hw) | (at_builtin; refine wpList_app _ rfl (.tmp 35) (.tmp 39) 31 31 rfl _ _ rfl rfl HAR.out ?_; intro cv cw ch; have cH : Hid _ := ch; clear ch HAR; have CT0 : Hid _ := taken_any cH.out (by simp)) | (go_at_call 35; refine Calls.mono CT0.out ?_; rintro e dw ⟨dv, rfl, dh⟩; have dH : Hid _ := dh; clear dh CT0))
      clear HWK HWS HWZ q1 q2 q3 q4 q5 q6
      go_wp2_with fail
      go_loopw [1, 6] (fun vn vl w' => ∃ (j m : Nat), z = 16 * j + m ∧ vn = .int .i64 (m : Int) ∧ Evl B w vl (([(1, 1), (2, (h : Int)), (2, (k : Int)), (1, 1)] ++ tkl) ++ rnl j) w') (fun vn _ _ => (intOf vn).toNat)
      case atStart => exact ⟨0, z, by omega, rfl, by rw [show ([(1, 1), (2, (h : Int)), (2, (k : Int)), (1, 1)] ++ tkl) ++ rnl 0 = [] ++ [(1, 1)] ++ [(2, (h : Int)), (2, (k : Int))] ++ [(1, 1)] ++ tkl from by simp [rnl]]; exact dH.out⟩
      case round =>
        obtain ⟨j, m, hm, rfl, hp⟩ := hrel
        have HP : Hid (Evl B w u6 (([(1, 1), (2, (h : Int)), (2, (k : Int)), (1, 1)] ++ tkl) ++ rnl j) wr) := hp
        have HM : Hid (z = 16 * j + m) := hm
        have HLN : Hid ((([(1, 1), (2, (h : Int)), (2, (k : Int)), (1, 1)] ++ tkl) ++ rnl j).length + 10 ≤ 900000) := by
          have : (([(1, 1), (2, (h : Int)), (2, (k : Int)), (1, 1)] ++ tkl) ++ rnl j).length + 10 ≤ 900000 := by
            have := HB.out
            simp only [List.length_append, List.length_cons, List.length_nil, rnl_len, tkl]
            omega
          exact this
        clear hp
        by_cases hge : 16 ≤ m
        · have b1 : (16 : Int) ≤ (m : Int) := by omega
          obtain ⟨m2, hm2⟩ : ∃ m2, m = m2 + 16 := ⟨m - 16, by omega⟩
          have HWM : Hid (wrap64 ((m : Int) - 16) = (m2 : Int) ∧ IntKind.i64.wrap ((m : Int) - 16) = (m2 : Int)) := wrapS16 hm2 (by have := HB.out; have := HM.out; omega)
          have HM2 : Hid (m = m2 + 16) := hm2
          have HAP : Hid (∀ ty, ∃ v' w', (Builtin.append_ #[31, 31] ty #[u6, .slice (some ⟨wr.heap.size + 1, 0, none⟩) 1 1]).run Try.prog ((wr.alloc (.cells #[.int .i64 1, .int .i64 1] 82)).alloc (.cells #[.int .i64 1, .int .i64 1] 82)) = .ok v' w' ∧ Evl B w v' ((([(1, 1), (2, (h : Int)), (2, (k : Int)), (1, 1)] ++ tkl) ++ rnl j) ++ [(1, 1)]) w') := fun ty => HP.out.app (((Below.refl _ _).alloc (Nat.le_refl _) _).alloc (by simp) _) [(1, 1)] rfl (by rw [heap_alloc_any, if_pos (by simp [size_alloc])]; rfl) (by have := HLN.out; simp only [List.length_append, List.length_cons, List.length_nil] at this ⊢; omega) ty
          clear hm hm2
          obtain ⟨q1, q2⟩ := HWM.out
          go_wp2_with (first | (go_at_call 33; refine (rif2 true _).mono ?_; rintro e wi ⟨rfl, hw⟩; obtain rfl := hw) | (at_builtin; refine wpList_app _ rfl (.tmp 47) (.tmp 49) 31 31 rfl _ _ rfl rfl HAP.out ?_; intro av aw ah; have aH : Hid _ := ah; clear ah HAP; have CT : Hid _ := taken_any aH.out (by have := HLN.out; simp only [List.length_append, List.length_cons, List.length_nil] at this ⊢; omega)) | (go_at_call 35; refine Calls.mono CT.out ?_; rintro e w9 ⟨u9, rfl, h9⟩; have H9 : Hid _ := h9; clear h9))
          go_roundw
          case rel =>
            refine ⟨j + 1, m2, by have := HM.out; have := HM2.out; omega, rfl, ?_⟩
            have h9 := H9.out
            rw [rnl]
            simp only [List.append_assoc, List.cons_append, List.nil_append] at h9 ⊢
            exact h9
          case measure => have := HM2.out; simp only [intOf]; omega
        · have b1 : ¬ (16 : Int) ≤ (m : Int) := by omega
          by_cases h0 : 0 < m
          · have b2 : (0 : Int) < (m : Int) := by omega
            have HLG : Hid (wlog h n = (([(1, 1), (2, (h : Int)), (2, (k : Int)), (1, 1)] ++ tkl) ++ rnl j) ++ [(1, 0), (1, 1)]) := by
              have : wlog h n = (([(1, 1), (2, (h : Int)), (2, (k : Int)), (1, 1)] ++ tkl) ++ rnl j) ++ [(1, 0), (1, 1)] := by
                have e1 : z / 16 = j := by have := HM.out; omega
                have e2 : z % 16 = m := by have := HM.out; omega
                rw [HWL.out, e1, e2, decide_eq_true h0]
                simp only [List.append_assoc]
                rfl
              exact this
            have HFI : Hid ((h + n) % 16 = m) := by
              have : (h + n) % 16 = m := by have := HM.out; have := HB.out; omega
              exact this
            clear hm hge
            have HAP : Hid (∀ ty, ∃ v' w', (Builtin.append_ #[31, 31] ty #[u6, .slice (some ⟨wr.heap.size + 1 + 1, 0, none⟩) 2 2]).run Try.prog (((wr.alloc (.cells #[.int .i64 1, .int .i64 0] 82)).alloc (.cells #[.int .i64 1, .int .i64 1] 82)).alloc (.cells #[.int .i64 1, .int .i64 0, .int .i64 1, .int .i64 1] 82)) = .ok v' w' ∧ Evl B w v' ((([(1, 1), (2, (h : Int)), (2, (k : Int)), (1, 1)] ++ tkl) ++ rnl j) ++ [(1, 0), (1, 1)]) w') := fun ty => HP.out.app ((((Below.refl _ _).alloc (Nat.le_refl _) _).alloc (by simp) _).alloc (by simp; omega) _) [(1, 0), (1, 1)] rfl (by rw [heap_alloc_any, if_pos (by simp [size_alloc])]; rfl) (by have := HLN.out; simp only [List.length_append, List.length_cons, List.length_nil] at this ⊢; omega) ty
            go_wp2_with (first | (go_at_call 33; first | (refine (rif2 false _).mono ?_; rintro e wi ⟨rfl, hw⟩; obtain rfl := hw) | (refine (rif2 true _).mono ?_; rintro e wi ⟨rfl, hw⟩; obtain rfl := hw)) | (at_builtin; refine wpList_app _ rfl (.tmp 55) (.tmp 60) 31 31 rfl _ _ rfl rfl HAP.out ?_; intro av aw ah; have aH : Hid _ := ah; clear ah HAP))
            go_ret2
            refine ⟨av, by rw [HFI.out]; rfl, ?_⟩
            rw [HLG.out]
            exact aH.out
          · have b2 : ¬ (0 : Int) < (m : Int) := by omega
            have HLG : Hid (wlog h n = (([(1, 1), (2, (h : Int)), (2, (k : Int)), (1, 1)] ++ tkl) ++ rnl j) ++ [(1, 0), (1, 0)]) := by
              have : wlog h n = (([(1, 1), (2, (h : Int)), (2, (k : Int)), (1, 1)] ++ tkl) ++ rnl j) ++ [(1, 0), (1, 0)] := by
                have e1 : z / 16 = j := by have := HM.out; omega
                have e2 : z % 16 = m := by have := HM.out; omega
                rw [HWL.out, e1, e2, decide_eq_false h0]
                simp only [List.append_assoc]
                rfl
              exact this
            have HFI : Hid ((h + n) % 16 = 0) := by
              have : (h + n) % 16 = 0 := by have := HM.out; have := HB.out; omega
              exact this
            clear hm hge
            have HAP : Hid (∀ ty, ∃ v' w', (Builtin.append_ #[31, 31] ty #[u6, .slice (some ⟨wr.heap.size + 1 + 1, 0, none⟩) 2 2]).run Try.prog (((wr.alloc (.cells #[.int .i64 1, .int .i64 0] 82)).alloc (.cells #[.int .i64 1, .int .i64 0] 82)).alloc (.cells #[.int .i64 1, .int .i64 0, .int .i64 1, .int .i64 0] 82)) = .ok v' w' ∧ Evl B w v' ((([(1, 1), (2, (h : Int)), (2, (k : Int)), (1, 1)] ++ tkl) ++ rnl j) ++ [(1, 0), (1, 0)]) w') := fun ty => HP.out.app ((((Below.refl _ _).alloc (Nat.le_refl _) _).alloc (by simp) _).alloc (by simp; omega) _) [(1, 0), (1, 0)] rfl (by rw [heap_alloc_any, if_pos (by simp [size_alloc])]; rfl) (by have := HLN.out; simp only [List.length_append, List.length_cons, List.length_nil] at this ⊢; omega) ty
            go_wp2_with (first | (go_at_call 33; first | (refine (rif2 false _).mono ?_; rintro e wi ⟨rfl, hw⟩; obtain rfl := hw) | (refine (rif2 true _).mono ?_; rintro e wi ⟨rfl, hw⟩; obtain rfl := hw)) | (at_builtin; refine wpList_app _ rfl (.tmp 55) (.tmp 60) 31 31 rfl _ _ rfl rfl HAP.out ?_; intro av aw ah; have aH : Hid _ := ah; clear ah HAP))
            go_ret2
            refine ⟨av, by rw [HFI.out]; rfl, ?_⟩
            rw [HLG.out]
            exact aH.out
  · have bp : ¬ (0 : Int) < (h : Int) := by omega
    obtain rfl : h = 0 := by omega
    have HB : Hid (n ≤ 131072) := hn
    have HAP : Hid (∀ ty, ∃ v' w', (Builtin.append_ #[31, 31] ty #[.slice none 0 0, .slice (some ⟨w.heap.size + 1, 0, none⟩) 1 1]).run Try.prog ((w.alloc (.cells #[.int .i64 1, .int .i64 0] 82)).alloc (.cells #[.int .i64 1, .int .i64 0] 82)) = .ok v' w' ∧ Evl B w v' ([] ++ [(1, 0)]) w') := fun ty => h0.app (((Below.refl _ _).alloc (Nat.le_refl _) _).alloc (by simp) _) [(1, 0)] rfl (by rw [heap_alloc_any, if_pos (by simp [size_alloc])]; rfl) (by simp only [List.length_append, List.length_cons, List.length_nil]; omega) ty
    have HWL : Hid (wlog 0 n = [(1, 0)] ++ (rnl (n / 16) ++ [ifl false, ifl (decide (0 < n % 16))])) := rfl
    clear h0 hB hh hn hp
    go_enter Try.func18, Try.ntmps18
    go_upto_region 3 with (first | (go_at_call 33; refine (rif2 false _).mono ?_; rintro e wi ⟨rfl, hw⟩; obtain rfl := hw) | (at_builtin; refine wpList_app _ rfl (.tmp 8) (.tmp 12) 31 31 rfl _ _ rfl rfl HAP.out ?_; intro av aw ah; have aH : Hid _ := ah; clear ah HAP))
    go_wp2_with fail
    go_loopw [1, 6] (fun vn vl w' => ∃ (j m : Nat), n = 16 * j + m ∧ vn = .int .i64 (m : Int) ∧ Evl B w vl ([(1, 0)] ++ rnl j) w') (fun vn _ _ => (intOf vn).toNat)
    case atStart => exact ⟨0, n, by omega, rfl, by rw [show [(1, 0)] ++ rnl 0 = [] ++ [(1, 0)] from by simp [rnl]]; exact aH.out⟩
    case round =>
      obtain ⟨j, m, hm, rfl, hp⟩ := hrel
      have HP : Hid (Evl B w u6 ([(1, 0)] ++ rnl j) wr) := hp
      have HM : Hid (n = 16 * j + m) := hm
      have HLN : Hid (([(1, 0)] ++ rnl j).length + 10 ≤ 900000) := by
        have : ([(1, 0)] ++ rnl j).length + 10 ≤ 900000 := by
          have := HB.out
          simp only [List.length_append, List.length_cons, List.length_nil, rnl_len, tkl]
          omega
        exact this
      clear hp
      by_cases hge : 16 ≤ m
      · have b1 : (16 : Int) ≤ (m : Int) := by omega
        obtain ⟨m2, hm2⟩ : ∃ m2, m = m2 + 16 := ⟨m - 16, by omega⟩
        have HWM : Hid (wrap64 ((m : Int) - 16) = (m2 : Int) ∧ IntKind.i64.wrap ((m : Int) - 16) = (m2 : Int)) := wrapS16 hm2 (by have := HB.out; have := HM.out; omega)
        have HM2 : Hid (m = m2 + 16) := hm2
        have HAP : Hid (∀ ty, ∃ v' w', (Builtin.append_ #[31, 31] ty #[u6, .slice (some ⟨wr.heap.size + 1, 0, none⟩) 1 1]).run Try.prog ((wr.alloc (.cells #[.int .i64 1, .int .i64 1] 82)).alloc (.cells #[.int .i64 1, .int .i64 1] 82)) = .ok v' w' ∧ Evl B w v' (([(1, 0)] ++ rnl j) ++ [(1, 1)]) w') := fun ty => HP.out.app (((Below.refl _ _).alloc (Nat.le_refl _) _).alloc (by simp) _) [(1, 1)] rfl (by rw [heap_alloc_any, if_pos (by simp [size_alloc])]; rfl) (by have := HLN.out; simp only [List.length_append, List.length_cons, List.length_nil] at this ⊢; omega) ty
        clear hm hm2
        obtain ⟨q1, q2⟩ := HWM.out
        go_wp2_with (first | (go_at_call 33; refine (rif2 true _).mono ?_; rintro e wi ⟨rfl, hw⟩; obtain rfl := hw) | (at_builtin; refine wpList_app _ rfl (.tmp 47) (.tmp 49) 31 31 rfl _ _ rfl rfl HAP.out ?_; intro av aw ah; have aH : Hid _ := ah; clear ah HAP; have CT : Hid _ := taken_any aH.out (by have := HLN.out; simp only [List.length_append, List.length_cons, List.length_nil] at this ⊢; omega)) | (go_at_call 35; refine Calls.mono CT.out ?_; rintro e w9 ⟨u9, rfl, h9⟩; have H9 : Hid _ := h9; clear h9))
        go_roundw
        case rel =>
          refine ⟨j + 1, m2, by have := HM.out; have := HM2.out; omega, rfl, ?_⟩
          have h9 := H9.out
          rw [rnl]
          simp only [List.append_assoc, List.cons_append, List.nil_append] at h9 ⊢
          exact h9
        case measure => have := HM2.out; simp only [intOf]; omega
      · have b1 : ¬ (16 : Int) ≤ (m : Int) := by omega
        by_cases h0 : 0 < m
        · have b2 : (0 : Int) < (m : Int) := by omega
          have HLG : Hid (wlog 0 n = ([(1, 0)] ++ rnl j) ++ [(1, 0), (1, 1)]) := by
            have : wlog 0 n = ([(1, 0)] ++ rnl j) ++ [(1, 0), (1, 1)] := by
              have e1 : n / 16 = j := by have := HM.out; omega
              have e2 : n % 16 = m := by have := HM.out; omega
              rw [HWL.out, e1, e2, decide_eq_true h0]
              simp only [List.append_assoc]
              rfl
            exact this
          have HFI : Hid ((0 + n) % 16 = m) := by
            have : (0 + n) % 16 = m := by have := HM.out; have := HB.out; omega
            exact this
          clear hm hge
          have HAP : Hid (∀ ty, ∃ v' w', (Builtin.append_ #[31, 31] ty #[u6, .slice (some ⟨wr.heap.size + 1 + 1, 0, none⟩) 2 2]).run Try.prog (((wr.alloc (.cells #[.int .i64 1, .int .i64 0] 82)).alloc (.cells #[.int .i64 1, .int .i64 1] 82)).alloc (.cells #[.int .i64 1, .int .i64 0, .int .i64 1, .int .i64 1] 82)) = .ok v' w' ∧ Evl B w v' (([(1, 0)] ++ rnl j) ++ [(1, 0), (1, 1)]) w') := fun ty => HP.out.app ((((Below.refl _ _).alloc (Nat.le_refl _) _).alloc (by simp) _).alloc (by simp; omega) _) [(1, 0), (1, 1)] rfl (by rw [heap_alloc_any, if_pos (by simp [size_alloc])]; rfl) (by have := HLN.out; simp only [List.length_append, List.length_cons, List.length_nil] at this ⊢; omega) ty
          go_wp2_with (first | (go_at_call 33; first | (refine (rif2 false _).mono ?_; rintro e wi ⟨rfl, hw⟩; obtain rfl := hw) | (refine (rif2 true _).mono ?_; rintro e wi ⟨rfl, hw⟩; obtain rfl := hw)) | (at_builtin; refine wpList_app _ rfl (.tmp 55) (.tmp 60) 31 31 rfl _ _ rfl rfl HAP.out ?_; intro av aw ah; have aH : Hid _ := ah; clear ah HAP))
          go_ret2
          refine ⟨av, by rw [HFI.out]; rfl, ?_⟩
          rw [HLG.out]
          exact aH.out
        · have b2 : ¬ (0 : Int) < (m : Int) := by omega
          have HLG : Hid (wlog 0 n = ([(1, 0)] ++ rnl j) ++ [(1, 0), (1, 0)]) := by
            have : wlog 0 n = ([(1, 0)] ++ rnl j) ++ [(1, 0), (1, 0)] := by
              have e1 : n / 16 = j := by have := HM.out; omega
              have e2 : n % 16 = m := by have := HM.out; omega
              rw [HWL.out, e1, e2, decide_eq_false h0]
              simp only [List.append_assoc]
              rfl
            exact this
          have HFI : Hid ((0 + n) % 16 = 0) := by
            have : (0 + n) % 16 = 0 := by have := HM.out; have := HB.out; omega
            exact this
          clear hm hge
          have HAP : Hid (∀ ty, ∃ v' w', (Builtin.append_ #[31, 31] ty #[u6, .slice (some ⟨wr.heap.size + 1 + 1, 0, none⟩) 2 2]).run Try.prog (((wr.alloc (.cells #[.int .i64 1, .int .i64 0] 82)).alloc (.cells #[.int .i64 1, .int .i64 0] 82)).alloc (.cells #[.int .i64 1, .int .i64 0, .int .i64 1, .int .i64 0] 82)) = .ok v' w' ∧ Evl B w v' (([(1, 0)] ++ rnl j) ++ [(1, 0), (1, 0)]) w') := fun ty => HP.out.app ((((Below.refl _ _).alloc (Nat.le_refl _) _).alloc (by simp) _).alloc (by simp; omega) _) [(1, 0), (1, 0)] rfl (by rw [heap_alloc_any, if_pos (by simp [size_alloc])]; rfl) (by have := HLN.out; simp only [List.length_append, List.length_cons, List.length_nil] at this ⊢; omega) ty
          go_wp2_with (first | (go_at_call 33; first | (refine (rif2 false _).mono ?_; rintro e wi ⟨rfl, hw⟩; obtain rfl := hw) | (refine (rif2 true _).mono ?_; rintro e wi ⟨rfl, hw⟩; obtain rfl := hw)) | (at_builtin; refine wpList_app _ rfl (.tmp 55) (.tmp 60) 31 31 rfl _ _ rfl rfl HAP.out ?_; intro av aw ah; have aH : Hid _ := ah; clear ah HAP))
          go_ret2
          refine ⟨av, by rw [HFI.out]; rfl, ?_⟩
          rw [HLG.out]
          exact aH.out
end Go.Proofs.Ytgfamcadgahiiaa
namespace Go.Proofs.Ytgfamcadgahiiaa
set_option linter.unusedSimpArgs false
set_option linter.unusedVariables false
open Go.ChangeShapes Go.WideShapes Go.ChangeAt Go.RowKit Go.Pin Go.Prm
/-- a list of one's own beside the boxes -/
def LE (T : TypeId) (sz : Nat) (v : Value) (n : Nat) (xs : List Value) (B : Nat) (w : World) (rv : Value) (l : List (Int × Int)) (bx : List (Nat × Obj)) (W : World) : Prop := ∃ lb, Lst T sz v n xs lb ∧ Ev B w rv l (lb ++ bx) W ∧ (∀ p ∈ lb, ∀ q ∈ bx, q.1 ≠ p.1)
theorem Lst.slice' {T : TypeId} {sz : Nat} {v : Value} {n : Nat} {xs : List Value} {lb : List (Nat × Obj)} (h : Lst T sz v n xs lb) : ∃ a c, v = .slice a n c := by
  rcases h.2 with ⟨h1, h2, _⟩ | ⟨g, cap, cur, h1, _⟩
  · exact ⟨none, 0, by rw [h1, h2]⟩
  · exact ⟨_, _, h1⟩
set_option maxRecDepth 100000 in
set_option maxHeartbeats 4000000 in
theorem joined_any {B : Nat} {w : World} {rv : Value} {l : List (Int × Int)} {bx : List (Nat × Obj)} {W : World} (h : Ev B w rv l bx W) {a : Option Addr} {n cap : Nat} {Ds : List (List Int)} (hP : PSrc B w bx a n Ds) (hn : n ≤ 1000) (hl : Ds.flatten.length ≤ 131072) :
    Calls Try.prog 25 #[.slice a n cap] W fun e w' => ∃ v, e = .returned v ∧ LE 5 1 v Ds.flatten.length (Ds.flatten.map (Value.int .u8)) B w rv l bx w' := by
  obtain ⟨F, hF⟩ : ∃ F, Ds.flatten = F := ⟨_, rfl⟩
  obtain ⟨m, hm⟩ : ∃ m, F.length = m := ⟨_, rfl⟩
  have HFl : Hid (Ds.flatten = F ∧ F.length = m) := ⟨hF, hm⟩
  rw [hF] at hl ⊢
  rw [hm] at hl ⊢
  obtain ⟨M, hM⟩ : ∃ M, F.map (Value.int .u8) = M := ⟨_, rfl⟩
  rw [hM]
  have HMl : Hid (F.map (Value.int .u8) = M) := hM
  clear hF hm hM
  have H0 : Hid (Ev B w rv l bx W) := h
  have HP : Hid (PSrc B w bx a n Ds ∧ n ≤ 1000 ∧ Ds.flatten.length ≤ 131072) := ⟨hP, hn, by rw [HFl.out.1, HFl.out.2]; exact hl⟩
  clear h hP hn hl
  go_enter Try.func25, Try.ntmps25
  go_wp2
  go_loopw [3, 4] (fun v vi w' => ∃ (i : Nat) (lb : List (Nat × Obj)), i ≤ n ∧ vi = .int .i64 (i : Int) ∧ Lst 5 1 v (Ds.take i).flatten.length ((Ds.take i).flatten.map (Value.int .u8)) lb ∧ Ev B w rv l (lb ++ bx) w' ∧ (∀ p ∈ lb, ∀ q ∈ bx, q.1 ≠ p.1)) (fun _ vi _ => n - (intOf vi).toNat)
  case atStart => exact ⟨0, [], Nat.zero_le _, rfl, lst_nil _ _, H0.out, (fun p hp => nomatch hp)⟩
  case round =>
    clear H0
    obtain ⟨i, lb, hi, rfl, hL, he, hd⟩ := hrel
    by_cases hlt : i < n
    · have b1 : (i : Int) < (n : Int) := by omega
      obtain ⟨b, o, u, rfl, hcu, hsu⟩ := HP.out.1.2 i hlt
      have c1 := hcu wr he.old (fun q hq => he.at' q (List.mem_append_right _ hq))
      have hts := take_sum Ds i
      have HAP : Hid (∀ ty, ∃ v' w', (Builtin.append_ #[30, 30] ty #[u3, u]).run Try.prog wr = .ok v' w' ∧ ∃ lb', Lst 5 1 v' ((Ds.take i).flatten.length + (Ds.getD i []).length) (((Ds.take i).flatten ++ Ds.getD i []).map (Value.int .u8)) lb' ∧ Ev B w rv l (lb' ++ bx) w' ∧ (∀ p ∈ lb', ∀ q ∈ bx, q.1 ≠ p.1)) := fun ty => he.appB hL hd ty hsu (by have := HP.out.2.2; omega)
      have HI : Hid (i < n ∧ n ≤ 1000 ∧ (Ds.take (i + 1)).flatten = (Ds.take i).flatten ++ Ds.getD i []) := ⟨hlt, HP.out.2.1, by rw [take_snocL Ds i (by rw [HP.out.1.1.1]; exact hlt), List.flatten_append]; simp⟩
      clear hcu hsu he hL hd hts hi
      go_wp2_with (first | (at_builtin; refine wpList_app _ rfl (.tmp 11) (.tmp 15) 30 30 rfl _ _ rfl rfl HAP.out ?_; intro v5 w5 h5; have H5 : Hid _ := h5; clear h5))
      go_roundw
      case rel =>
        obtain ⟨lb', k1, k2, k3⟩ := H5.out
        refine ⟨i + 1, lb', HI.out.1, by rw [wrapS HI.out.1 (by have := HI.out.2.1; unfold maxLen; omega)]; exact congrArg (Value.int .i64) (by omega), ?_, k2, k3⟩
        rw [HI.out.2.2, List.length_append]
        exact k1
      case measure => exact measS HI.out.1 (by have := HI.out.2.1; unfold maxLen; omega)
    · have b1 : ¬ (i : Int) < (n : Int) := by omega
      have et : Ds.take i = Ds := List.take_of_length_le (by rw [HP.out.1.1.1]; omega)
      rw [et] at hL
      rw [HFl.out.1, HFl.out.2, HMl.out] at hL
      have HF : Hid (LE 5 1 u3 m M B w rv l bx wr) := ⟨lb, hL, he, hd⟩
      clear hL he hd hi
      go_wp2
      go_ret
      exact ⟨u3, rfl, HF.out⟩
theorem parts_int : (Try.prog.info? 3).map (fun i => (i.zero, i.size, i.bytes)) = some (some (.int .i64 0), 1, 8) := by kernel_rfl
/-- a number comes to a list of numbers -/
theorem Ev.appI {B : Nat} {w : World} {rv : Value} {l : List (Int × Int)} {bx lb : List (Nat × Obj)} {W : World} {v : Value} {n : Nat} {xs : List Value} (h : Ev B w rv l (lb ++ bx) W) (hL : Lst 3 1 v n xs lb) (hne : ∀ p ∈ lb, ∀ q ∈ bx, q.1 ≠ p.1) (ty : TypeId) {g : Nat} {y : Int} (hg : W.heap[g]? = some (.cells #[.int .i64 y] 3)) (hn : n ≤ 1000) :
    ∃ v' w', (Builtin.append_ #[55, 55] ty #[v, .slice (some ⟨g, 0, none⟩) 1 1]).run Try.prog W = .ok v' w' ∧ ∃ lb', Lst 3 1 v' (n + 1) (xs ++ [.int .i64 y]) lb' ∧ Ev B w rv l (lb' ++ bx) w' ∧ (∀ p ∈ lb', ∀ q ∈ bx, q.1 ≠ p.1) := by
  obtain ⟨i0, hi, hz⟩ := Option.map_eq_some_iff.1 parts_int
  simp only [Prod.mk.injEq] at hz
  obtain ⟨hz0, hz1, hz2⟩ := hz
  refine h.app hL hne 55 ty i0 (.int .i64 0) 8 Try.underlying55 hi hz0 hz1 hz2 rfl (by decide) ⟨g, 0, none⟩ 1 1 [.int .i64 y] rfl (fun j u hj => ?_) (fun u hu => by rw [List.mem_singleton.1 hu]; rfl) (by unfold maxLen; omega) (by omega)
  match j, hj with
  | 0, hj =>
    simp only [List.getElem?_cons_zero, Option.some.injEq] at hj
    rw [add_mid, cell_of_row _ _ _ _ _ _ hg, ← hj]
    rfl
set_option maxRecDepth 100000 in
set_option maxHeartbeats 4000000 in
theorem lens_any {B : Nat} {w : World} {rv : Value} {l : List (Int × Int)} {bx : List (Nat × Obj)} {W : World} (h : Ev B w rv l bx W) {a : Option Addr} {n cap : Nat} {Ds : List (List Int)} (hP : PSrc B w bx a n Ds) (hn : n ≤ 1000) :
    Calls Try.prog 27 #[.slice a n cap] W fun e w' => ∃ v, e = .returned v ∧ LE 3 1 v n (Ds.map fun D => Value.int .i64 (D.length : Int)) B w rv l bx w' := by
  obtain ⟨M, hM⟩ : ∃ M, (Ds.map fun D => Value.int .i64 (D.length : Int)) = M := ⟨_, rfl⟩
  rw [hM]
  have HMl : Hid ((Ds.map fun D => Value.int .i64 (D.length : Int)) = M) := hM
  clear hM
  have H0 : Hid (Ev B w rv l bx W) := h
  have HP : Hid (PSrc B w bx a n Ds ∧ n ≤ 1000) := ⟨hP, hn⟩
  clear h hP hn
  go_enter Try.func27, Try.ntmps27
  go_wp2
  go_loopw [3, 4] (fun v vi w' => ∃ (i : Nat) (lb : List (Nat × Obj)), i ≤ n ∧ vi = .int .i64 (i : Int) ∧ Lst 3 1 v i ((Ds.take i).map fun D => Value.int .i64 (D.length : Int)) lb ∧ Ev B w rv l (lb ++ bx) w' ∧ (∀ p ∈ lb, ∀ q ∈ bx, q.1 ≠ p.1)) (fun _ vi _ => n - (intOf vi).toNat)
  case atStart => exact ⟨0, [], Nat.zero_le _, rfl, lst_nil _ _, H0.out, (fun p hp => nomatch hp)⟩
  case round =>
    clear H0
    obtain ⟨i, lb, hi, rfl, hL, he, hd⟩ := hrel
    by_cases hlt : i < n
    · have b1 : (i : Int) < (n : Int) := by omega
      obtain ⟨b, o, u, rfl, hcu, hsu⟩ := HP.out.1.2 i hlt
      have c1 := hcu wr he.old (fun q hq => he.at' q (List.mem_append_right _ hq))
      obtain ⟨au, cu, rfl, _, _⟩ := id hsu
      obtain ⟨m, hm⟩ : ∃ m, (Ds.getD i []).length = m := ⟨_, rfl⟩
      rw [hm] at c1
      have HAP : Hid (∀ ty, ∃ v' w', (Builtin.append_ #[55, 55] ty #[u3, .slice (some ⟨wr.heap.size, 0, none⟩) 1 1]).run Try.prog (wr.alloc (.cells #[.int .i64 (m : Int)] 3)) = .ok v' w' ∧ ∃ lb', Lst 3 1 v' (i + 1) (((Ds.take i).map fun D => Value.int .i64 (D.length : Int)) ++ [.int .i64 (m : Int)]) lb' ∧ Ev B w rv l (lb' ++ bx) w' ∧ (∀ p ∈ lb', ∀ q ∈ bx, q.1 ≠ p.1)) := fun ty => (he.below ((Below.refl _ _).alloc (Nat.le_refl _) _)).appI hL hd ty (heap_alloc_new wr _) (by have := HP.out.2; omega)
      have HI : Hid (i < n ∧ n ≤ 1000 ∧ ((Ds.take (i + 1)).map fun D => Value.int .i64 (D.length : Int)) = ((Ds.take i).map fun D => Value.int .i64 (D.length : Int)) ++ [.int .i64 (m : Int)]) := ⟨hlt, HP.out.2, by rw [take_snocL Ds i (by rw [HP.out.1.1.1]; exact hlt), List.map_append, ← hm]; rfl⟩
      clear hcu hsu he hL hd hi hm
      go_wp2_with (first | (at_builtin; refine wpList_app _ rfl (.tmp 11) (.tmp 17) 55 55 rfl _ _ rfl rfl HAP.out ?_; intro v5 w5 h5; have H5 : Hid _ := h5; clear h5))
      go_roundw
      case rel =>
        obtain ⟨lb', k1, k2, k3⟩ := H5.out
        refine ⟨i + 1, lb', HI.out.1, by rw [wrapS HI.out.1 (by have := HI.out.2.1; unfold maxLen; omega)]; exact congrArg (Value.int .i64) (by omega), ?_, k2, k3⟩
        rw [HI.out.2.2]
        exact k1
      case measure => exact measS HI.out.1 (by have := HI.out.2.1; unfold maxLen; omega)
    · have b1 : ¬ (i : Int) < (n : Int) := by omega
      have et : Ds.take i = Ds := List.take_of_length_le (by rw [HP.out.1.1.1]; omega)
      have ei : i = n := by omega
      rw [et, ei] at hL
      rw [HMl.out] at hL
      have HF : Hid (LE 3 1 u3 n M B w rv l bx wr) := ⟨lb, hL, he, hd⟩
      clear hL he hd hi ei et
      go_wp2
      go_ret
      exact ⟨u3, rfl, HF.out⟩
end Go.Proofs.Ytgfamcadgahiiaa
namespace Go.Proofs.Ytgfamcadgahiiaa
set_option linter.unusedSimpArgs false
set_option linter.unusedVariables false
open Go.ChangeShapes Go.WideShapes Go.ChangeAt Go.RowKit Go.Pin Go.Prm
/-- roomy lists, each in its box -/
def rbx (K : List (Nat × List Int)) : List (Nat × Obj) := K.map fun p => (p.1, Obj.cells (VI .u8 (room p.2)) 5)
def whl (p : Nat × List Int) : Value := .slice (some ⟨p.1, 0, none⟩) (p.2.length + 70) (p.2.length + 70)
def prt (p : Nat × List Int) : Value := .slice (some ⟨p.1, 0, none⟩) p.2.length (p.2.length + 70)
/-- two lists of slices beside the boxes -/
def TL (B : Nat) (w : World) (rv : Value) (l : List (Int × Int)) (bx : List (Nat × Obj)) (xs ys : List Value) (v u : Value) (W : World) : Prop :=
  ∃ l1 l2, Lst 30 1 v xs.length xs l1 ∧ Lst 30 1 u ys.length ys l2 ∧ Ev B w rv l (l1 ++ (l2 ++ bx)) W ∧ (∀ p ∈ l1, ∀ q ∈ l2 ++ bx, q.1 ≠ p.1) ∧ (∀ p ∈ l2, ∀ q ∈ bx, q.1 ≠ p.1)
section
variable {B : Nat} {w : World} {rv : Value} {l : List (Int × Int)} {bx : List (Nat × Obj)} {xs ys : List Value} {v u : Value} {W : World}
theorem TL.swap (h : TL B w rv l bx xs ys v u W) : TL B w rv l bx ys xs u v W := by
  obtain ⟨l1, l2, h1, h2, h3, h4, h5⟩ := h
  refine ⟨l2, l1, h2, h1, h3.sub (fun p hp => ?_), fun p hp q hq => ?_, fun p hp q hq => h4 p hp q (List.mem_append_right _ hq)⟩
  · simp only [List.mem_append] at hp ⊢
    rcases hp with hp | hp | hp
    · exact .inr (.inl hp)
    · exact .inl hp
    · exact .inr (.inr hp)
  · rcases List.mem_append.1 hq with hq | hq
    · exact fun e => h4 q hq p (List.mem_append_left _ hp) e.symm
    · exact h5 p hp q hq
theorem TL.ev (h : TL B w rv l bx xs ys v u W) : Ev B w rv l bx W := by
  obtain ⟨l1, l2, _, _, h3, _⟩ := h
  exact h3.sub (fun p hp => List.mem_append_right _ (List.mem_append_right _ hp))
theorem TL.below (h : TL B w rv l bx xs ys v u W) {W' : World} (hb : Below W.heap.size W W') : TL B w rv l bx xs ys v u W' := by
  obtain ⟨l1, l2, h1, h2, h3, h4⟩ := h
  exact ⟨l1, l2, h1, h2, h3.below hb, h4⟩
theorem TL.perm (h : TL B w rv l bx xs ys v u W) {b2 : List (Nat × Obj)} (hs : ∀ p ∈ b2, p ∈ bx) : TL B w rv l b2 xs ys v u W := by
  obtain ⟨l1, l2, h1, h2, h3, h4, h5⟩ := h
  refine ⟨l1, l2, h1, h2, h3.sub (fun p hp => ?_), fun p hp q hq => ?_, fun p hp q hq => h5 p hp q (hs q hq)⟩
  · simp only [List.mem_append] at hp ⊢
    rcases hp with hp | hp | hp
    · exact .inl hp
    · exact .inr (.inl hp)
    · exact .inr (.inr (hs p hp))
  · rcases List.mem_append.1 hq with hq | hq
    · exact h4 p hp q (List.mem_append_left _ hq)
    · exact h4 p hp q (List.mem_append_right _ (hs q hq))
/-- a box more -/
theorem TL.box (h : TL B w rv l bx xs ys v u W) {W' : World} (hb : Below W.heap.size W W') {g : Nat} (hg : W.heap.size ≤ g) {x : Obj} (hx : W'.heap[g]? = some x) : TL B w rv l ((g, x) :: bx) xs ys v u W' := by
  obtain ⟨l1, l2, h1, h2, h3, h4, h5⟩ := h
  have hlt : ∀ p ∈ l1 ++ (l2 ++ bx), p.1 < W.heap.size := fun p hp => heap_lt (h3.at' p hp)
  refine ⟨l1, l2, h1, h2, (h3.fresh hb hg hx).sub (fun p hp => ?_), fun p hp q hq => ?_, fun p hp q hq => ?_⟩
  · simp only [List.mem_append, List.mem_cons] at hp ⊢
    rcases hp with hp | hp | hp | hp
    · exact .inr (.inl hp)
    · exact .inr (.inr (.inl hp))
    · exact .inl hp
    · exact .inr (.inr (.inr hp))
  · have := hlt p (List.mem_append_left _ hp)
    simp only [List.mem_append, List.mem_cons] at hq
    rcases hq with hq | rfl | hq
    · exact h4 p hp q (List.mem_append_left _ hq)
    · show g ≠ p.1; omega
    · exact h4 p hp q (List.mem_append_right _ hq)
  · have := hlt p (List.mem_append_right _ (List.mem_append_left _ hp))
    rcases List.mem_cons.1 hq with rfl | hq
    · show g ≠ p.1; omega
    · exact h5 p hp q hq
theorem TL.app (h : TL B w rv l bx xs ys v u W) {a : Option Addr} {m c : Nat} (hn : xs.length ≤ 1000) (ty : TypeId) :
    ∃ v' w2, (Builtin.append_ #[48, 48] ty #[v, .slice (some ⟨W.heap.size, 0, none⟩) 1 1]).run Try.prog (W.alloc (.cells #[.slice a m c] 30)) = .ok v' w2 ∧ TL B w rv l bx (xs ++ [.slice a m c]) ys v' u w2 := by
  obtain ⟨l1, l2, h1, h2, h3, h4, h5⟩ := h
  have h3' := h3.below (w' := W.alloc (.cells #[.slice a m c] 30)) ((Below.refl _ _).alloc (Nat.le_refl _) _)
  obtain ⟨v', w2, hr, lb', hL, he, hd⟩ := h3'.appS h1 h4 ty (heap_alloc_new W _) hn
  exact ⟨v', w2, hr, lb', l2, by rw [List.length_append]; exact hL, h2, he, hd, h5⟩
end
theorem run_preS (w : World) (g n len cap : Nat) (x : Int) (hx : x = (n : Int)) (hn : n ≤ cap) (h0 : 0 < cap) : (Instr.slice 30 (.slice (some ⟨g, 0, none⟩) len cap) none (some (.int .i64 x)) none).run Try.prog w = .ok (.slice (some ⟨g, 0, none⟩) n cap) w := by
  subst hx
  have e1 : ¬ cap = 0 := by omega
  have e2 : (⟨g, 0, none⟩ : Addr).add 0 = ⟨g, 0, none⟩ := add_mid g 0 0
  have h2 : ((n : Nat) : Int) ≤ (cap : Int) := by omega
  simp [Instr.slice, run_underlying Try.underlying30, Instr.sliceBounds, run_sliceBound, size_u8, sliced, e1, e2, h2, hn]
/-- what twins makes of the pieces -/
def TW (B : Nat) (w : World) (rv : Value) (l : List (Int × Int)) (bx : List (Nat × Obj)) (Ds : List (List Int)) (v u : Value) (W : World) : Prop :=
  ∃ K : List (Nat × List Int), K.map Prod.snd = Ds ∧ (K.map Prod.fst).Nodup ∧ (∀ p ∈ K, ∀ q ∈ bx, q.1 ≠ p.1) ∧ TL B w rv l (rbx K ++ bx) (K.map whl) (K.map prt) v u W
set_option maxRecDepth 100000 in
set_option maxHeartbeats 8000000 in
theorem twins_any {B : Nat} {w : World} {rv : Value} {l : List (Int × Int)} {bx : List (Nat × Obj)} {W : World} (h : Ev B w rv l bx W) {a : Option Addr} {n cap : Nat} {Ds : List (List Int)} (hP : PSrc B w bx a n Ds) (hn : n ≤ 400) (hl : ∀ D ∈ Ds, D.length ≤ 131072) :
    Calls Try.prog 23 #[.slice a n cap] W fun e w' => ∃ v u, e = .returned (.tuple #[v, u]) ∧ TW B w rv l bx Ds v u w' := by
  have H0 : Hid (TW B w rv l bx (Ds.take 0) (.slice none 0 0) (.slice none 0 0) W) := ⟨[], rfl, List.nodup_nil, (fun p hp => nomatch hp), [], [], lst_nil _ _, lst_nil _ _, h, (fun p hp => nomatch hp), (fun p hp => nomatch hp)⟩
  have HP : Hid (PSrc B w bx a n Ds ∧ n ≤ 400 ∧ ∀ D ∈ Ds, D.length ≤ 131072) := ⟨hP, hn, hl⟩
  clear h hP hn hl
  go_enter Try.func23, Try.ntmps23
  go_wp2
  go_loopw [4, 5, 6] (fun v u vi w' => ∃ i : Nat, i ≤ n ∧ vi = .int .i64 (i : Int) ∧ TW B w rv l bx (Ds.take i) v u w') (fun _ _ vi _ => n - (intOf vi).toNat)
  case atStart => exact ⟨0, Nat.zero_le _, rfl, H0.out⟩
  case round =>
    clear H0
    obtain ⟨i, hi, rfl, K, hK1, hK2, hK3, ht⟩ := hrel
    by_cases hlt : i < n
    · have b1 : (i : Int) < (n : Int) := by omega
      obtain ⟨b, o, y, rfl, hcu, hsu⟩ := HP.out.1.2 i hlt
      have hev := ht.ev
      have c1 := hcu wr hev.old (fun q hq => hev.at' q (List.mem_append_right _ hq))
      obtain ⟨au, cu, rfl, hle, hrr⟩ := id hsu
      obtain ⟨D, hD⟩ : ∃ D, Ds.getD i [] = D := ⟨_, rfl⟩
      rw [hD] at c1 hsu hle hrr
      obtain ⟨m, hm⟩ : ∃ m, D.length = m := ⟨_, rfl⟩
      have hm1 : m ≤ 131072 := by
        rw [← hm, ← hD, List.getD_eq_getElem?_getD, List.getElem?_eq_getElem (by rw [HP.out.1.1.1]; exact hlt)]
        exact HP.out.2.2 _ (List.getElem_mem _)
      have hrd : RdB wr (.slice au D.length cu) D := ⟨au, cu, rfl, hle, by
        rcases hrr with e | ⟨b', o', e1, e2⟩
        · exact .inl e
        · exact .inr ⟨b', o', e1, e2 wr hev.old (fun q hq => hev.at' q (List.mem_append_right _ hq))⟩⟩
      rw [hm] at hrd c1
      have CR : Hid _ := roomy_any wr D au m cu hrd hm1
      obtain ⟨g, hg⟩ : ∃ g, wr.heap.size = g := ⟨_, rfl⟩
      rw [hg] at CR
      have HT : Hid (TL B w rv l (rbx K ++ bx) (K.map whl) (K.map prt) u4 u5 wr) := ht
      have HKK : Hid (K.map Prod.snd = Ds.take i ∧ (K.map Prod.fst).Nodup ∧ (∀ p ∈ K, ∀ q ∈ bx, q.1 ≠ p.1) ∧ K.length = i ∧ wr.heap.size = g) := ⟨hK1, hK2, hK3, by
        have := congrArg List.length hK1
        rw [List.length_map, List.length_take, HP.out.1.1.1] at this
        omega, hg⟩
      have HM : Hid (D.length = m ∧ Ds.getD i [] = D ∧ i < n ∧ n ≤ 400 ∧ m ≤ 131072) := ⟨hm, hD, hlt, HP.out.2.1, hm1⟩
      have HCU : Hid (∀ Y, Below B w Y → (∀ q ∈ bx, Y.heap[q.1]? = some q.2) → Y.cell? ⟨b, o + i, none⟩ = some (.slice au m cu)) := by
        have : ∀ Y, Below B w Y → (∀ q ∈ bx, Y.heap[q.1]? = some q.2) → Y.cell? ⟨b, o + i, none⟩ = some (.slice au m cu) := fun Y h1 h2 => by
          have := hcu Y h1 h2
          rw [hD, hm] at this
          exact this
        exact this
      have hpre := fun w => run_preS w g m (m + 70) (m + 70) (m : Int) rfl (by omega) (by omega)
      clear hcu hsu hle hrr hD hm hm1 hrd hev ht hK1 hK2 hK3 hi hg
      go_upto_region 7 with (first | (go_at_call 15; refine Calls.mono CR.out ?_; rintro e W2 ⟨rfl, h2⟩; have h3 := HT.out.box (by rw [HKK.out.2.2.2.2]; exact h2.old) (by rw [HKK.out.2.2.2.2]; exact Nat.le_refl _) (h2.row mem0); have H3 : Hid _ := h3; clear h2 h3))
      have HAP : Hid (∀ ty, ∃ v' w', (Builtin.append_ #[48, 48] ty #[u4, .slice (some ⟨W2.heap.size, 0, none⟩) 1 1]).run Try.prog (W2.alloc (.cells #[.slice (some ⟨g, 0, none⟩) (m + 70) (m + 70)] 30)) = .ok v' w' ∧ TL B w rv l ((g, Obj.cells (VI .u8 (room D)) 5) :: (rbx K ++ bx)) (K.map whl ++ [.slice (some ⟨g, 0, none⟩) (m + 70) (m + 70)]) (K.map prt) v' u5 w') := fun ty => TL.app H3.out (by rw [List.length_map, HKK.out.2.2.2.1]; have := HM.out.2.2.1; have := HM.out.2.2.2.1; omega) ty
      go_upto_region 8 with (first | (at_builtin; refine wpList_app _ rfl (.tmp 19) (.tmp 21) 48 48 rfl _ _ rfl rfl HAP.out ?_; intro v5 w5 h5; have H5 : Hid _ := h5; clear h5 HAP))
      have hev5 := TL.ev H5.out
      have c5 := HCU.out w5 hev5.old (fun q hq => hev5.at' q (List.mem_cons_of_mem _ (List.mem_append_right _ hq)))
      have HAQ : Hid (∀ ty, ∃ v' w', (Builtin.append_ #[48, 48] ty #[u5, .slice (some ⟨w5.heap.size, 0, none⟩) 1 1]).run Try.prog (w5.alloc (.cells #[.slice (some ⟨g, 0, none⟩) m (m + 70)] 30)) = .ok v' w' ∧ TL B w rv l ((g, Obj.cells (VI .u8 (room D)) 5) :: (rbx K ++ bx)) (K.map prt ++ [.slice (some ⟨g, 0, none⟩) m (m + 70)]) (K.map whl ++ [.slice (some ⟨g, 0, none⟩) (m + 70) (m + 70)]) v' v5 w') := fun ty => TL.app (TL.swap H5.out) (by rw [List.length_map, HKK.out.2.2.2.1]; have := HM.out.2.2.1; have := HM.out.2.2.2.1; omega) ty
      clear hev5
      go_wp2_with (first | (at_builtin; refine wpList_app _ rfl (.tmp 23) (.tmp 31) 48 48 rfl _ _ rfl rfl HAQ.out ?_; intro v6 w6 h6; have H6 : Hid _ := h6; clear h6 HAQ))
      go_roundw
      case rel =>
        refine ⟨i + 1, HM.out.2.2.1, by rw [wrapS HM.out.2.2.1 (by have := HM.out.2.2.2.1; unfold maxLen; omega)]; exact congrArg (Value.int .i64) (by omega), K ++ [(g, D)], ?_, ?_, ?_, ?_⟩
        · rw [List.map_append, HKK.out.1, take_snocL Ds i (by rw [HP.out.1.1.1]; exact HM.out.2.2.1), HM.out.2.1]
          rfl
        · rw [List.map_append]
          refine List.nodup_append.2 ⟨HKK.out.2.1, by simp, fun x hx y hy => ?_⟩
          simp only [List.mem_map] at hx
          obtain ⟨p, hp, rfl⟩ := hx
          have hy' : y = g := by simpa using hy
          have := heap_lt (HT.out.ev.at' (p.1, Obj.cells (VI .u8 (room p.2)) 5) (List.mem_append_left _ (List.mem_map.2 ⟨p, hp, rfl⟩)))
          have := HKK.out.2.2.2.2
          omega
        · intro p hp q hq
          rcases List.mem_append.1 hp with hp | hp
          · exact HKK.out.2.2.1 p hp q hq
          · rw [List.mem_singleton.1 hp]
            have := heap_lt (HT.out.ev.at' q (List.mem_append_right _ hq))
            have := HKK.out.2.2.2.2
            show q.1 ≠ g
            omega
        · have e1 : (K ++ [(g, D)]).map whl = K.map whl ++ [.slice (some ⟨g, 0, none⟩) (m + 70) (m + 70)] := by rw [List.map_append, ← HM.out.1]; rfl
          have e2 : (K ++ [(g, D)]).map prt = K.map prt ++ [.slice (some ⟨g, 0, none⟩) m (m + 70)] := by rw [List.map_append, ← HM.out.1]; rfl
          rw [e1, e2]
          refine TL.perm (TL.swap H6.out) (fun p hp => ?_)
          simp only [rbx, List.map_append, List.map_cons, List.map_nil, List.mem_append, List.mem_cons, List.not_mem_nil, or_false] at hp ⊢
          rcases hp with (hp | hp) | hp
          · exact .inr (.inl hp)
          · exact .inl hp
          · exact .inr (.inr hp)
      case measure => exact measS HM.out.2.2.1 (by have := HM.out.2.2.2.1; unfold maxLen; omega)
    · have b1 : ¬ (i : Int) < (n : Int) := by omega
      have et : Ds.take i = Ds := List.take_of_length_le (by rw [HP.out.1.1.1]; omega)
      rw [et] at hK1
      have HF : Hid (TW B w rv l bx Ds u4 u5 wr) := ⟨K, hK1, hK2, hK3, ht⟩
      clear hK1 hK2 hK3 ht et hi
      go_wp2
      go_ret2
      exact ⟨u4, u5, rfl, HF.out⟩
end Go.Proofs.Ytgfamcadgahiiaa
