import Derived.Test.YtigapdfefapdgaaTraceTw
import Derived.Test.YtigapdfefapdgaaChecked
namespace Go.Proofs.Ytigapdfefapdgaa
set_option linter.unusedSimpArgs false
open Go.ChangeShapes Go.WideShapes Go.ChangeAt Go.RowKit Go.Pin
set_option maxRecDepth 100000 in
set_option maxHeartbeats 4000000 in
theorem two_walk (v1 : Value) (l1 : List (Int × Int × Bool)) (v2 : Value) (l2 : List (Int × Int × Bool)) (w : World) (h1 : Sl w v1 3 (stC l1) l1.length) (h2 : Sl w v2 3 (stC l2) l2.length) :
    Calls Try.prog 6 #[v1, v2] w fun e w' => e = .returned (.bool true) ∧ Below w.heap.size w w' := by
  obtain ⟨a1, c1, rfl⟩ := sl_len h1
  obtain ⟨a2, c2, rfl⟩ := sl_len h2
  have H1 : Hid (Sl w (.slice a1 l1.length c1) 3 (stC l1) l1.length) := h1
  have H2 : Hid (Sl w (.slice a2 l2.length c2) 3 (stC l2) l2.length) := h2
  clear h1 h2
  have hn1 : Hid (∀ i, ¬ i < l1.length → l1.take (i + 1) = l1.take i) := fun i h => take_done h
  go_enter Try.func6, Try.ntmps6
  go_wp2_with (go_at_call 9; refine (new_any _).mono ?_; rintro e w' ⟨rfl, rfl⟩)
  go_loopw [7] (fun iv wr => ∃ (i : Nat) (vs1 vs2 : Value), i ≤ 2000 ∧ iv = .int .i64 i ∧ Two w.heap.size w wr w.heap.size vs1 (lg (l1.take i)) (w.heap.size + 1) vs2 (lg (l2.take i))) (fun iv _ => 2000 - (intOf iv).toNat)
  case atStart => exact ⟨0, _, _, by omega, rfl, two_new w⟩
  case round =>
    obtain ⟨i, vs1, vs2, hi2, rfl, hT⟩ := hrel
    have HT : Hid (Two w.heap.size w wr w.heap.size vs1 (lg (l1.take i)) (w.heap.size + 1) vs2 (lg (l2.take i))) := hT
    have hB := hT.2.2.2.1
    clear hT
    by_cases hlt : i < 2000
    · by_cases b1 : i < l1.length
      · obtain ⟨ba1, oa1, x1k, x1v, x1b, rfl, e1, d11, d12, d13⟩ := step_at H1.out rfl hB b1
        have HST1 : Hid _ := lg_succ l1 i _ e1
        clear e1
        by_cases b2 : i < l2.length
        · obtain ⟨ba2, oa2, x2k, x2v, x2b, rfl, e2, g21, g22, g23⟩ := step_at H2.out rfl (Below.refl _ w) b2
          have HST2 : Hid _ := lg_succ l2 i _ e2
          have HC2 : Hid (_ ∧ _ ∧ _) := ⟨g21, g22, g23⟩
          clear e2 g21 g22 g23 hB H1 H2 hn1
          by_cases b3 : i = 2
          · have b3' : ((i : Int) == 2) = true := by simp; omega
            clear b3
            have M1 : Hid True := trivial
            go_wp2_with (first
              | (go_at_call 10; have hm := M1; clear hm M1; refine (llog_any w.heap.size w.heap.size vs1 (lg (l1.take i)) x1k x1v x1b _ HT.out.1 (by have := lg_bd l1 hi2; omega)).mono ?_; rintro e w1 ⟨rfl, hL⟩; obtain ⟨vs1', T1⟩ := HT.out.left hL; have hbw := T1.2.2.2.1; rw [← HST1.out] at T1; have HTB : Hid (Below w.heap.size w w1) := hbw; have HT2 : Hid (Two w.heap.size w w1 w.heap.size vs1' (lg (l1.take (i + 1))) (w.heap.size + 1) vs2 (lg (l2.take i))) := T1; clear HT hL T1 hbw; have d21 := (HTB.out.cell (World.block_lt_of_cell? w _ HC2.out.1)).trans HC2.out.1; have d22 := (HTB.out.cell (World.block_lt_of_cell? w _ HC2.out.2.1)).trans HC2.out.2.1; have d23 := (HTB.out.cell (World.block_lt_of_cell? w _ HC2.out.2.2)).trans HC2.out.2.2)
              | (go_at_call 10; refine (llog_any w.heap.size (w.heap.size + 1) vs2 (lg (l2.take i)) x2k x2v x2b _ HT2.out.2.1 (by have := lg_bd l2 hi2; omega)).mono ?_; rintro e w2 ⟨rfl, hL⟩; obtain ⟨vs2', T2⟩ := HT2.out.right hL; rw [← HST2.out] at T2; have HT3 : Hid (Two w.heap.size w w2 w.heap.size _ (lg (l1.take (i + 1))) (w.heap.size + 1) vs2' (lg (l2.take (i + 1)))) := T2; clear HT2 hL T2)
              | (go_at_call 9; refine (new_any _).mono ?_; rintro e w3 ⟨rfl, hw3⟩; have R3 := rec_new w2; rw [← hw3] at R3; have HCO : Hid (∀ _ : Unit, _) := fun _ => rOp_any w2.heap.size w2.heap.size _ _ 77 _ R3 (by decide); have HR3 : Hid (Rec w2.heap.size w3 w2.heap.size (.slice none 0 0) []) := R3; have hsz3 : w3.heap.size = w2.heap.size + 1 := by rw [hw3]; simp
                 have HSZ : Hid (w3.heap.size = w2.heap.size + 1) := hsz3
                 have HT4 : Hid (∀ (W' : World), Below w2.heap.size w3 W' → Two w.heap.size w W' w.heap.size vs1' (lg (l1.take (i + 1))) (w.heap.size + 1) vs2' (lg (l2.take (i + 1)))) := fun W' hb => HT3.out.below ((show Below w2.heap.size w2 w3 by rw [hw3]; exact (Below.refl _ _).alloc (Nat.le_refl _) _).trans hb)
                 clear R3 hw3 hsz3)
              | (go_at_call 21; refine (HCO.out ()).mono ?_; clear HCO; rintro e w4 ⟨rfl, vs3, R4, G4, _⟩; have B4 := G4.below HR3.out.ge (by rw [HSZ.out]; omega); have HT5 := HT4.out _ B4; have HR4 : Hid (RecO w4 _ vs3 [(3, 77)]) := R4.opt; clear R4 G4 B4 HR3 HT4 HSZ)
              | (go_at_call 14; refine (total_any _ vs3 _ _ HR4.out).mono ?_; rintro e w5 ⟨rfl, hw5⟩; subst hw5))
            go_roundw
            case rel => exact ⟨i + 1, vs1', vs2', by omega, by go_num, HT5⟩
            case measure => simp [intOf]; omega
          · have b3' : ((i : Int) == 2) = false := by simp; omega
            have M1 : Hid True := trivial
            go_wp2_with (first
              | (go_at_call 10; have hm := M1; clear hm M1; refine (llog_any w.heap.size w.heap.size vs1 (lg (l1.take i)) x1k x1v x1b _ HT.out.1 (by have := lg_bd l1 hi2; omega)).mono ?_; rintro e w1 ⟨rfl, hL⟩; obtain ⟨vs1', T1⟩ := HT.out.left hL; have hbw := T1.2.2.2.1; rw [← HST1.out] at T1; have HTB : Hid (Below w.heap.size w w1) := hbw; have HT2 : Hid (Two w.heap.size w w1 w.heap.size vs1' (lg (l1.take (i + 1))) (w.heap.size + 1) vs2 (lg (l2.take i))) := T1; clear HT hL T1 hbw; have d21 := (HTB.out.cell (World.block_lt_of_cell? w _ HC2.out.1)).trans HC2.out.1; have d22 := (HTB.out.cell (World.block_lt_of_cell? w _ HC2.out.2.1)).trans HC2.out.2.1; have d23 := (HTB.out.cell (World.block_lt_of_cell? w _ HC2.out.2.2)).trans HC2.out.2.2)
              | (go_at_call 10; refine (llog_any w.heap.size (w.heap.size + 1) vs2 (lg (l2.take i)) x2k x2v x2b _ HT2.out.2.1 (by have := lg_bd l2 hi2; omega)).mono ?_; rintro e w2 ⟨rfl, hL⟩; obtain ⟨vs2', T2⟩ := HT2.out.right hL; rw [← HST2.out] at T2; have HT3 : Hid (Two w.heap.size w w2 w.heap.size _ (lg (l1.take (i + 1))) (w.heap.size + 1) vs2' (lg (l2.take (i + 1)))) := T2; clear HT2 hL T2)
              | (go_at_call 9; refine (new_any _).mono ?_; rintro e w3 ⟨rfl, hw3⟩; have R3 := rec_new w2; rw [← hw3] at R3; have HCO : Hid (∀ _ : Unit, _) := fun _ => rOp_any w2.heap.size w2.heap.size _ _ 77 _ R3 (by decide); have HR3 : Hid (Rec w2.heap.size w3 w2.heap.size (.slice none 0 0) []) := R3; have hsz3 : w3.heap.size = w2.heap.size + 1 := by rw [hw3]; simp
                 have HSZ : Hid (w3.heap.size = w2.heap.size + 1) := hsz3
                 have HT4 : Hid (∀ (W' : World), Below w2.heap.size w3 W' → Two w.heap.size w W' w.heap.size vs1' (lg (l1.take (i + 1))) (w.heap.size + 1) vs2' (lg (l2.take (i + 1)))) := fun W' hb => HT3.out.below ((show Below w2.heap.size w2 w3 by rw [hw3]; exact (Below.refl _ _).alloc (Nat.le_refl _) _).trans hb)
                 clear R3 hw3 hsz3)
              | (go_at_call 21; refine (HCO.out ()).mono ?_; clear HCO; rintro e w4 ⟨rfl, vs3, R4, G4, _⟩; have B4 := G4.below HR3.out.ge (by rw [HSZ.out]; omega); have HT5 := HT4.out _ B4; have HR4 : Hid (RecO w4 _ vs3 [(3, 77)]) := R4.opt; clear R4 G4 B4 HR3 HT4 HSZ)
              | (go_at_call 14; refine (total_any _ vs3 _ _ HR4.out).mono ?_; rintro e w5 ⟨rfl, hw5⟩; subst hw5))
            go_roundw
            case rel => exact ⟨i + 1, vs1', vs2', by omega, by go_num, HT3.out⟩
            case measure => simp [intOf]; omega
        · have HN2 : Hid (¬ i < l2.length) := b2
          clear hB H1 H2 hn1
          by_cases b3 : i = 2
          · have b3' : ((i : Int) == 2) = true := by simp; omega
            clear b3
            have M1 : Hid True := trivial
            go_wp2_with (first
              | (go_at_call 10; have hm := M1; clear hm M1; refine (llog_any w.heap.size w.heap.size vs1 (lg (l1.take i)) x1k x1v x1b _ HT.out.1 (by have := lg_bd l1 hi2; omega)).mono ?_; rintro e w1 ⟨rfl, hL⟩; obtain ⟨vs1', T1⟩ := HT.out.left hL; have hbw := T1.2.2.2.1; rw [← HST1.out] at T1; have HTB : Hid (Below w.heap.size w w1) := hbw; have HT2 : Hid (Two w.heap.size w w1 w.heap.size vs1' (lg (l1.take (i + 1))) (w.heap.size + 1) vs2 (lg (l2.take i))) := T1; clear HT hL T1 hbw; have HT3 : Hid (Two w.heap.size w w1 w.heap.size vs1' (lg (l1.take (i + 1))) (w.heap.size + 1) vs2 (lg (l2.take (i + 1)))) := by rw [take_done HN2.out]; exact HT2.out)
              | (go_at_call 10; refine (llog_any w.heap.size (w.heap.size + 1) vs2 (lg (l2.take i)) x2k x2v x2b _ HT2.out.2.1 (by have := lg_bd l2 hi2; omega)).mono ?_; rintro e w2 ⟨rfl, hL⟩; obtain ⟨vs2', T2⟩ := HT2.out.right hL; rw [← HST2.out] at T2; have HT3 : Hid (Two w.heap.size w w2 w.heap.size _ (lg (l1.take (i + 1))) (w.heap.size + 1) vs2' (lg (l2.take (i + 1)))) := T2; clear HT2 hL T2)
              | (go_at_call 9; refine (new_any _).mono ?_; rintro e w3 ⟨rfl, hw3⟩; have R3 := rec_new w1; rw [← hw3] at R3; have HCO : Hid (∀ _ : Unit, _) := fun _ => rOp_any w1.heap.size w1.heap.size _ _ 77 _ R3 (by decide); have HR3 : Hid (Rec w1.heap.size w3 w1.heap.size (.slice none 0 0) []) := R3; have hsz3 : w3.heap.size = w1.heap.size + 1 := by rw [hw3]; simp
                 have HSZ : Hid (w3.heap.size = w1.heap.size + 1) := hsz3
                 have HT4 : Hid (∀ (W' : World), Below w1.heap.size w3 W' → Two w.heap.size w W' w.heap.size vs1' (lg (l1.take (i + 1))) (w.heap.size + 1) vs2 (lg (l2.take (i + 1)))) := fun W' hb => HT3.out.below ((show Below w1.heap.size w1 w3 by rw [hw3]; exact (Below.refl _ _).alloc (Nat.le_refl _) _).trans hb)
                 clear R3 hw3 hsz3)
              | (go_at_call 21; refine (HCO.out ()).mono ?_; clear HCO; rintro e w4 ⟨rfl, vs3, R4, G4, _⟩; have B4 := G4.below HR3.out.ge (by rw [HSZ.out]; omega); have HT5 := HT4.out _ B4; have HR4 : Hid (RecO w4 _ vs3 [(3, 77)]) := R4.opt; clear R4 G4 B4 HR3 HT4 HSZ)
              | (go_at_call 14; refine (total_any _ vs3 _ _ HR4.out).mono ?_; rintro e w5 ⟨rfl, hw5⟩; subst hw5))
            go_roundw
            case rel => exact ⟨i + 1, vs1', vs2, by omega, by go_num, HT5⟩
            case measure => simp [intOf]; omega
          · have b3' : ((i : Int) == 2) = false := by simp; omega
            have M1 : Hid True := trivial
            go_wp2_with (first
              | (go_at_call 10; have hm := M1; clear hm M1; refine (llog_any w.heap.size w.heap.size vs1 (lg (l1.take i)) x1k x1v x1b _ HT.out.1 (by have := lg_bd l1 hi2; omega)).mono ?_; rintro e w1 ⟨rfl, hL⟩; obtain ⟨vs1', T1⟩ := HT.out.left hL; have hbw := T1.2.2.2.1; rw [← HST1.out] at T1; have HTB : Hid (Below w.heap.size w w1) := hbw; have HT2 : Hid (Two w.heap.size w w1 w.heap.size vs1' (lg (l1.take (i + 1))) (w.heap.size + 1) vs2 (lg (l2.take i))) := T1; clear HT hL T1 hbw; have HT3 : Hid (Two w.heap.size w w1 w.heap.size vs1' (lg (l1.take (i + 1))) (w.heap.size + 1) vs2 (lg (l2.take (i + 1)))) := by rw [take_done HN2.out]; exact HT2.out)
              | (go_at_call 10; refine (llog_any w.heap.size (w.heap.size + 1) vs2 (lg (l2.take i)) x2k x2v x2b _ HT2.out.2.1 (by have := lg_bd l2 hi2; omega)).mono ?_; rintro e w2 ⟨rfl, hL⟩; obtain ⟨vs2', T2⟩ := HT2.out.right hL; rw [← HST2.out] at T2; have HT3 : Hid (Two w.heap.size w w2 w.heap.size _ (lg (l1.take (i + 1))) (w.heap.size + 1) vs2' (lg (l2.take (i + 1)))) := T2; clear HT2 hL T2)
              | (go_at_call 9; refine (new_any _).mono ?_; rintro e w3 ⟨rfl, hw3⟩; have R3 := rec_new w1; rw [← hw3] at R3; have HCO : Hid (∀ _ : Unit, _) := fun _ => rOp_any w1.heap.size w1.heap.size _ _ 77 _ R3 (by decide); have HR3 : Hid (Rec w1.heap.size w3 w1.heap.size (.slice none 0 0) []) := R3; have hsz3 : w3.heap.size = w1.heap.size + 1 := by rw [hw3]; simp
                 have HSZ : Hid (w3.heap.size = w1.heap.size + 1) := hsz3
                 have HT4 : Hid (∀ (W' : World), Below w1.heap.size w3 W' → Two w.heap.size w W' w.heap.size vs1' (lg (l1.take (i + 1))) (w.heap.size + 1) vs2 (lg (l2.take (i + 1)))) := fun W' hb => HT3.out.below ((show Below w1.heap.size w1 w3 by rw [hw3]; exact (Below.refl _ _).alloc (Nat.le_refl _) _).trans hb)
                 clear R3 hw3 hsz3)
              | (go_at_call 21; refine (HCO.out ()).mono ?_; clear HCO; rintro e w4 ⟨rfl, vs3, R4, G4, _⟩; have B4 := G4.below HR3.out.ge (by rw [HSZ.out]; omega); have HT5 := HT4.out _ B4; have HR4 : Hid (RecO w4 _ vs3 [(3, 77)]) := R4.opt; clear R4 G4 B4 HR3 HT4 HSZ)
              | (go_at_call 14; refine (total_any _ vs3 _ _ HR4.out).mono ?_; rintro e w5 ⟨rfl, hw5⟩; subst hw5))
            go_roundw
            case rel => exact ⟨i + 1, vs1', vs2, by omega, by go_num, HT3.out⟩
            case measure => simp [intOf]; omega
      · have HN1 : Hid (¬ i < l1.length) := b1
        by_cases b2 : i < l2.length
        · obtain ⟨ba2, oa2, x2k, x2v, x2b, rfl, e2, d21, d22, d23⟩ := step_at H2.out rfl hB b2
          have HST2 : Hid _ := lg_succ l2 i _ e2
          clear e2 hB H1 H2 hn1
          by_cases b3 : i = 2
          · have b3' : ((i : Int) == 2) = true := by simp; omega
            clear b3
            have HT2 : Hid (Two w.heap.size w wr w.heap.size vs1 (lg (l1.take (i + 1))) (w.heap.size + 1) vs2 (lg (l2.take i))) := by rw [take_done HN1.out]; exact HT.out
            clear HT
            go_wp2_with (first
              | (go_at_call 10; have hm := M1; clear hm M1; refine (llog_any w.heap.size w.heap.size vs1 (lg (l1.take i)) x1k x1v x1b _ HT.out.1 (by have := lg_bd l1 hi2; omega)).mono ?_; rintro e w1 ⟨rfl, hL⟩; obtain ⟨vs1', T1⟩ := HT.out.left hL; have hbw := T1.2.2.2.1; rw [← HST1.out] at T1; have HTB : Hid (Below w.heap.size w w1) := hbw; have HT2 : Hid (Two w.heap.size w w1 w.heap.size vs1' (lg (l1.take (i + 1))) (w.heap.size + 1) vs2 (lg (l2.take i))) := T1; clear HT hL T1 hbw; skip)
              | (go_at_call 10; refine (llog_any w.heap.size (w.heap.size + 1) vs2 (lg (l2.take i)) x2k x2v x2b _ HT2.out.2.1 (by have := lg_bd l2 hi2; omega)).mono ?_; rintro e w2 ⟨rfl, hL⟩; obtain ⟨vs2', T2⟩ := HT2.out.right hL; rw [← HST2.out] at T2; have HT3 : Hid (Two w.heap.size w w2 w.heap.size _ (lg (l1.take (i + 1))) (w.heap.size + 1) vs2' (lg (l2.take (i + 1)))) := T2; clear HT2 hL T2)
              | (go_at_call 9; refine (new_any _).mono ?_; rintro e w3 ⟨rfl, hw3⟩; have R3 := rec_new w2; rw [← hw3] at R3; have HCO : Hid (∀ _ : Unit, _) := fun _ => rOp_any w2.heap.size w2.heap.size _ _ 77 _ R3 (by decide); have HR3 : Hid (Rec w2.heap.size w3 w2.heap.size (.slice none 0 0) []) := R3; have hsz3 : w3.heap.size = w2.heap.size + 1 := by rw [hw3]; simp
                 have HSZ : Hid (w3.heap.size = w2.heap.size + 1) := hsz3
                 have HT4 : Hid (∀ (W' : World), Below w2.heap.size w3 W' → Two w.heap.size w W' w.heap.size vs1 (lg (l1.take (i + 1))) (w.heap.size + 1) vs2' (lg (l2.take (i + 1)))) := fun W' hb => HT3.out.below ((show Below w2.heap.size w2 w3 by rw [hw3]; exact (Below.refl _ _).alloc (Nat.le_refl _) _).trans hb)
                 clear R3 hw3 hsz3)
              | (go_at_call 21; refine (HCO.out ()).mono ?_; clear HCO; rintro e w4 ⟨rfl, vs3, R4, G4, _⟩; have B4 := G4.below HR3.out.ge (by rw [HSZ.out]; omega); have HT5 := HT4.out _ B4; have HR4 : Hid (RecO w4 _ vs3 [(3, 77)]) := R4.opt; clear R4 G4 B4 HR3 HT4 HSZ)
              | (go_at_call 14; refine (total_any _ vs3 _ _ HR4.out).mono ?_; rintro e w5 ⟨rfl, hw5⟩; subst hw5))
            go_roundw
            case rel => exact ⟨i + 1, vs1, vs2', by omega, by go_num, HT5⟩
            case measure => simp [intOf]; omega
          · have b3' : ((i : Int) == 2) = false := by simp; omega
            have HT2 : Hid (Two w.heap.size w wr w.heap.size vs1 (lg (l1.take (i + 1))) (w.heap.size + 1) vs2 (lg (l2.take i))) := by rw [take_done HN1.out]; exact HT.out
            clear HT
            go_wp2_with (first
              | (go_at_call 10; have hm := M1; clear hm M1; refine (llog_any w.heap.size w.heap.size vs1 (lg (l1.take i)) x1k x1v x1b _ HT.out.1 (by have := lg_bd l1 hi2; omega)).mono ?_; rintro e w1 ⟨rfl, hL⟩; obtain ⟨vs1', T1⟩ := HT.out.left hL; have hbw := T1.2.2.2.1; rw [← HST1.out] at T1; have HTB : Hid (Below w.heap.size w w1) := hbw; have HT2 : Hid (Two w.heap.size w w1 w.heap.size vs1' (lg (l1.take (i + 1))) (w.heap.size + 1) vs2 (lg (l2.take i))) := T1; clear HT hL T1 hbw; skip)
              | (go_at_call 10; refine (llog_any w.heap.size (w.heap.size + 1) vs2 (lg (l2.take i)) x2k x2v x2b _ HT2.out.2.1 (by have := lg_bd l2 hi2; omega)).mono ?_; rintro e w2 ⟨rfl, hL⟩; obtain ⟨vs2', T2⟩ := HT2.out.right hL; rw [← HST2.out] at T2; have HT3 : Hid (Two w.heap.size w w2 w.heap.size _ (lg (l1.take (i + 1))) (w.heap.size + 1) vs2' (lg (l2.take (i + 1)))) := T2; clear HT2 hL T2)
              | (go_at_call 9; refine (new_any _).mono ?_; rintro e w3 ⟨rfl, hw3⟩; have R3 := rec_new w2; rw [← hw3] at R3; have HCO : Hid (∀ _ : Unit, _) := fun _ => rOp_any w2.heap.size w2.heap.size _ _ 77 _ R3 (by decide); have HR3 : Hid (Rec w2.heap.size w3 w2.heap.size (.slice none 0 0) []) := R3; have hsz3 : w3.heap.size = w2.heap.size + 1 := by rw [hw3]; simp
                 have HSZ : Hid (w3.heap.size = w2.heap.size + 1) := hsz3
                 have HT4 : Hid (∀ (W' : World), Below w2.heap.size w3 W' → Two w.heap.size w W' w.heap.size vs1 (lg (l1.take (i + 1))) (w.heap.size + 1) vs2' (lg (l2.take (i + 1)))) := fun W' hb => HT3.out.below ((show Below w2.heap.size w2 w3 by rw [hw3]; exact (Below.refl _ _).alloc (Nat.le_refl _) _).trans hb)
                 clear R3 hw3 hsz3)
              | (go_at_call 21; refine (HCO.out ()).mono ?_; clear HCO; rintro e w4 ⟨rfl, vs3, R4, G4, _⟩; have B4 := G4.below HR3.out.ge (by rw [HSZ.out]; omega); have HT5 := HT4.out _ B4; have HR4 : Hid (RecO w4 _ vs3 [(3, 77)]) := R4.opt; clear R4 G4 B4 HR3 HT4 HSZ)
              | (go_at_call 14; refine (total_any _ vs3 _ _ HR4.out).mono ?_; rintro e w5 ⟨rfl, hw5⟩; subst hw5))
            go_roundw
            case rel => exact ⟨i + 1, vs1, vs2', by omega, by go_num, HT3.out⟩
            case measure => simp [intOf]; omega
        · have t1 : l1.take i = l1.take 2000 := take_2000 (.inr ⟨b1, hi2⟩)
          have t2 : l2.take i = l2.take 2000 := take_2000 (.inr ⟨b2, hi2⟩)
          rw [t1, t2] at HT
          clear t1 t2 HN1
          have b1' : ¬ (i : Int) < (l1.length : Int) := by omega
          have b2' : ¬ (i : Int) < (l2.length : Int) := by omega
          obtain ⟨A, hA⟩ : ∃ A, lg (l1.take 2000) = A := ⟨_, rfl⟩
          obtain ⟨B, hB'⟩ : ∃ B, lg (l2.take 2000) = B := ⟨_, rfl⟩
          have lA : A.length ≤ 2000 := by rw [← hA]; exact lg_bd l1 (Nat.le_refl _)
          have lB : B.length ≤ 2000 := by rw [← hB']; exact lg_bd l2 (Nat.le_refl _)
          have HA : Hid _ := hA
          have HB : Hid _ := hB'
          rw [hA, hB'] at HT
          have HBW : Hid (Below w.heap.size w wr) := hB
          have HE1 : Hid (∀ _ : Unit, _) := fun _ => tEvents_any _ vs1 A (by omega) wr HT.out.1.opt
          clear hA hB' hB
          go_wp2_with (first
              | (go_at_call 15; refine (HE1.out ()).mono ?_; clear HE1; rintro e w1 ⟨u1, rfl, hu1, B1⟩; have HL1 : Hid (∀ _ : Unit, _) := fun _ => logs_any _ l1 w1 (sl_below (HBW.out.trans (B1.mono HBW.out.size)) H1.out); have HU1 : Hid (Sl w1 u1 2 (evC A) A.length) := sl_of_owns hu1; have HB1 : Hid (Below wr.heap.size wr w1) := B1; clear hu1 B1)
              | (go_at_call 18; refine (HL1.out ()).mono ?_; clear HL1; rintro e w2 ⟨q1, rfl, hq1, B2⟩; rw [HA.out] at hq1; have HV1 : Hid (∀ _ : Unit, _) := fun _ => events_any u1 q1 A A w2 (sl_below B2 HU1.out) (sl_of_owns hq1) (by omega); have HB2 : Hid (Below wr.heap.size wr w2) := HB1.out.trans (B2.mono HB1.out.size); clear hq1 B2)
              | (go_at_call 19; refine (HV1.out ()).mono ?_; clear HV1; rintro e w3 ⟨rfl, m, hw3⟩; rw [beq_self_eq_true]; have B3 : Below wr.heap.size wr w3 := by rw [hw3]; exact below_drewN' HB2.out m
                 have HE2 : Hid (∀ _ : Unit, _) := fun _ => tEvents_any _ vs2 B (by omega) w3 ((HT.out.2.1.below B3).opt)
                 have HB3 : Hid (Below wr.heap.size wr w3) := B3
                 clear B3 hw3)
              | (go_at_call 15; refine (HE2.out ()).mono ?_; clear HE2; rintro e w4 ⟨u2, rfl, hu2, B4⟩; have B40 := HB3.out.trans (B4.mono HB3.out.size); have HL2 : Hid (∀ _ : Unit, _) := fun _ => logs_any _ l2 w4 (sl_below (HBW.out.trans (B40.mono HBW.out.size)) H2.out); have HU2 : Hid (Sl w4 u2 2 (evC B) B.length) := sl_of_owns hu2; have HB4 : Hid (Below wr.heap.size wr w4) := B40; clear hu2 B4 B40)
              | (go_at_call 18; refine (HL2.out ()).mono ?_; clear HL2; rintro e w5 ⟨q2, rfl, hq2, B5⟩; rw [HB.out] at hq2; have HV2 : Hid (∀ _ : Unit, _) := fun _ => events_any u2 q2 B B w5 (sl_below B5 HU2.out) (sl_of_owns hq2) (by omega); have HB5 : Hid (Below wr.heap.size wr w5) := HB4.out.trans (B5.mono HB4.out.size); clear hq2 B5)
              | (go_at_call 19; refine (HV2.out ()).mono ?_; clear HV2; rintro e w6 ⟨rfl, m6, hw6⟩; rw [beq_self_eq_true]; have HB6 : Hid (Below wr.heap.size wr w6) := by rw [hw6]; exact below_drewN' HB5.out m6
                 clear hw6)
              | (go_at_call 13; refine (known_any _).mono ?_; rintro e w7 ⟨rfl, B7⟩))
          go_ret
          have B8 := HB6.out.trans (B7.mono HB6.out.size)
          exact ⟨rfl, HBW.out.trans (B8.mono HBW.out.size)⟩
    · obtain rfl : i = 2000 := by omega
      have b3 : ((2000 : Nat) : Int) = 2000 := rfl
      by_cases b1 : 2000 < l1.length
      · obtain ⟨A, hA⟩ : ∃ A, lg (l1.take 2000) = A := ⟨_, rfl⟩
        obtain ⟨B, hB'⟩ : ∃ B, lg (l2.take 2000) = B := ⟨_, rfl⟩
        have lA : A.length ≤ 2000 := by rw [← hA]; exact lg_bd l1 (Nat.le_refl _)
        have lB : B.length ≤ 2000 := by rw [← hB']; exact lg_bd l2 (Nat.le_refl _)
        have HA : Hid _ := hA
        have HB : Hid _ := hB'
        rw [hA, hB'] at HT
        have HBW : Hid (Below w.heap.size w wr) := hB
        have HE1 : Hid (∀ _ : Unit, _) := fun _ => tEvents_any _ vs1 A (by omega) wr HT.out.1.opt
        clear hA hB' hB
        go_wp2_with (first
          | (go_at_call 15; refine (HE1.out ()).mono ?_; clear HE1; rintro e w1 ⟨u1, rfl, hu1, B1⟩; have HL1 : Hid (∀ _ : Unit, _) := fun _ => logs_any _ l1 w1 (sl_below (HBW.out.trans (B1.mono HBW.out.size)) H1.out); have HU1 : Hid (Sl w1 u1 2 (evC A) A.length) := sl_of_owns hu1; have HB1 : Hid (Below wr.heap.size wr w1) := B1; clear hu1 B1)
          | (go_at_call 18; refine (HL1.out ()).mono ?_; clear HL1; rintro e w2 ⟨q1, rfl, hq1, B2⟩; rw [HA.out] at hq1; have HV1 : Hid (∀ _ : Unit, _) := fun _ => events_any u1 q1 A A w2 (sl_below B2 HU1.out) (sl_of_owns hq1) (by omega); have HB2 : Hid (Below wr.heap.size wr w2) := HB1.out.trans (B2.mono HB1.out.size); clear hq1 B2)
          | (go_at_call 19; refine (HV1.out ()).mono ?_; clear HV1; rintro e w3 ⟨rfl, m, hw3⟩; rw [beq_self_eq_true]; have B3 : Below wr.heap.size wr w3 := by rw [hw3]; exact below_drewN' HB2.out m
             have HE2 : Hid (∀ _ : Unit, _) := fun _ => tEvents_any _ vs2 B (by omega) w3 ((HT.out.2.1.below B3).opt)
             have HB3 : Hid (Below wr.heap.size wr w3) := B3
             clear B3 hw3)
          | (go_at_call 15; refine (HE2.out ()).mono ?_; clear HE2; rintro e w4 ⟨u2, rfl, hu2, B4⟩; have B40 := HB3.out.trans (B4.mono HB3.out.size); have HL2 : Hid (∀ _ : Unit, _) := fun _ => logs_any _ l2 w4 (sl_below (HBW.out.trans (B40.mono HBW.out.size)) H2.out); have HU2 : Hid (Sl w4 u2 2 (evC B) B.length) := sl_of_owns hu2; have HB4 : Hid (Below wr.heap.size wr w4) := B40; clear hu2 B4 B40)
          | (go_at_call 18; refine (HL2.out ()).mono ?_; clear HL2; rintro e w5 ⟨q2, rfl, hq2, B5⟩; rw [HB.out] at hq2; have HV2 : Hid (∀ _ : Unit, _) := fun _ => events_any u2 q2 B B w5 (sl_below B5 HU2.out) (sl_of_owns hq2) (by omega); have HB5 : Hid (Below wr.heap.size wr w5) := HB4.out.trans (B5.mono HB4.out.size); clear hq2 B5)
          | (go_at_call 19; refine (HV2.out ()).mono ?_; clear HV2; rintro e w6 ⟨rfl, m6, hw6⟩; rw [beq_self_eq_true]; have HB6 : Hid (Below wr.heap.size wr w6) := by rw [hw6]; exact below_drewN' HB5.out m6
             clear hw6)
          | (go_at_call 13; refine (known_any _).mono ?_; rintro e w7 ⟨rfl, B7⟩))
        go_ret
        have B8 := HB6.out.trans (B7.mono HB6.out.size)
        exact ⟨rfl, HBW.out.trans (B8.mono HBW.out.size)⟩
      · by_cases b2 : 2000 < l2.length
        · obtain ⟨A, hA⟩ : ∃ A, lg (l1.take 2000) = A := ⟨_, rfl⟩
          obtain ⟨B, hB'⟩ : ∃ B, lg (l2.take 2000) = B := ⟨_, rfl⟩
          have lA : A.length ≤ 2000 := by rw [← hA]; exact lg_bd l1 (Nat.le_refl _)
          have lB : B.length ≤ 2000 := by rw [← hB']; exact lg_bd l2 (Nat.le_refl _)
          have HA : Hid _ := hA
          have HB : Hid _ := hB'
          rw [hA, hB'] at HT
          have HBW : Hid (Below w.heap.size w wr) := hB
          have HE1 : Hid (∀ _ : Unit, _) := fun _ => tEvents_any _ vs1 A (by omega) wr HT.out.1.opt
          clear hA hB' hB
          go_wp2_with (first
            | (go_at_call 15; refine (HE1.out ()).mono ?_; clear HE1; rintro e w1 ⟨u1, rfl, hu1, B1⟩; have HL1 : Hid (∀ _ : Unit, _) := fun _ => logs_any _ l1 w1 (sl_below (HBW.out.trans (B1.mono HBW.out.size)) H1.out); have HU1 : Hid (Sl w1 u1 2 (evC A) A.length) := sl_of_owns hu1; have HB1 : Hid (Below wr.heap.size wr w1) := B1; clear hu1 B1)
            | (go_at_call 18; refine (HL1.out ()).mono ?_; clear HL1; rintro e w2 ⟨q1, rfl, hq1, B2⟩; rw [HA.out] at hq1; have HV1 : Hid (∀ _ : Unit, _) := fun _ => events_any u1 q1 A A w2 (sl_below B2 HU1.out) (sl_of_owns hq1) (by omega); have HB2 : Hid (Below wr.heap.size wr w2) := HB1.out.trans (B2.mono HB1.out.size); clear hq1 B2)
            | (go_at_call 19; refine (HV1.out ()).mono ?_; clear HV1; rintro e w3 ⟨rfl, m, hw3⟩; rw [beq_self_eq_true]; have B3 : Below wr.heap.size wr w3 := by rw [hw3]; exact below_drewN' HB2.out m
               have HE2 : Hid (∀ _ : Unit, _) := fun _ => tEvents_any _ vs2 B (by omega) w3 ((HT.out.2.1.below B3).opt)
               have HB3 : Hid (Below wr.heap.size wr w3) := B3
               clear B3 hw3)
            | (go_at_call 15; refine (HE2.out ()).mono ?_; clear HE2; rintro e w4 ⟨u2, rfl, hu2, B4⟩; have B40 := HB3.out.trans (B4.mono HB3.out.size); have HL2 : Hid (∀ _ : Unit, _) := fun _ => logs_any _ l2 w4 (sl_below (HBW.out.trans (B40.mono HBW.out.size)) H2.out); have HU2 : Hid (Sl w4 u2 2 (evC B) B.length) := sl_of_owns hu2; have HB4 : Hid (Below wr.heap.size wr w4) := B40; clear hu2 B4 B40)
            | (go_at_call 18; refine (HL2.out ()).mono ?_; clear HL2; rintro e w5 ⟨q2, rfl, hq2, B5⟩; rw [HB.out] at hq2; have HV2 : Hid (∀ _ : Unit, _) := fun _ => events_any u2 q2 B B w5 (sl_below B5 HU2.out) (sl_of_owns hq2) (by omega); have HB5 : Hid (Below wr.heap.size wr w5) := HB4.out.trans (B5.mono HB4.out.size); clear hq2 B5)
            | (go_at_call 19; refine (HV2.out ()).mono ?_; clear HV2; rintro e w6 ⟨rfl, m6, hw6⟩; rw [beq_self_eq_true]; have HB6 : Hid (Below wr.heap.size wr w6) := by rw [hw6]; exact below_drewN' HB5.out m6
               clear hw6)
            | (go_at_call 13; refine (known_any _).mono ?_; rintro e w7 ⟨rfl, B7⟩))
          go_ret
          have B8 := HB6.out.trans (B7.mono HB6.out.size)
          exact ⟨rfl, HBW.out.trans (B8.mono HBW.out.size)⟩
        · obtain ⟨A, hA⟩ : ∃ A, lg (l1.take 2000) = A := ⟨_, rfl⟩
          obtain ⟨B, hB'⟩ : ∃ B, lg (l2.take 2000) = B := ⟨_, rfl⟩
          have lA : A.length ≤ 2000 := by rw [← hA]; exact lg_bd l1 (Nat.le_refl _)
          have lB : B.length ≤ 2000 := by rw [← hB']; exact lg_bd l2 (Nat.le_refl _)
          have HA : Hid _ := hA
          have HB : Hid _ := hB'
          rw [hA, hB'] at HT
          have HBW : Hid (Below w.heap.size w wr) := hB
          have HE1 : Hid (∀ _ : Unit, _) := fun _ => tEvents_any _ vs1 A (by omega) wr HT.out.1.opt
          clear hA hB' hB
          go_wp2_with (first
            | (go_at_call 15; refine (HE1.out ()).mono ?_; clear HE1; rintro e w1 ⟨u1, rfl, hu1, B1⟩; have HL1 : Hid (∀ _ : Unit, _) := fun _ => logs_any _ l1 w1 (sl_below (HBW.out.trans (B1.mono HBW.out.size)) H1.out); have HU1 : Hid (Sl w1 u1 2 (evC A) A.length) := sl_of_owns hu1; have HB1 : Hid (Below wr.heap.size wr w1) := B1; clear hu1 B1)
            | (go_at_call 18; refine (HL1.out ()).mono ?_; clear HL1; rintro e w2 ⟨q1, rfl, hq1, B2⟩; rw [HA.out] at hq1; have HV1 : Hid (∀ _ : Unit, _) := fun _ => events_any u1 q1 A A w2 (sl_below B2 HU1.out) (sl_of_owns hq1) (by omega); have HB2 : Hid (Below wr.heap.size wr w2) := HB1.out.trans (B2.mono HB1.out.size); clear hq1 B2)
            | (go_at_call 19; refine (HV1.out ()).mono ?_; clear HV1; rintro e w3 ⟨rfl, m, hw3⟩; rw [beq_self_eq_true]; have B3 : Below wr.heap.size wr w3 := by rw [hw3]; exact below_drewN' HB2.out m
               have HE2 : Hid (∀ _ : Unit, _) := fun _ => tEvents_any _ vs2 B (by omega) w3 ((HT.out.2.1.below B3).opt)
               have HB3 : Hid (Below wr.heap.size wr w3) := B3
               clear B3 hw3)
            | (go_at_call 15; refine (HE2.out ()).mono ?_; clear HE2; rintro e w4 ⟨u2, rfl, hu2, B4⟩; have B40 := HB3.out.trans (B4.mono HB3.out.size); have HL2 : Hid (∀ _ : Unit, _) := fun _ => logs_any _ l2 w4 (sl_below (HBW.out.trans (B40.mono HBW.out.size)) H2.out); have HU2 : Hid (Sl w4 u2 2 (evC B) B.length) := sl_of_owns hu2; have HB4 : Hid (Below wr.heap.size wr w4) := B40; clear hu2 B4 B40)
            | (go_at_call 18; refine (HL2.out ()).mono ?_; clear HL2; rintro e w5 ⟨q2, rfl, hq2, B5⟩; rw [HB.out] at hq2; have HV2 : Hid (∀ _ : Unit, _) := fun _ => events_any u2 q2 B B w5 (sl_below B5 HU2.out) (sl_of_owns hq2) (by omega); have HB5 : Hid (Below wr.heap.size wr w5) := HB4.out.trans (B5.mono HB4.out.size); clear hq2 B5)
            | (go_at_call 19; refine (HV2.out ()).mono ?_; clear HV2; rintro e w6 ⟨rfl, m6, hw6⟩; rw [beq_self_eq_true]; have HB6 : Hid (Below wr.heap.size wr w6) := by rw [hw6]; exact below_drewN' HB5.out m6
               clear hw6)
            | (go_at_call 13; refine (known_any _).mono ?_; rintro e w7 ⟨rfl, B7⟩))
          go_ret
          have B8 := HB6.out.trans (B7.mono HB6.out.size)
          exact ⟨rfl, HBW.out.trans (B8.mono HBW.out.size)⟩

set_option maxRecDepth 100000 in
theorem two_lifted (os : Os) (started : os.Started) (H : Type) (enc : TypeId × Value → H) :
    ReturnsInHanded {} Try.checked os 6 .any (Rows.traceTwoSpec.pre6 enc Try.prog Try.f6 Rows.traceTwoRow.domain false) (Rows.traceTwoSpec.post enc Try.prog Try.f6 false true false false) := by
  refine returnsInHanded_of_change_sized (C := Try.checked) own started (by kernel_rfl) Try.func6
    (ChangeSpec.witness6 (enc := enc) (C := Try.checked) false ⟨#[], #[.slice none 0 0, .slice none 0 0], []⟩ 8 (by kernel_rfl) (by kernel_rfl) (by kernel_rfl) (by kernel_rfl)) ?_
  intro W base args ds gs before hval0 hW hcnd hsz0 _
  clear hsz0
  have hval : ∀ (j : Nat) t v, Try.f6.params[j]? = some t → args[j]? = some v → Value.okWide Try.prog W .any base t v := hval0
  have hW' := hW
  obtain ⟨p, q, hA0, hV, rfl, hfz, hnd⟩ := hW
  have hA : DataW.TrodAll enc Try.prog W 0 (fun _ => true) true Try.f6.params.toList args.toList ds p := hA0
  rw [Try.params6] at hA hval
  have hAll := fun W' (hb : Below W.heap.size W W') => trodAll_below laidOut hb _ _ _ _ (by kernel_rfl) hA
  obtain ⟨v0, vs0, d0, ds0, p0, q0, hargs, rfl, rfl, h0, r0⟩ := trodAll_cons hA
  obtain ⟨v1, vs1, d1, ds1, p1, q1, rfl, rfl, rfl, h1, r1⟩ := trodAll_cons r0
  obtain ⟨rfl, rfl, rfl⟩ := trodAll_nil r1
  obtain rfl : args = #[v0, v1] := by cases args; simp_all
  obtain ⟨rfl, rfl⟩ := trodVars_none hV
  obtain ⟨a0, len0, cap0, rfl⟩ := okWide_slice Try.underlying22 (hval 0 22 v0 rfl rfl)
  obtain ⟨z0, rfl, w0⟩ := open_script h0
  obtain ⟨a1, len1, cap1, rfl⟩ := okWide_slice Try.underlying22 (hval 1 22 v1 rfl rfl)
  obtain ⟨z1, rfl, w1⟩ := open_script h1
  clear hA0 hval0
  refine (two_walk _ z0 _ z1 W w0 w1).mono fun e W' ⟨he, bel⟩ => ?_
  subst he
  exact ⟨_, rfl, _, _, _, [], _, [], hW', trodAll_mk1 (shut_bool Try.underlying4 _), hAll W' bel, rfl, bel.frame _, fun h => by cases h⟩

theorem two_proved : Rows.TraceTwoSaid :=
  OpenClaim.holds_of_wide 6 Try.f6 rfl rfl rfl rfl rfl rfl rfl ⟨rfl, rfl, rfl, rfl, rfl⟩ rfl rfl rfl rfl rfl (by kernel_rfl) Try.func6 (by kernel_rfl)
    (of_decide_eq_true (by kernel_rfl)) (by unfold Func.isWrapper; first | (rw [if_pos (by decide +kernel)]; kernel_rfl) | (rw [if_neg (by decide +kernel)]; exact ⟨rfl, rfl⟩))
    (fun os started H enc _ => two_lifted os started H enc)
end Go.Proofs.Ytigapdfefapdgaa
