import Derived.Test.YtpfidohkohldaaaGreatDoorMqag
namespace Go.Proofs.YtpfidohkohldaaaGreatDoor
set_option linter.unusedSimpArgs false
set_option linter.unusedVariables false
set_option maxRecDepth 100000
open Go.ChangeShapes Go.WideShapes Go.ChangeAt Go.RowKit Go.Pin Go.Pat Go.Deep
/-- a token's rule, as cells -/
def rlC (t : Int) : List Value := [.int .i64 (lf t 0), .int .i64 (lf t 1), .bool (onc t)] ++ (wnt t).map Value.bool
theorem wnt_len (t : Int) : (wnt t).length = 9 := by unfold wnt; (repeat' split) <;> rfl
theorem rlC_len (t : Int) : (rlC t).length = 12 := by simp [rlC, wnt_len]
theorem rules_flat : (c_rules.drop 12) = (rlC 1 ++ (rlC 2 ++ (rlC 3 ++ (rlC 4 ++ (rlC 5 ++ (rlC 6 ++ (rlC 7 ++ []))))))) := by kernel_rfl
theorem rules_at {w : World} (h : w.rangeAt 4 0 c_rules) (k : Nat) (h1 : 1 ≤ k) (h7 : k ≤ 7) : w.rangeAt 4 (k * 12) (rlC k) := by
  have h0 : w.rangeAt 4 0 (c_rules.take 12 ++ c_rules.drop 12) := by rw [List.take_append_drop]; exact h
  rw [rules_flat] at h0
  have l12 : (c_rules.take 12).length = 12 := by kernel_rfl
  rcases (by omega : k = 1 ∨ k = 2 ∨ k = 3 ∨ k = 4 ∨ k = 5 ∨ k = 6 ∨ k = 7) with rfl | rfl | rfl | rfl | rfl | rfl | rfl
  · exact range_mid h0 _ (by rw [l12])
  · rw [← List.append_assoc] at h0; exact range_mid h0 _ (by simp only [List.length_append, l12, rlC_len])
  · rw [← List.append_assoc, ← List.append_assoc] at h0; exact range_mid h0 _ (by simp only [List.length_append, l12, rlC_len])
  · rw [← List.append_assoc, ← List.append_assoc, ← List.append_assoc] at h0; exact range_mid h0 _ (by simp only [List.length_append, l12, rlC_len])
  · rw [← List.append_assoc, ← List.append_assoc, ← List.append_assoc, ← List.append_assoc] at h0; exact range_mid h0 _ (by simp only [List.length_append, l12, rlC_len])
  · rw [← List.append_assoc, ← List.append_assoc, ← List.append_assoc, ← List.append_assoc, ← List.append_assoc] at h0; exact range_mid h0 _ (by simp only [List.length_append, l12, rlC_len])
  · rw [← List.append_assoc, ← List.append_assoc, ← List.append_assoc, ← List.append_assoc, ← List.append_assoc, ← List.append_assoc] at h0; exact range_mid h0 _ (by simp only [List.length_append, l12, rlC_len])
theorem lf_lt {t : Int} (h : T7 t) {s : Nat} (hs : s < 2) : lf t s < 9 := by unfold lf; unfold T7 at h; (repeat' split) <;> omega
set_option maxHeartbeats 4000000 in
theorem offended_any {ea : Int → Addr} (x : List Bool) (hx : x.length = 9) (s : Nat) (hs : s < 2) (k : Nat) (h1 : 1 ≤ k) (h7 : k ≤ 7) (w : World) (hE : Errs ea w) :
    Calls Tryz.prog 63 #[rv x, .int .i64 s, .int .i64 k] w fun e w' => e = .returned (EV ea (ofd x s k)) ∧ Below w.heap.size w w' := by
  have hr := rules_at hE.2.rules k h1 h7
  obtain ⟨n, hn⟩ : ∃ n, w.heap.size = n := ⟨_, rfl⟩
  obtain ⟨X, hX⟩ : ∃ X, bc x = X := ⟨_, rfl⟩
  have HX : Hid (bc x = X) := hX
  have e : rv x = .agg X := by rw [← hX]; rfl
  rw [e]
  obtain ⟨W, hW⟩ : ∃ W, w.alloc (.cells X 80) = W := ⟨_, rfl⟩
  have HR : Hid (W.rangeAt 4 (k * 12) (rlC k)) := by
    show W.rangeAt 4 (k * 12) (rlC k)
    rw [← hW]
    exact World.rangeAt_alloc hr _
  have b1 : (1 : Int) ≤ k := by omega
  have b7 : (k : Int) < 8 := by omega
  have bs : (s : Int) < 2 := by omega
  have hlf := lf_lt (t := k) ⟨b1, by omega⟩ hs
  obtain ⟨l, hl⟩ : ∃ l, lf k s = l := ⟨_, rfl⟩
  obtain ⟨oc, hoc⟩ : ∃ b, onc k = b := ⟨_, rfl⟩
  obtain ⟨xl, hxl⟩ : ∃ b, x.getD l false = b := ⟨_, rfl⟩
  have HL : Hid (lf k s = l ∧ onc k = oc ∧ x.getD l false = xl) := ⟨hl, hoc, hxl⟩
  rw [hl] at hlf
  have b9 : (l : Int) < 9 := by omega
  have hWs : W.heap.size = n + 1 := by rw [← hW, size_alloc, hn]
  obtain ⟨Y, hY⟩ : ∃ Y, (rlC k).toArray = Y := ⟨_, rfl⟩
  have h12 : 12 = Y.size := by rw [← hY, List.size_toArray, rlC_len]
  have hsz : (Tryz.prog.info? 111).map (·.size) = some Y.size := by rw [← h12]; kernel_rfl
  have hone : Y.all (·.oneCell') = true := by rw [← hY]; simp [rlC, Value.oneCell']
  have HY : Hid ((rlC k).toArray = Y ∧ (Tryz.prog.info? 111).map (·.size) = some Y.size) := ⟨hY, hsz⟩
  have hWn : W.heap[n]? = some (.cells X 80 (0, 0)) := by rw [← hW, ← hn]; exact heap_alloc_new _ _
  have HW : Hid (W.heap[n]? = some (.cells X 80 (0, 0)) ∧ Below n w W ∧ W.heap.size = n + 1) := ⟨hWn, by rw [← hW, ← hn]; exact (Below.refl _ _).alloc (Nat.le_refl _) _, hWs⟩
  have HE : Hid (Errs ea w) := hE
  have H12 : Hid (12 = Y.size ∧ Y.all (·.oneCell') = true) := ⟨h12, hone⟩
  clear e hX hr hl hoc hxl hlf hWn hE hY h12 hsz hone
  go_enter Tryz.func63, Tryz.ntmps63
  go_wp2_with (first
    | (with_reducible refine at_list ?_; refine wpList_load_midA rfl 111 (.tmp 9) rfl 4 (k * 12) rfl (rlC k) Y HY.out.1 _ HR.out Tryz.underlying111 rfl HY.out.2 ?_)
    | (with_reducible refine at_list ?_; refine hold_store 111 (.tmp 7) (.tmp 10) rfl ?_))
  refine store_row_new rfl 111 (.tmp 7) (.tmp 10) rfl (n + 1) Y rfl hWs.symm rfl 111 _ HY.out.2 H12.out.1 H12.out.2 ?_
  obtain ⟨V, hV⟩ : ∃ V, W.alloc (.cells Y 111) = V := ⟨_, rfl⟩
  have hVm : V.heap[n + 1]? = some (.cells Y 111 (0, 0)) := by rw [← hV, ← hWs]; exact heap_alloc_new _ _
  have hVn : V.heap[n]? = some (.cells X 80 (0, 0)) := by rw [← hV, heap_alloc_any, if_neg (by omega)]; exact HW.out.1
  have hVb : Below n w V := by rw [← hV]; exact HW.out.2.1.alloc (by omega) _
  have hVs : V.heap.size = n + 2 := by rw [← hV, size_alloc, hWs]
  rw [hV]
  have HV : Hid (V.heap[n + 1]? = some (.cells Y 111 (0, 0)) ∧ V.heap[n]? = some (.cells X 80 (0, 0)) ∧ Below n w V ∧ V.heap.size = n + 2) := ⟨hVm, hVn, hVb, hVs⟩
  have hYr : ∀ y, Below V.heap.size V y → y.rangeAt (n + 1) 0 (rlC k) ∧ y.heap[n]? = some (.cells X 80 (0, 0)) ∧ Below n w y := fun y hy => by
    refine ⟨range_row ((hy.block (n + 1) (by omega)).trans HV.out.1) _ HY.out.1, (hy.block n (by omega)).trans HV.out.2.1, HV.out.2.2.1.trans (hy.mono (by omega))⟩
  have hcl : ∀ y, Below V.heap.size V y → y.cell? ⟨n + 1, s, none⟩ = some (.int .i64 l) ∧ y.cell? ⟨n + 1, 2, none⟩ = some (.bool oc) ∧ y.cell? ⟨n, l, none⟩ = some (.bool xl) := fun y hy => by
    obtain ⟨q1, q2, q3⟩ := hYr y hy
    refine ⟨?_, ?_, ?_⟩
    · have := q1 s (.int .i64 (lf k s)) (by rcases (by omega : s = 0 ∨ s = 1) with rfl | rfl <;> rfl)
      rw [Nat.zero_add, HL.out.1] at this
      exact this
    · have := q1 2 (.bool (onc k)) rfl
      rw [HL.out.2.1] at this
      exact this
    · rw [cell_of_row _ _ _ _ _ _ q2, ← HX.out, ← HL.out.2.2]
      have : l < x.length := by omega
      simp [bc, List.getD, this]
  have HCL : Hid _ := hcl
  have HYR : Hid _ := hYr
  have c0 := (hcl V (Below.refl _ _)).1
  have c1 := (hcl V (Below.refl _ _)).2.1
  have c2 := (hcl V (Below.refl _ _)).2.2
  clear hVm hVn hVb hVs hV hWs hcl hYr hW
  cases oc with
  | true =>
    cases xl with
    | true =>
      have e3 := ((HE.out.below (by rw [hn]; exact HV.out.2.2.1)).1 10 (by decide)).1
      simp only [eblk] at e3
      go_wp2
      go_ret
      refine ⟨?_, by first | exact HV.out.2.2.1 | (rw [hn]; exact HV.out.2.2.1)⟩
      unfold ofd
      rw [HL.out.1, HL.out.2.1, HL.out.2.2, if_pos (by decide)]
      rfl
    | false =>
      obtain ⟨WN, hWN⟩ : ∃ A, bc (wnt k) = A := ⟨_, rfl⟩
      obtain ⟨ZW, hZW⟩ : ∃ A, bc (List.zipWith and x (wnt k)) = A := ⟨_, rfl⟩
      have CF : ∀ y, Calls Tryz.prog 64 #[.agg X, .agg WN] y fun e w' => e = .returned (.agg ZW) ∧ Below y.heap.size y w' := fun y => by
        rw [← HX.out, ← hWN, ← hZW]
        exact within_any x (wnt k) hx (wnt_len _) y
      have EQ : ∀ y, (Op.equalIn 10000 80 (.agg ZW) (.agg WN)).run Tryz.prog y = .ok (List.zipWith and x (wnt k) == wnt k) y := fun y => by
        rw [← hZW, ← hWN]
        exact eq_row (by simp [hx, wnt_len]) (wnt_len _) y
      have i9 : (Tryz.prog.info? 80).map (·.size) = some 9 := by kernel_rfl
      have iX : (Tryz.prog.info? 80).map (·.size) = some X.size := by
        have e9 : X.size = 9 := by rw [← HX.out]; simp [bc, hx]
        rw [e9]
        exact i9
      have HSX : Hid ((Tryz.prog.info? 80).map (·.size) = some 9 ∧ (Tryz.prog.info? 80).map (·.size) = some X.size ∧ bc (wnt k) = WN) := ⟨i9, iX, hWN⟩
      clear i9 iX hWN hZW
      go_upto_region 4 with fail
      clear c0 c1 c2
      refine Go.Pin.wp_region_cls (fun y => Below V.heap.size V y) (by kernel_rfl) (by kernel_rfl) ((Below.refl _ _).drew) ?_
      intro Sq fq hNq hRq hSq
      have y1 := fun x => (run_loadAt_mid (P := Tryz.prog) (fq x) (n + 1) 3 80 ((wnt k).map Value.bool) _ (range_mid (A := [.int .i64 (lf k 0), .int .i64 (lf k 1), .bool (onc k)]) (C := []) (by rw [List.append_nil]; exact (HYR.out _ (hRq x)).1) 3 rfl) Tryz.underlying80 rfl (by rw [List.length_map, wnt_len]; exact HSX.out.1)).trans (congrArg (fun A => Result.ok (Value.agg A) (fq x)) HSX.out.2.2)
      have y3 := fun x => run_loadAt_row (P := Tryz.prog) (fq x) n 80 80 X (0, 0) _ (HYR.out _ (hRq x)).2.1 Tryz.underlying80 rfl HSX.out.2.1
      have CF := fun x => CF (fq x)
      repeat (first | (refine Go.BigFrame.wpQuiet_want (by kernel_rfl) ?_; intro Kq hKq; (first | (refine Go.Pin.quiet_load 80 (.tmp 3) rfl _ rfl (.agg X) y3 ?_) | (refine Go.Pin.quiet_load 80 (.tmp 25) rfl _ rfl (.agg WN) y1 ?_) | (refine Go.Pin.quiet_load 80 (.tmp 28) rfl _ rfl (.agg WN) y1 ?_)); refine hKq _ ?_; clear hKq Kq; simp only [Act.put, List.setIfInBounds_toArray, List.set_cons_zero, List.set_cons_succ]) | go_big_quiet_step (exact (CF _).mono (fun e w' h => ⟨h.1, hSq _ ((hRq _).trans (h.2.mono (hRq _).size))⟩)))
      refine wpQuiet_nil ?_
      intro _ hw'
      obtain ⟨xq, hw''⟩ := hw'
      subst hw''
      have HYq := hRq xq
      generalize fq xq = y at HYq ⊢
      have hyB := (HYR.out y HYq).2.2
      have hyn := (HYR.out y HYq).2.1
      have hEy : Errs ea y := HE.out.below (by rw [hn]; exact hyB)
      have e4 := (hEy.1 11 (by decide)).1
      have e5 := (hEy.1 12 (by decide)).1
      simp only [eblk] at e4 e5
      have HYB : Hid (Below n w y ∧ y.heap[n]? = some (.cells X 80 (0, 0)) ∧ Errs ea y) := ⟨hyB, hyn, hEy⟩
      clear hRq hSq hNq xq fq Sq y1 y3 CF EQ HYq hyB hyn hEy
      cases hz : (List.zipWith and x (wnt k) == wnt k) with
      | false =>
        have hz' : ¬ (List.zipWith and x (wnt k) = wnt k) := by simpa using hz
        clear hz
        go_wp2
        go_ret
        refine ⟨?_, by first | exact HYB.out.1 | (rw [hn]; exact HYB.out.1)⟩
        unfold ofd
        rw [HL.out.1, HL.out.2.1, HL.out.2.2, if_neg (by simp), if_pos (by simp [hz'])]
        rfl
      | true =>
        have hz' : List.zipWith and x (wnt k) = wnt k := by simpa using hz
        clear hz
        by_cases hk2 : k = 2
        · have g1 : decide ((k : Int) = 2) = true := by simp [hk2]
          have g2 : ((k : Int) == 2) = true := by simp [hk2]
          have HK : Hid (k = 2 ∧ List.zipWith and x (wnt k) = wnt k) := ⟨hk2, hz'⟩
          have CS := rsafe_any x hx s hs y HYB.out.2.2.2
          rw [show rv x = .agg X by rw [← HX.out]; rfl] at CS
          obtain ⟨sb, hsb⟩ : ∃ b, sfr x s = b := ⟨_, rfl⟩
          rw [hsb] at CS
          have HSB : Hid (sfr x s = sb) := hsb
          have HCS : Hid _ := CS
          clear hk2 hz' hsb CS h1 h7 b1 b7
          cases sb with
          | true =>
            go_wp2_with (first
              | (with_reducible refine at_list ?_; refine load_row_w (by kernel_rfl) 80 (.tmp 3) rfl n rfl 80 X (0, 0) _ HYB.out.2.1 Tryz.underlying80 rfl HSX.out.2.1 ?_)
              | (go_at_call 38; refine Calls.mono HCS.out ?_; rintro e y2 ⟨rfl, hb2⟩; have HY2 : Hid (Below n w y2) := HYB.out.1.trans (hb2.mono (by have := HYB.out.1.size; omega)); have e5' := cellA_below hb2 e5; clear hb2 e5 e4))
            go_ret
            refine ⟨?_, by first | exact HY2.out | (rw [hn]; exact HY2.out)⟩
            unfold ofd
            rw [HL.out.1, HL.out.2.1, HL.out.2.2, if_neg (by simp), if_neg (by simp [HK.out.2]), if_neg (by simp [HSB.out])]
            rfl
          | false =>
            go_wp2_with (first
              | (with_reducible refine at_list ?_; refine load_row_w (by kernel_rfl) 80 (.tmp 3) rfl n rfl 80 X (0, 0) _ HYB.out.2.1 Tryz.underlying80 rfl HSX.out.2.1 ?_)
              | (go_at_call 38; refine Calls.mono HCS.out ?_; rintro e y2 ⟨rfl, hb2⟩; have HY2 : Hid (Below n w y2) := HYB.out.1.trans (hb2.mono (by have := HYB.out.1.size; omega)); have e5' := cellA_below hb2 e5; clear hb2 e5 e4))
            go_ret
            refine ⟨?_, by first | exact HY2.out | (rw [hn]; exact HY2.out)⟩
            unfold ofd
            rw [HL.out.1, HL.out.2.1, HL.out.2.2, if_neg (by simp), if_neg (by simp [HK.out.2]), if_pos ⟨by rw [HK.out.1]; rfl, HSB.out⟩]
            rfl
        · have g1 : decide ((k : Int) = 2) = false := by simp; omega
          have g2 : ((k : Int) == 2) = false := by simp; omega
          have HK : Hid (k ≠ 2 ∧ List.zipWith and x (wnt k) = wnt k) := ⟨hk2, hz'⟩
          clear hk2 hz' e4 e5
          go_wp2
          go_ret
          refine ⟨?_, by first | exact HYB.out.1 | (rw [hn]; exact HYB.out.1)⟩
          unfold ofd
          rw [HL.out.1, HL.out.2.1, HL.out.2.2, if_neg (by simp), if_neg (by simp [HK.out.2]), if_neg (by have := HK.out.1; intro h; omega)]
          rfl
  | false =>
    obtain ⟨WN, hWN⟩ : ∃ A, bc (wnt k) = A := ⟨_, rfl⟩
    obtain ⟨ZW, hZW⟩ : ∃ A, bc (List.zipWith and x (wnt k)) = A := ⟨_, rfl⟩
    have CF : ∀ y, Calls Tryz.prog 64 #[.agg X, .agg WN] y fun e w' => e = .returned (.agg ZW) ∧ Below y.heap.size y w' := fun y => by
      rw [← HX.out, ← hWN, ← hZW]
      exact within_any x (wnt k) hx (wnt_len _) y
    have EQ : ∀ y, (Op.equalIn 10000 80 (.agg ZW) (.agg WN)).run Tryz.prog y = .ok (List.zipWith and x (wnt k) == wnt k) y := fun y => by
      rw [← hZW, ← hWN]
      exact eq_row (by simp [hx, wnt_len]) (wnt_len _) y
    have i9 : (Tryz.prog.info? 80).map (·.size) = some 9 := by kernel_rfl
    have iX : (Tryz.prog.info? 80).map (·.size) = some X.size := by
      have e9 : X.size = 9 := by rw [← HX.out]; simp [bc, hx]
      rw [e9]
      exact i9
    have HSX : Hid ((Tryz.prog.info? 80).map (·.size) = some 9 ∧ (Tryz.prog.info? 80).map (·.size) = some X.size ∧ bc (wnt k) = WN) := ⟨i9, iX, hWN⟩
    clear i9 iX hWN hZW
    go_upto_region 4 with fail
    clear c0 c1 c2
    refine Go.Pin.wp_region_cls (fun y => Below V.heap.size V y) (by kernel_rfl) (by kernel_rfl) ((Below.refl _ _).drew) ?_
    intro Sq fq hNq hRq hSq
    have y1 := fun x => (run_loadAt_mid (P := Tryz.prog) (fq x) (n + 1) 3 80 ((wnt k).map Value.bool) _ (range_mid (A := [.int .i64 (lf k 0), .int .i64 (lf k 1), .bool (onc k)]) (C := []) (by rw [List.append_nil]; exact (HYR.out _ (hRq x)).1) 3 rfl) Tryz.underlying80 rfl (by rw [List.length_map, wnt_len]; exact HSX.out.1)).trans (congrArg (fun A => Result.ok (Value.agg A) (fq x)) HSX.out.2.2)
    have y3 := fun x => run_loadAt_row (P := Tryz.prog) (fq x) n 80 80 X (0, 0) _ (HYR.out _ (hRq x)).2.1 Tryz.underlying80 rfl HSX.out.2.1
    have CF := fun x => CF (fq x)
    repeat (first | (refine Go.BigFrame.wpQuiet_want (by kernel_rfl) ?_; intro Kq hKq; (first | (refine Go.Pin.quiet_load 80 (.tmp 3) rfl _ rfl (.agg X) y3 ?_) | (refine Go.Pin.quiet_load 80 (.tmp 25) rfl _ rfl (.agg WN) y1 ?_) | (refine Go.Pin.quiet_load 80 (.tmp 28) rfl _ rfl (.agg WN) y1 ?_)); refine hKq _ ?_; clear hKq Kq; simp only [Act.put, List.setIfInBounds_toArray, List.set_cons_zero, List.set_cons_succ]) | go_big_quiet_step (exact (CF _).mono (fun e w' h => ⟨h.1, hSq _ ((hRq _).trans (h.2.mono (hRq _).size))⟩)))
    refine wpQuiet_nil ?_
    intro _ hw'
    obtain ⟨xq, hw''⟩ := hw'
    subst hw''
    have HYq := hRq xq
    generalize fq xq = y at HYq ⊢
    have hyB := (HYR.out y HYq).2.2
    have hyn := (HYR.out y HYq).2.1
    have hEy : Errs ea y := HE.out.below (by rw [hn]; exact hyB)
    have e4 := (hEy.1 11 (by decide)).1
    have e5 := (hEy.1 12 (by decide)).1
    simp only [eblk] at e4 e5
    have HYB : Hid (Below n w y ∧ y.heap[n]? = some (.cells X 80 (0, 0)) ∧ Errs ea y) := ⟨hyB, hyn, hEy⟩
    clear hRq hSq hNq xq fq Sq y1 y3 CF EQ HYq hyB hyn hEy
    cases hz : (List.zipWith and x (wnt k) == wnt k) with
    | false =>
      have hz' : ¬ (List.zipWith and x (wnt k) = wnt k) := by simpa using hz
      clear hz
      go_wp2
      go_ret
      refine ⟨?_, by first | exact HYB.out.1 | (rw [hn]; exact HYB.out.1)⟩
      unfold ofd
      rw [HL.out.1, HL.out.2.1, HL.out.2.2, if_neg (by simp), if_pos (by simp [hz'])]
      rfl
    | true =>
      have hz' : List.zipWith and x (wnt k) = wnt k := by simpa using hz
      clear hz
      by_cases hk2 : k = 2
      · have g1 : decide ((k : Int) = 2) = true := by simp [hk2]
        have g2 : ((k : Int) == 2) = true := by simp [hk2]
        have HK : Hid (k = 2 ∧ List.zipWith and x (wnt k) = wnt k) := ⟨hk2, hz'⟩
        have CS := rsafe_any x hx s hs y HYB.out.2.2.2
        rw [show rv x = .agg X by rw [← HX.out]; rfl] at CS
        obtain ⟨sb, hsb⟩ : ∃ b, sfr x s = b := ⟨_, rfl⟩
        rw [hsb] at CS
        have HSB : Hid (sfr x s = sb) := hsb
        have HCS : Hid _ := CS
        clear hk2 hz' hsb CS h1 h7 b1 b7
        cases sb with
        | true =>
          go_wp2_with (first
            | (with_reducible refine at_list ?_; refine load_row_w (by kernel_rfl) 80 (.tmp 3) rfl n rfl 80 X (0, 0) _ HYB.out.2.1 Tryz.underlying80 rfl HSX.out.2.1 ?_)
            | (go_at_call 38; refine Calls.mono HCS.out ?_; rintro e y2 ⟨rfl, hb2⟩; have HY2 : Hid (Below n w y2) := HYB.out.1.trans (hb2.mono (by have := HYB.out.1.size; omega)); have e5' := cellA_below hb2 e5; clear hb2 e5 e4))
          go_ret
          refine ⟨?_, by first | exact HY2.out | (rw [hn]; exact HY2.out)⟩
          unfold ofd
          rw [HL.out.1, HL.out.2.1, HL.out.2.2, if_neg (by simp), if_neg (by simp [HK.out.2]), if_neg (by simp [HSB.out])]
          rfl
        | false =>
          go_wp2_with (first
            | (with_reducible refine at_list ?_; refine load_row_w (by kernel_rfl) 80 (.tmp 3) rfl n rfl 80 X (0, 0) _ HYB.out.2.1 Tryz.underlying80 rfl HSX.out.2.1 ?_)
            | (go_at_call 38; refine Calls.mono HCS.out ?_; rintro e y2 ⟨rfl, hb2⟩; have HY2 : Hid (Below n w y2) := HYB.out.1.trans (hb2.mono (by have := HYB.out.1.size; omega)); have e5' := cellA_below hb2 e5; clear hb2 e5 e4))
          go_ret
          refine ⟨?_, by first | exact HY2.out | (rw [hn]; exact HY2.out)⟩
          unfold ofd
          rw [HL.out.1, HL.out.2.1, HL.out.2.2, if_neg (by simp), if_neg (by simp [HK.out.2]), if_pos ⟨by rw [HK.out.1]; rfl, HSB.out⟩]
          rfl
      · have g1 : decide ((k : Int) = 2) = false := by simp; omega
        have g2 : ((k : Int) == 2) = false := by simp; omega
        have HK : Hid (k ≠ 2 ∧ List.zipWith and x (wnt k) = wnt k) := ⟨hk2, hz'⟩
        clear hk2 hz' e4 e5
        go_wp2
        go_ret
        refine ⟨?_, by first | exact HYB.out.1 | (rw [hn]; exact HYB.out.1)⟩
        unfold ofd
        rw [HL.out.1, HL.out.2.1, HL.out.2.2, if_neg (by simp), if_neg (by simp [HK.out.2]), if_neg (by have := HK.out.1; intro h; omega)]
        rfl
end Go.Proofs.YtpfidohkohldaaaGreatDoor
