import Derived.Test.YtjhleocpipmklaaDoorMjao
namespace Go.Proofs.YtjhleocpipmklaaDoor
set_option linter.unusedSimpArgs false
set_option linter.unusedVariables false
set_option maxRecDepth 100000
open Go.ChangeShapes Go.WideShapes Go.ChangeAt Go.RowKit Go.Pin Go.Pat Go.Deep
/-- a token's rule, as cells -/
def rlC (t : Int) : List Value := [.int .i64 (lf t 0), .int .i64 (lf t 1), .bool (onc t)] ++ (wnt t).map Value.bool
theorem wnt_len (t : Int) : (wnt t).length = 9 := by unfold wnt; (repeat' split) <;> rfl
theorem rlC_len (t : Int) : (rlC t).length = 12 := by simp [rlC, wnt_len]
theorem rules_flat : (c_rules.drop 12) = (rlC 1 ++ (rlC 2 ++ (rlC 3 ++ (rlC 4 ++ (rlC 5 ++ (rlC 6 ++ (rlC 7 ++ []))))))) := by kernel_rfl
theorem rules_at {w : World} (h : w.rangeAt 5 0 c_rules) (k : Nat) (h1 : 1 ≤ k) (h7 : k ≤ 7) : w.rangeAt 5 (k * 12) (rlC k) := by
  have h0 : w.rangeAt 5 0 (c_rules.take 12 ++ c_rules.drop 12) := by rw [List.take_append_drop]; exact h
  rw [rules_flat] at h0
  have l12 : (c_rules.take 12).length = 12 := by kernel_rfl
  rcases (by omega : k = 1 ∨ k = 2 ∨ k = 3 ∨ k = 4 ∨ k = 5 ∨ k = 6 ∨ k = 7) with rfl | rfl | rfl | rfl | rfl | rfl | rfl
  · exact range_mid h0 _ (by rw [l12])
  · rw [← List.append_assoc] at h0; exact range_mid h0 _ (by simp only [List.length_append, l12, rlC_len])
  · rw [← List.append_assoc, ← List.append_assoc] at h0; exact range_mid h0 _ (by simp only [List.length_append, l12, rlC_len])
  · rw [← List.append_assoc, ← List.append_assoc, ← List.append_assoc] at h0; exact range_mid h0 _ (by simp only [List.length_append, l12, rlC_len])
  · rw [← List.append_assoc, ← List.append_assoc, ← List.append_assoc, ← List.append_assoc] at h0; exact range_mid h0 _ (by simp only [List.length_append, l12, rlC_len])
  · rw [← List.append_assoc, ← List.append_assoc, ← List.append_assoc, ← List.append_assoc, ← List.append_assoc] at h0; exact range_mid h0 _ (by simp only [List.length_append, l12, rlC_len])
  · rw [← List.append_assoc, ← List.append_assoc, ← List.append_assoc, ← List.append_assoc, ← List.append_assoc, ← List.append_assoc] at h0; exact range_mid h0 _ (by simp only [List.length_append, l12, rlC_len])
theorem lf_lt {t : Int} (h : T7 t) {s : Nat} (hs : s < 2) : lf t s < 9 := by unfold lf; unfold T7 at h; (repeat' split) <;> omega
set_option maxHeartbeats 4000000 in
theorem offended_any {ea : Int → Addr} (x : List Bool) (hx : x.length = 9) (s : Nat) (hs : s < 2) (k : Nat) (h1 : 1 ≤ k) (h7 : k ≤ 7) (w : World) (hE : Errs ea w) :
    Calls Tryd.prog 57 #[rv x, .int .i64 s, .int .i64 k] w fun e w' => e = .returned (EV ea (ofd x s k)) ∧ Below w.heap.size w w' := by
  have hr := rules_at hE.2.rules k h1 h7
  obtain ⟨n, hn⟩ : ∃ n, w.heap.size = n := ⟨_, rfl⟩
  obtain ⟨X, hX⟩ : ∃ X, bc x = X := ⟨_, rfl⟩
  have HX : Hid (bc x = X) := hX
  have e : rv x = .agg X := by rw [← hX]; rfl
  rw [e]
  obtain ⟨W, hW⟩ : ∃ W, w.alloc (.cells X 69) = W := ⟨_, rfl⟩
  have HR : Hid (W.rangeAt 5 (k * 12) (rlC k)) := by
    show W.rangeAt 5 (k * 12) (rlC k)
    rw [← hW]
    exact World.rangeAt_alloc hr _
  have b1 : (1 : Int) ≤ k := by omega
  have b7 : (k : Int) < 8 := by omega
  have bs : (s : Int) < 2 := by omega
  have hlf := lf_lt (t := k) ⟨b1, by omega⟩ hs
  obtain ⟨l, hl⟩ : ∃ l, lf k s = l := ⟨_, rfl⟩
  obtain ⟨oc, hoc⟩ : ∃ b, onc k = b := ⟨_, rfl⟩
  obtain ⟨xl, hxl⟩ : ∃ b, x.getD l false = b := ⟨_, rfl⟩
  have HL : Hid (lf k s = l ∧ onc k = oc ∧ x.getD l false = xl) := ⟨hl, hoc, hxl⟩
  rw [hl] at hlf
  have b9 : (l : Int) < 9 := by omega
  have hWs : W.heap.size = n + 1 := by rw [← hW, size_alloc, hn]
  obtain ⟨Y, hY⟩ : ∃ Y, (rlC k).toArray = Y := ⟨_, rfl⟩
  have h12 : 12 = Y.size := by rw [← hY, List.size_toArray, rlC_len]
  have hsz : (Tryd.prog.info? 99).map (·.size) = some Y.size := by rw [← h12]; kernel_rfl
  have hone : Y.all (·.oneCell') = true := by rw [← hY]; simp [rlC, Value.oneCell']
  have HY : Hid ((rlC k).toArray = Y ∧ (Tryd.prog.info? 99).map (·.size) = some Y.size) := ⟨hY, hsz⟩
  have hWn : W.heap[n]? = some (.cells X 69 (0, 0)) := by rw [← hW, ← hn]; exact heap_alloc_new _ _
  have HW : Hid (W.heap[n]? = some (.cells X 69 (0, 0)) ∧ Below n w W ∧ W.heap.size = n + 1) := ⟨hWn, by rw [← hW, ← hn]; exact (Below.refl _ _).alloc (Nat.le_refl _) _, hWs⟩
  have HE : Hid (Errs ea w) := hE
  have H12 : Hid (12 = Y.size ∧ Y.all (·.oneCell') = true) := ⟨h12, hone⟩
  clear e hX hr hl hoc hxl hlf hWn hE hY h12 hsz hone
  go_enter Tryd.func57, Tryd.ntmps57
  go_wp2_with (first
    | (with_reducible refine at_list ?_; refine wpList_load_midA rfl 99 (.tmp 9) rfl 5 (k * 12) rfl (rlC k) Y HY.out.1 _ HR.out Tryd.underlying99 rfl HY.out.2 ?_)
    | (with_reducible refine at_list ?_; refine hold_store 99 (.tmp 7) (.tmp 10) rfl ?_))
  refine store_row_new rfl 99 (.tmp 7) (.tmp 10) rfl (n + 1) Y rfl hWs.symm rfl 99 _ HY.out.2 H12.out.1 H12.out.2 ?_
  obtain ⟨V, hV⟩ : ∃ V, W.alloc (.cells Y 99) = V := ⟨_, rfl⟩
  have hVm : V.heap[n + 1]? = some (.cells Y 99 (0, 0)) := by rw [← hV, ← hWs]; exact heap_alloc_new _ _
  have hVn : V.heap[n]? = some (.cells X 69 (0, 0)) := by rw [← hV, heap_alloc_any, if_neg (by omega)]; exact HW.out.1
  have hVb : Below n w V := by rw [← hV]; exact HW.out.2.1.alloc (by omega) _
  have hVs : V.heap.size = n + 2 := by rw [← hV, size_alloc, hWs]
  rw [hV]
  have HV : Hid (V.heap[n + 1]? = some (.cells Y 99 (0, 0)) ∧ V.heap[n]? = some (.cells X 69 (0, 0)) ∧ Below n w V ∧ V.heap.size = n + 2) := ⟨hVm, hVn, hVb, hVs⟩
  have hYr : ∀ y, Below V.heap.size V y → y.rangeAt (n + 1) 0 (rlC k) ∧ y.heap[n]? = some (.cells X 69 (0, 0)) ∧ Below n w y := fun y hy => by
    refine ⟨range_row ((hy.block (n + 1) (by omega)).trans HV.out.1) _ HY.out.1, (hy.block n (by omega)).trans HV.out.2.1, HV.out.2.2.1.trans (hy.mono (by omega))⟩
  have hcl : ∀ y, Below V.heap.size V y → y.cell? ⟨n + 1, s, none⟩ = some (.int .i64 l) ∧ y.cell? ⟨n + 1, 2, none⟩ = some (.bool oc) ∧ y.cell? ⟨n, l, none⟩ = some (.bool xl) := fun y hy => by
    obtain ⟨q1, q2, q3⟩ := hYr y hy
    refine ⟨?_, ?_, ?_⟩
    · have := q1 s (.int .i64 (lf k s)) (by rcases (by omega : s = 0 ∨ s = 1) with rfl | rfl <;> rfl)
      rw [Nat.zero_add, HL.out.1] at this
      exact this
    · have := q1 2 (.bool (onc k)) rfl
      rw [HL.out.2.1] at this
      exact this
    · rw [cell_of_row _ _ _ _ _ _ q2, ← HX.out, ← HL.out.2.2]
      have : l < x.length := by omega
      simp [bc, List.getD, this]
  have HCL : Hid _ := hcl
  have HYR : Hid _ := hYr
  have c0 := (hcl V (Below.refl _ _)).1
  have c1 := (hcl V (Below.refl _ _)).2.1
  have c2 := (hcl V (Below.refl _ _)).2.2
  clear hVm hVn hVb hVs hV hWs hcl hYr hW
  cases oc with
  | true =>
    cases xl with
    | true =>
      have e3 := ((HE.out.below (by rw [hn]; exact HV.out.2.2.1)).1 10 (by decide)).1
      simp only [eblk] at e3
      go_wp2
      go_ret
      refine ⟨?_, by first | exact HV.out.2.2.1 | (rw [hn]; exact HV.out.2.2.1)⟩
      unfold ofd
      rw [HL.out.1, HL.out.2.1, HL.out.2.2, if_pos (by decide)]
      rfl
    | false =>
      obtain ⟨WN, hWN⟩ : ∃ A, bc (wnt k) = A := ⟨_, rfl⟩
      obtain ⟨ZW, hZW⟩ : ∃ A, bc (List.zipWith and x (wnt k)) = A := ⟨_, rfl⟩
      have CF : ∀ y, Calls Tryd.prog 58 #[.agg X, .agg WN] y fun e w' => e = .returned (.agg ZW) ∧ Below y.heap.size y w' := fun y => by
        rw [← HX.out, ← hWN, ← hZW]
        exact within_any x (wnt k) hx (wnt_len _) y
      have EQ : ∀ y, (Op.equalIn 10000 69 (.agg ZW) (.agg WN)).run Tryd.prog y = .ok (List.zipWith and x (wnt k) == wnt k) y := fun y => by
        rw [← hZW, ← hWN]
        exact eq_row (by simp [hx, wnt_len]) (wnt_len _) y
      have i9 : (Tryd.prog.info? 69).map (·.size) = some 9 := by kernel_rfl
      have iX : (Tryd.prog.info? 69).map (·.size) = some X.size := by
        have e9 : X.size = 9 := by rw [← HX.out]; simp [bc, hx]
        rw [e9]
        exact i9
      have HSX : Hid ((Tryd.prog.info? 69).map (·.size) = some 9 ∧ (Tryd.prog.info? 69).map (·.size) = some X.size ∧ bc (wnt k) = WN) := ⟨i9, iX, hWN⟩
      clear i9 iX hWN hZW
      go_upto_region 4 with fail
      clear c0 c1 c2
      refine Go.Pin.wp_region_cls (fun y => Below V.heap.size V y) (by kernel_rfl) (by kernel_rfl) ((Below.refl _ _).drew) ?_
      intro Sq fq hNq hRq hSq
      have y1 := fun x => (run_loadAt_mid (P := Tryd.prog) (fq x) (n + 1) 3 69 ((wnt k).map Value.bool) _ (range_mid (A := [.int .i64 (lf k 0), .int .i64 (lf k 1), .bool (onc k)]) (C := []) (by rw [List.append_nil]; exact (HYR.out _ (hRq x)).1) 3 rfl) Tryd.underlying69 rfl (by rw [List.length_map, wnt_len]; exact HSX.out.1)).trans (congrArg (fun A => Result.ok (Value.agg A) (fq x)) HSX.out.2.2)
      have y3 := fun x => run_loadAt_row (P := Tryd.prog) (fq x) n 69 69 X (0, 0) _ (HYR.out _ (hRq x)).2.1 Tryd.underlying69 rfl HSX.out.2.1
      have CF := fun x => CF (fq x)
      repeat (first | (refine Go.BigFrame.wpQuiet_want (by kernel_rfl) ?_; intro Kq hKq; (first | (refine Go.Pin.quiet_load 69 (.tmp 3) rfl _ rfl (.agg X) y3 ?_) | (refine Go.Pin.quiet_load 69 (.tmp 25) rfl _ rfl (.agg WN) y1 ?_) | (refine Go.Pin.quiet_load 69 (.tmp 28) rfl _ rfl (.agg WN) y1 ?_)); refine hKq _ ?_; clear hKq Kq; simp only [Act.put, List.setIfInBounds_toArray, List.set_cons_zero, List.set_cons_succ]) | go_big_quiet_step (exact (CF _).mono (fun e w' h => ⟨h.1, hSq _ ((hRq _).trans (h.2.mono (hRq _).size))⟩)))
      refine wpQuiet_nil ?_
      intro _ hw'
      obtain ⟨xq, hw''⟩ := hw'
      subst hw''
      have HYq := hRq xq
      generalize fq xq = y at HYq ⊢
      have hyB := (HYR.out y HYq).2.2
      have hyn := (HYR.out y HYq).2.1
      have hEy : Errs ea y := HE.out.below (by rw [hn]; exact hyB)
      have e4 := (hEy.1 11 (by decide)).1
      have e5 := (hEy.1 12 (by decide)).1
      simp only [eblk] at e4 e5
      have HYB : Hid (Below n w y ∧ y.heap[n]? = some (.cells X 69 (0, 0)) ∧ Errs ea y) := ⟨hyB, hyn, hEy⟩
      clear hRq hSq hNq xq fq Sq y1 y3 CF EQ HYq hyB hyn hEy
      cases hz : (List.zipWith and x (wnt k) == wnt k) with
      | false =>
        have hz' : ¬ (List.zipWith and x (wnt k) = wnt k) := by simpa using hz
        clear hz
        go_wp2
        go_ret
        refine ⟨?_, by first | exact HYB.out.1 | (rw [hn]; exact HYB.out.1)⟩
        unfold ofd
        rw [HL.out.1, HL.out.2.1, HL.out.2.2, if_neg (by simp), if_pos (by simp [hz'])]
        rfl
      | true =>
        have hz' : List.zipWith and x (wnt k) = wnt k := by simpa using hz
        clear hz
        by_cases hk2 : k = 2
        · have g1 : decide ((k : Int) = 2) = true := by simp [hk2]
          have g2 : ((k : Int) == 2) = true := by simp [hk2]
          have HK : Hid (k = 2 ∧ List.zipWith and x (wnt k) = wnt k) := ⟨hk2, hz'⟩
          have CS := rsafe_any x hx s hs y HYB.out.2.2.2
          rw [show rv x = .agg X by rw [← HX.out]; rfl] at CS
          obtain ⟨sb, hsb⟩ : ∃ b, sfr x s = b := ⟨_, rfl⟩
          rw [hsb] at CS
          have HSB : Hid (sfr x s = sb) := hsb
          have HCS : Hid _ := CS
          clear hk2 hz' hsb CS h1 h7 b1 b7
          cases sb with
          | true =>
            go_wp2_with (first
              | (with_reducible refine at_list ?_; refine load_row_w (by kernel_rfl) 69 (.tmp 3) rfl n rfl 69 X (0, 0) _ HYB.out.2.1 Tryd.underlying69 rfl HSX.out.2.1 ?_)
              | (go_at_call 36; refine Calls.mono HCS.out ?_; rintro e y2 ⟨rfl, hb2⟩; have HY2 : Hid (Below n w y2) := HYB.out.1.trans (hb2.mono (by have := HYB.out.1.size; omega)); have e5' := cellA_below hb2 e5; clear hb2 e5 e4))
            go_ret
            refine ⟨?_, by first | exact HY2.out | (rw [hn]; exact HY2.out)⟩
            unfold ofd
            rw [HL.out.1, HL.out.2.1, HL.out.2.2, if_neg (by simp), if_neg (by simp [HK.out.2]), if_neg (by simp [HSB.out])]
            rfl
          | false =>
            go_wp2_with (first
              | (with_reducible refine at_list ?_; refine load_row_w (by kernel_rfl) 69 (.tmp 3) rfl n rfl 69 X (0, 0) _ HYB.out.2.1 Tryd.underlying69 rfl HSX.out.2.1 ?_)
              | (go_at_call 36; refine Calls.mono HCS.out ?_; rintro e y2 ⟨rfl, hb2⟩; have HY2 : Hid (Below n w y2) := HYB.out.1.trans (hb2.mono (by have := HYB.out.1.size; omega)); have e5' := cellA_below hb2 e5; clear hb2 e5 e4))
            go_ret
            refine ⟨?_, by first | exact HY2.out | (rw [hn]; exact HY2.out)⟩
            unfold ofd
            rw [HL.out.1, HL.out.2.1, HL.out.2.2, if_neg (by simp), if_neg (by simp [HK.out.2]), if_pos ⟨by rw [HK.out.1]; rfl, HSB.out⟩]
            rfl
        · have g1 : decide ((k : Int) = 2) = false := by simp; omega
          have g2 : ((k : Int) == 2) = false := by simp; omega
          have HK : Hid (k ≠ 2 ∧ List.zipWith and x (wnt k) = wnt k) := ⟨hk2, hz'⟩
          clear hk2 hz' e4 e5
          go_wp2
          go_ret
          refine ⟨?_, by first | exact HYB.out.1 | (rw [hn]; exact HYB.out.1)⟩
          unfold ofd
          rw [HL.out.1, HL.out.2.1, HL.out.2.2, if_neg (by simp), if_neg (by simp [HK.out.2]), if_neg (by have := HK.out.1; intro h; omega)]
          rfl
  | false =>
    obtain ⟨WN, hWN⟩ : ∃ A, bc (wnt k) = A := ⟨_, rfl⟩
    obtain ⟨ZW, hZW⟩ : ∃ A, bc (List.zipWith and x (wnt k)) = A := ⟨_, rfl⟩
    have CF : ∀ y, Calls Tryd.prog 58 #[.agg X, .agg WN] y fun e w' => e = .returned (.agg ZW) ∧ Below y.heap.size y w' := fun y => by
      rw [← HX.out, ← hWN, ← hZW]
      exact within_any x (wnt k) hx (wnt_len _) y
    have EQ : ∀ y, (Op.equalIn 10000 69 (.agg ZW) (.agg WN)).run Tryd.prog y = .ok (List.zipWith and x (wnt k) == wnt k) y := fun y => by
      rw [← hZW, ← hWN]
      exact eq_row (by simp [hx, wnt_len]) (wnt_len _) y
    have i9 : (Tryd.prog.info? 69).map (·.size) = some 9 := by kernel_rfl
    have iX : (Tryd.prog.info? 69).map (·.size) = some X.size := by
      have e9 : X.size = 9 := by rw [← HX.out]; simp [bc, hx]
      rw [e9]
      exact i9
    have HSX : Hid ((Tryd.prog.info? 69).map (·.size) = some 9 ∧ (Tryd.prog.info? 69).map (·.size) = some X.size ∧ bc (wnt k) = WN) := ⟨i9, iX, hWN⟩
    clear i9 iX hWN hZW
    go_upto_region 4 with fail
    clear c0 c1 c2
    refine Go.Pin.wp_region_cls (fun y => Below V.heap.size V y) (by kernel_rfl) (by kernel_rfl) ((Below.refl _ _).drew) ?_
    intro Sq fq hNq hRq hSq
    have y1 := fun x => (run_loadAt_mid (P := Tryd.prog) (fq x) (n + 1) 3 69 ((wnt k).map Value.bool) _ (range_mid (A := [.int .i64 (lf k 0), .int .i64 (lf k 1), .bool (onc k)]) (C := []) (by rw [List.append_nil]; exact (HYR.out _ (hRq x)).1) 3 rfl) Tryd.underlying69 rfl (by rw [List.length_map, wnt_len]; exact HSX.out.1)).trans (congrArg (fun A => Result.ok (Value.agg A) (fq x)) HSX.out.2.2)
    have y3 := fun x => run_loadAt_row (P := Tryd.prog) (fq x) n 69 69 X (0, 0) _ (HYR.out _ (hRq x)).2.1 Tryd.underlying69 rfl HSX.out.2.1
    have CF := fun x => CF (fq x)
    repeat (first | (refine Go.BigFrame.wpQuiet_want (by kernel_rfl) ?_; intro Kq hKq; (first | (refine Go.Pin.quiet_load 69 (.tmp 3) rfl _ rfl (.agg X) y3 ?_) | (refine Go.Pin.quiet_load 69 (.tmp 25) rfl _ rfl (.agg WN) y1 ?_) | (refine Go.Pin.quiet_load 69 (.tmp 28) rfl _ rfl (.agg WN) y1 ?_)); refine hKq _ ?_; clear hKq Kq; simp only [Act.put, List.setIfInBounds_toArray, List.set_cons_zero, List.set_cons_succ]) | go_big_quiet_step (exact (CF _).mono (fun e w' h => ⟨h.1, hSq _ ((hRq _).trans (h.2.mono (hRq _).size))⟩)))
    refine wpQuiet_nil ?_
    intro _ hw'
    obtain ⟨xq, hw''⟩ := hw'
    subst hw''
    have HYq := hRq xq
    generalize fq xq = y at HYq ⊢
    have hyB := (HYR.out y HYq).2.2
    have hyn := (HYR.out y HYq).2.1
    have hEy : Errs ea y := HE.out.below (by rw [hn]; exact hyB)
    have e4 := (hEy.1 11 (by decide)).1
    have e5 := (hEy.1 12 (by decide)).1
    simp only [eblk] at e4 e5
    have HYB : Hid (Below n w y ∧ y.heap[n]? = some (.cells X 69 (0, 0)) ∧ Errs ea y) := ⟨hyB, hyn, hEy⟩
    clear hRq hSq hNq xq fq Sq y1 y3 CF EQ HYq hyB hyn hEy
    cases hz : (List.zipWith and x (wnt k) == wnt k) with
    | false =>
      have hz' : ¬ (List.zipWith and x (wnt k) = wnt k) := by simpa using hz
      clear hz
      go_wp2
      go_ret
      refine ⟨?_, by first | exact HYB.out.1 | (rw [hn]; exact HYB.out.1)⟩
      unfold ofd
      rw [HL.out.1, HL.out.2.1, HL.out.2.2, if_neg (by simp), if_pos (by simp [hz'])]
      rfl
    | true =>
      have hz' : List.zipWith and x (wnt k) = wnt k := by simpa using hz
      clear hz
      by_cases hk2 : k = 2
      · have g1 : decide ((k : Int) = 2) = true := by simp [hk2]
        have g2 : ((k : Int) == 2) = true := by simp [hk2]
        have HK : Hid (k = 2 ∧ List.zipWith and x (wnt k) = wnt k) := ⟨hk2, hz'⟩
        have CS := rsafe_any x hx s hs y HYB.out.2.2.2
        rw [show rv x = .agg X by rw [← HX.out]; rfl] at CS
        obtain ⟨sb, hsb⟩ : ∃ b, sfr x s = b := ⟨_, rfl⟩
        rw [hsb] at CS
        have HSB : Hid (sfr x s = sb) := hsb
        have HCS : Hid _ := CS
        clear hk2 hz' hsb CS h1 h7 b1 b7
        cases sb with
        | true =>
          go_wp2_with (first
            | (with_reducible refine at_list ?_; refine load_row_w (by kernel_rfl) 69 (.tmp 3) rfl n rfl 69 X (0, 0) _ HYB.out.2.1 Tryd.underlying69 rfl HSX.out.2.1 ?_)
            | (go_at_call 36; refine Calls.mono HCS.out ?_; rintro e y2 ⟨rfl, hb2⟩; have HY2 : Hid (Below n w y2) := HYB.out.1.trans (hb2.mono (by have := HYB.out.1.size; omega)); have e5' := cellA_below hb2 e5; clear hb2 e5 e4))
          go_ret
          refine ⟨?_, by first | exact HY2.out | (rw [hn]; exact HY2.out)⟩
          unfold ofd
          rw [HL.out.1, HL.out.2.1, HL.out.2.2, if_neg (by simp), if_neg (by simp [HK.out.2]), if_neg (by simp [HSB.out])]
          rfl
        | false =>
          go_wp2_with (first
            | (with_reducible refine at_list ?_; refine load_row_w (by kernel_rfl) 69 (.tmp 3) rfl n rfl 69 X (0, 0) _ HYB.out.2.1 Tryd.underlying69 rfl HSX.out.2.1 ?_)
            | (go_at_call 36; refine Calls.mono HCS.out ?_; rintro e y2 ⟨rfl, hb2⟩; have HY2 : Hid (Below n w y2) := HYB.out.1.trans (hb2.mono (by have := HYB.out.1.size; omega)); have e5' := cellA_below hb2 e5; clear hb2 e5 e4))
          go_ret
          refine ⟨?_, by first | exact HY2.out | (rw [hn]; exact HY2.out)⟩
          unfold ofd
          rw [HL.out.1, HL.out.2.1, HL.out.2.2, if_neg (by simp), if_neg (by simp [HK.out.2]), if_pos ⟨by rw [HK.out.1]; rfl, HSB.out⟩]
          rfl
      · have g1 : decide ((k : Int) = 2) = false := by simp; omega
        have g2 : ((k : Int) == 2) = false := by simp; omega
        have HK : Hid (k ≠ 2 ∧ List.zipWith and x (wnt k) = wnt k) := ⟨hk2, hz'⟩
        clear hk2 hz' e4 e5
        go_wp2
        go_ret
        refine ⟨?_, by first | exact HYB.out.1 | (rw [hn]; exact HYB.out.1)⟩
        unfold ofd
        rw [HL.out.1, HL.out.2.1, HL.out.2.2, if_neg (by simp), if_neg (by simp [HK.out.2]), if_neg (by have := HK.out.1; intro h; omega)]
        rfl
end Go.Proofs.YtjhleocpipmklaaDoor
namespace Go.Proofs.YtjhleocpipmklaaDoor
set_option linter.unusedSimpArgs false
set_option linter.unusedVariables false
set_option maxRecDepth 100000
open Go.ChangeShapes Go.WideShapes Go.ChangeAt Go.RowKit Go.Pin Go.Pat Go.Deep
theorem getD_at {l : List Int} {i : Nat} (h : i < l.length) : l.getD i 0 = l[i] := by simp [List.getD, h]
def zr : List Bool := List.replicate 9 false
/-- a message's tokens, from a row on -/
def bk (s : Nat) : List Bool → List Int → List Bool × Int
  | r, [] => (r, 0)
  | r, t :: ts => if ofd r s t = 0 then bk s (r.set (lf t s) true) ts else (zr, ofd r s t)
def bhd (s : Nat) (r : List Bool) (ts : List Int) : List Bool × Int :=
  if (bk s r ts).2 ≠ 0 then (zr, (bk s r ts).2) else if sfr (bk s r ts).1 s then ((bk s r ts).1, 0) else (zr, 12)
theorem bk_len (s : Nat) (ts : List Int) : ∀ r : List Bool, r.length = 9 → (bk s r ts).1.length = 9 := by
  induction ts with
  | nil => intro r h; exact h
  | cons t ts ih =>
    intro r h
    unfold bk
    split
    · exact ih _ (by simp [h])
    · rfl
theorem bk_tks (s : Nat) (hs : s < 2) (ts : List Int) (ht : ∀ t ∈ ts, T7 t) : ∀ x : Sn, x.length = 12 → (bk s (nr x) ts).2 = (tks s x ts).2 ∧ ((tks s x ts).2 = 0 → (bk s (nr x) ts).1 = nr (tks s x ts).1) := by
  induction ts with
  | nil => intro x _; exact ⟨rfl, fun _ => rfl⟩
  | cons t ts ih =>
    intro x hx
    obtain ⟨h1, h2⟩ := ofd_tk x hx s hs t (ht t (by simp))
    unfold bk tks
    rw [h1]
    split
    · rename_i h0
      rw [← h2 h0]
      exact ih (fun u hu => ht u (by simp [hu])) _ (by rw [tk_length, hx])
    · rename_i h0
      exact ⟨rfl, fun h => absurd h h0⟩
theorem ofd_isC (r : List Bool) (s : Nat) (t : Int) : ofd r s t = 0 ∨ ofd r s t = 10 ∨ ofd r s t = 11 ∨ ofd r s t = 12 := by
  unfold ofd
  (repeat' split) <;> simp
theorem EV_ne {ea : Int → Addr} {c : Int} (h : c ≠ 0) : EV ea c = .iface 173 (.pointer (some (ea c))) := by unfold EV; rw [if_neg h]
theorem EV_0 (ea : Int → Addr) : EV ea 0 = .nilIface := rfl
theorem bc_size {r : List Bool} (h : r.length = 9) : (Tryd.prog.info? 69).map (·.size) = some (bc r).size := by
  have : (Tryd.prog.info? 69).map (·.size) = some 9 := by kernel_rfl
  rw [this]; simp [bc, h]
theorem bc_one (x : List Bool) : (bc x).all (·.oneCell') = true := by
  simp [Array.all_eq_true, bc, Value.oneCell']
/-- behind's three boxes -/
structure HX3 (n : Nat) (w : World) (s : Nat) (u : Value) (r : List Bool) (wr : World) : Prop where
  old : Below n w wr
  sz : n + 3 ≤ wr.heap.size
  hk : wr.heap[n]? = some (.cells (bc r) 69)
  hl : wr.heap[n + 1]? = some (.cells #[.int .i64 s, u] 43)
  hr : wr.heap[n + 2]? = some (.cells (bc zr) 69)
theorem HX3.below {n : Nat} {w wr w' : World} {s : Nat} {u : Value} {r : List Bool} (h : HX3 n w s u r wr) (hb : Below wr.heap.size wr w') : HX3 n w s u r w' :=
  ⟨h.old.trans (hb.mono (by have := h.sz; omega)), Nat.le_trans h.sz hb.size, (hb.block _ (by have := h.sz; omega)).trans h.hk, (hb.block _ (by have := h.sz; omega)).trans h.hl, (hb.block _ (by have := h.sz; omega)).trans h.hr⟩
theorem HX3.set {n : Nat} {w wr : World} {s : Nat} {u : Value} {r : List Bool} (h : HX3 n w s u r wr) (i : Nat) (b : Bool) : HX3 n w s u (r.set i b) (wr.setCell ⟨n, i, none⟩ (.bool b)) := by
  refine ⟨h.old.setCell (Nat.le_refl _) _, by simpa using h.sz, ?_, (heap_setCell_other _ _ _ _ (by simp)).trans h.hl, (heap_setCell_other _ _ _ _ (by simp)).trans h.hr⟩
  rw [Go.heap_setCell_same _ _ _ _ _ _ h.hk]
  simp [bc]
theorem HX3.l0 {n : Nat} {w wr : World} {s : Nat} {u : Value} {r : List Bool} (h : HX3 n w s u r wr) : wr.cell? ⟨n + 1, 0, none⟩ = some (.int .i64 s) := by rw [cell_of_row _ _ _ _ _ _ h.hl]; rfl
theorem HX3.l1 {n : Nat} {w wr : World} {s : Nat} {u : Value} {r : List Bool} (h : HX3 n w s u r wr) : wr.cell? ⟨n + 1, 1, none⟩ = some u := by rw [cell_of_row _ _ _ _ _ _ h.hl]; rfl
theorem HX3.rc {n : Nat} {w wr : World} {s : Nat} {u : Value} {r : List Bool} (h : HX3 n w s u r wr) {i : Nat} (hi : i < r.length) : wr.cell? ⟨n, i, none⟩ = some (.bool (r.getD i false)) := by
  rw [cell_of_row _ _ _ _ _ _ h.hk]
  simp [bc, List.getD, hi]
theorem HX3.free {n : Nat} {w wr : World} {s : Nat} {u : Value} {r : List Bool} (h : HX3 n w s u r wr) (i : Nat) : wr.frozen? ⟨n, i, none⟩ = false := frozen_of_row _ _ _ _ _ h.hk
theorem HX3.z {n : Nat} {w wr : World} {s : Nat} {u : Value} {r : List Bool} (h : HX3 n w s u r wr) (i : Nat) (hi : i < 9) : HX3 n w s u r (wr.setCell ⟨n + 1 + 1, i, none⟩ (.bool false)) := by
  refine ⟨h.old.setCell (by show n ≤ n + 1 + 1; omega) _, by simpa using h.sz, (heap_setCell_other _ _ _ _ (by simp; omega)).trans h.hk, (heap_setCell_other _ _ _ _ (by simp)).trans h.hl, ?_⟩
  rw [show n + 2 = n + 1 + 1 from rfl, Go.heap_setCell_same _ _ _ _ _ _ h.hr]
  have : (bc zr).setIfInBounds i (.bool false) = bc zr := by
    rcases (by omega : i = 0 ∨ i = 1 ∨ i = 2 ∨ i = 3 ∨ i = 4 ∨ i = 5 ∨ i = 6 ∨ i = 7 ∨ i = 8) with rfl | rfl | rfl | rfl | rfl | rfl | rfl | rfl | rfl <;> rfl
  rw [← this]
  simp
theorem HX3.drew {n : Nat} {w wr : World} {s : Nat} {u : Value} {r : List Bool} (h : HX3 n w s u r wr) : HX3 n w s u r wr.drew := h.below (drew_below (Below.refl _ _))
theorem HX3.zc {n : Nat} {w wr : World} {s : Nat} {u : Value} {r : List Bool} (h : HX3 n w s u r wr) (i : Nat) (hi : i < 9) : wr.cell? ⟨n + 1 + 1, i, none⟩ = some (.bool false) ∧ wr.frozen? ⟨n + 1 + 1, i, none⟩ = false := by
  refine ⟨?_, frozen_of_row _ _ _ _ _ h.hr⟩
  rw [cell_of_row _ _ _ _ _ _ h.hr]
  rcases (by omega : i = 0 ∨ i = 1 ∨ i = 2 ∨ i = 3 ∨ i = 4 ∨ i = 5 ∨ i = 6 ∨ i = 7 ∨ i = 8) with rfl | rfl | rfl | rfl | rfl | rfl | rfl | rfl | rfl <;> rfl
theorem hx3_start (w : World) (s : Nat) (u : Value) (r : List Bool) : HX3 w.heap.size w s u r (((w.alloc (.cells (bc r) 69)).alloc (.cells #[.int .i64 s, u] 43)).alloc (.cells (bc zr) 69)) := by
  refine ⟨(((Below.refl _ _).alloc (Nat.le_refl _) _).alloc (by simp) _).alloc (by simp; omega) _, by simp [size_alloc], ?_, ?_, ?_⟩
  all_goals simp only [heap_alloc_any, size_alloc]
  · rw [if_neg (by omega), if_neg (by omega), if_pos trivial]
  · rw [if_neg (by omega), if_pos trivial]
  · rw [if_pos trivial]
set_option maxHeartbeats 4000000 in
theorem behind_any {ea : Int → Addr} (r : List Bool) (hr : r.length = 9) (s : Nat) (hs : s < 2) (u : Value) (ts : List Int) (ht : ∀ t ∈ ts, T7 t) (w : World) (hu : RdN w u ts) (hE : Errs ea w) :
    Calls Tryd.prog 35 #[rv r, .agg #[.int .i64 s, u]] w fun e w' => e = .returned (.tuple #[rv (bhd s r ts).1, EV ea (bhd s r ts).2]) ∧ Below w.heap.size w w' := by
  obtain ⟨a, cap, rfl, _, hm, _⟩ := id hu
  have hat := hu.at.2.2
  have hst := hx3_start w s (.slice a ts.length cap) r
  obtain ⟨n, hn⟩ : ∃ n, w.heap.size = n := ⟨_, rfl⟩
  obtain ⟨L, hL⟩ : ∃ L, ts.length = L := ⟨_, rfl⟩
  rw [hn, hL] at hst
  rw [hL] at hm hat
  rw [hn] at hat
  obtain ⟨W, hW⟩ : ∃ W, ((w.alloc (.cells (bc r) 69)).alloc (.cells #[.int .i64 s, .slice a L cap] 43)).alloc (.cells (bc zr) 69) = W := ⟨_, rfl⟩
  rw [hW] at hst
  have HS : Hid (HX3 n w s (.slice a L cap) r W) := hst
  have hW' : ((w.alloc (.cells (bc r) 69)).alloc (.cells #[.int .i64 s, .slice a L cap] 43)).alloc (.cells #[.bool false, .bool false, .bool false, .bool false, .bool false, .bool false, .bool false, .bool false, .bool false] 69) = W := hW
  have e : rv r = .agg (bc r) := rfl
  rw [e, hL]
  have HAT : Hid (∀ j, j < L → _) := hat
  have HM : Hid (L ≤ 140737488355328 ∧ ts.length = L) := ⟨hm, hL⟩
  have HE : Hid (∀ y, Below n w y → Errs ea y) := fun y hy => hE.below (by rw [hn]; exact hy)
  have HTT : Hid (∀ t ∈ ts, T7 t) := ht
  obtain ⟨R0, hR0⟩ : ∃ R, bc r = R := ⟨_, rfl⟩
  rw [hR0] at hW'
  rw [hR0]
  have l1 := hst.l1
  clear hst hat hm hE hW e hu ht hL
  go_enter Tryd.func35, Tryd.ntmps35
  go_wp2
  clear l1 hW'
  go_loopw [12] (fun v12 wr => ∃ (i : Nat) (r' : List Bool), i ≤ L ∧ v12 = .int .i64 i ∧ r'.length = 9 ∧ bk s r ts = bk s r' (ts.drop i) ∧ HX3 n w s (.slice a L cap) r' wr) (fun v _ => L - (intOf v).toNat)
  case atStart => exact ⟨0, r, Nat.zero_le _, rfl, hr, rfl, HS.out⟩
  case round =>
    obtain ⟨i, r', hi, rfl, hr', hbk, hx⟩ := hrel
    have HX : Hid (HX3 n w s (.slice a L cap) r' wr) := hx
    have HR : Hid (r'.length = 9) := hr'
    by_cases hlt : i < L
    · have b1 : (i : Int) < (L : Int) := by omega
      have bL : (L : Int) ≤ 140737488355328 := by have := HM.out.1; omega
      obtain ⟨b, o, rfl, hc⟩ := HAT.out i hlt
      have htt : T7 (ts.getD i 0) := HTT.out _ (by rw [getD_at (by rw [HM.out.2]; exact hlt)]; exact List.getElem_mem _)
      obtain ⟨k, hk⟩ : ∃ k : Nat, ts.getD i 0 = (k : Int) := ⟨(ts.getD i 0).toNat, by unfold T7 at htt; omega⟩
      have hk1 : 1 ≤ k ∧ k ≤ 7 := by unfold T7 at htt; omega
      have hdr : ts.drop i = (k : Int) :: ts.drop (i + 1) := by
        rw [List.drop_eq_getElem_cons (by rw [HM.out.2]; exact hlt), ← hk, getD_at (by rw [HM.out.2]; exact hlt)]
      rw [hk] at hc
      have cT := hc wr hx.old
      have l0 := hx.l0
      have CO := offended_any (ea := ea) r' hr' s hs k hk1.1 hk1.2 wr (HE.out wr hx.old)
      rw [show rv r' = .agg (bc r') from rfl] at CO
      have hlf := lf_lt (t := (k : Int)) ⟨by omega, by omega⟩ hs
      obtain ⟨R, hR⟩ : ∃ R, bc r' = R := ⟨_, rfl⟩
      have HRR : Hid (bc r' = R) := hR
      rw [hR] at CO
      have HG : Hid (∀ y, HX3 n w s (.slice (some ⟨b, o, none⟩) L cap) r' y → y.heap[n]? = some (.cells R 69) ∧ (Tryd.prog.info? 69).map (·.size) = some R.size) := fun y hy => by rw [← hR]; exact ⟨hy.hk, bc_size hr'⟩
      have bi : (i : Int) + 1 ≤ 140737488355329 := by omega
      by_cases hc0 : ofd r' s k = 0
      · have HB : Hid (bk s r ts = bk s (r'.set (lf k s) true) (ts.drop (i + 1))) := by
          show bk s r ts = _
          rw [hbk, hdr, bk, if_pos hc0]
        rw [hc0, EV_0] at CO
        have HCO : Hid _ := CO
        clear CO hc0 hbk hdr htt hk hc hR hr' hx hi
        go_upto_region 7 with (first
          | (with_reducible refine at_list ?_; refine wpList_load_row rfl 69 (.tmp 2) rfl n rfl 69 R (0, 0) _ (HG.out _ HX.out).1 Tryd.underlying69 rfl (HG.out _ HX.out).2 ?_)
          | (go_at_call 57; refine Calls.mono HCO.out ?_; rintro e y ⟨rfl, hb⟩; have HY : Hid (HX3 n w s (.slice (some ⟨b, o, none⟩) L cap) r' y) := HX.out.below hb; clear hb l0 cT))
        obtain ⟨l, hl⟩ : ∃ l, lf k s = l := ⟨_, rfl⟩
        rw [hl] at hlf
        have HL : Hid (lf k s = l) := hl
        have rl := rules_at (HE.out y HY.out.old).2.rules k hk1.1 hk1.2 s (.int .i64 l) (by rw [← hl]; rcases (by omega : s = 0 ∨ s = 1) with rfl | rfl <;> rfl)
        have l0 := HY.out.l0
        have cl := HY.out.rc (i := l) (by rw [HR.out]; exact hlf)
        have fl := HY.out.free l
        have bl : (l : Int) < 9 := by omega
        have bk1 : (1 : Int) ≤ k := by omega
        have bk7 : (k : Int) < 8 := by omega
        have bs : (s : Int) < 2 := by omega
        clear hl
        go_region
        have HY2 : Hid (HX3 n w s (.slice (some ⟨b, o, none⟩) L cap) (r'.set l true) (y.setCell ⟨n, l, none⟩ (.bool true)).drew) := (HY.out.set l true).drew
        clear rl l0 cl fl
        go_wp2
        exact ⟨⟨i + 1, _, hlt, congrArg (Value.int .i64) (by omega), by rw [List.length_set]; exact HR.out, by rw [← HL.out]; exact HB.out, HY2.out⟩, by show L - ((i : Int) + 1).toNat < L - ((i : Int)).toNat; omega⟩
      · have HB : Hid ((bk s r ts).2 = ofd r' s k ∧ ofd r' s k ≠ 0) := by
          show (bk s r ts).2 = _ ∧ _
          rw [hbk, hdr, bk, if_neg hc0]
          exact ⟨rfl, hc0⟩
        rw [EV_ne hc0] at CO
        have HCO : Hid _ := CO
        clear CO hc0 hbk hdr htt hk hc hR hr' hx hi
        go_wp2_with (first
          | (with_reducible refine at_list ?_; refine wpList_load_row rfl 69 (.tmp 2) rfl n rfl 69 R (0, 0) _ (HG.out _ HX.out).1 Tryd.underlying69 rfl (HG.out _ HX.out).2 ?_)
          | (go_at_call 57; refine Calls.mono HCO.out ?_; rintro e y ⟨rfl, hb⟩; have HY : Hid (HX3 n w s (.slice (some ⟨b, o, none⟩) L cap) r' y) := HX.out.below hb; clear hb l0 cT)
          | (with_reducible refine at_list ?_; refine wpList_store_row rfl 69 (.tmp 4) (.tmp 23) rfl (n + 2) (bc zr) rfl rfl 69 (bc zr) HY.out.hr (bc_size rfl) rfl (bc_one _) ?_))
        refine bodyPost_ret (v := .tuple #[.agg (bc zr), .iface 173 (.pointer (some (ea (ofd r' s k))))]) ?_ rfl ⟨?_, below_setRow (by rw [hn]; exact HY.out.old) _ (by rw [hn]; omega) _⟩
        · exact results_row_tmp (P := Tryd.prog) (fn := Tryd.f35) (p := 4) (u := 5) (ty := 69) rfl _ _ (n + 2) 69 (bc zr) (0, 0) _ _ rfl (setRow_heap _ _ _ _ 69 _ HY.out.hr) Tryd.underlying69 rfl (bc_size rfl) rfl
        · have hb2 : bhd s r ts = (zr, ofd r' s k) := by
            unfold bhd
            rw [if_pos (by rw [HB.out.1]; exact HB.out.2), HB.out.1]
          rw [hb2, EV_ne HB.out.2]
          rfl
    · have b1 : ¬ (i : Int) < (L : Int) := by omega
      have hdr : ts.drop i = [] := List.drop_eq_nil_of_le (by rw [HM.out.2]; omega)
      have l0 := hx.l0
      have CS := rsafe_any r' hr' s hs wr (HE.out wr hx.old).2
      rw [show rv r' = .agg (bc r') from rfl] at CS
      obtain ⟨R, hR⟩ : ∃ R, bc r' = R := ⟨_, rfl⟩
      rw [hR] at CS
      have HG : Hid (∀ y, HX3 n w s (.slice a L cap) r' y → y.heap[n]? = some (.cells R 69) ∧ (Tryd.prog.info? 69).map (·.size) = some R.size ∧ R.all (·.oneCell') = true) := fun y hy => by rw [← hR]; exact ⟨hy.hk, bc_size hr', bc_one _⟩
      have HB : Hid (bk s r ts = (r', 0) ∧ bc r' = R ∧ R.size = (bc zr).size) := ⟨by rw [hbk, hdr]; rfl, hR, by rw [← hR]; simp [bc, hr', zr]⟩
      clear hbk hdr hR hr' hx hi
      cases hsb : sfr r' s with
      | true =>
        have HSB : Hid (bhd s r ts = (r', 0)) := by
          show bhd s r ts = (r', 0)
          unfold bhd
          rw [HB.out.1, if_neg (by simp), hsb]
          rfl
        rw [hsb] at CS
        have HCS : Hid _ := CS
        clear CS hsb
        go_wp2_with (first
          | (with_reducible refine at_list ?_; refine wpList_load_row rfl 69 (.tmp 2) rfl n rfl 69 R (0, 0) _ (HG.out _ HX.out).1 Tryd.underlying69 rfl (HG.out _ HX.out).2.1 ?_)
          | (go_at_call 36; refine Calls.mono HCS.out ?_; rintro e y ⟨rfl, hb⟩; have HY : Hid (HX3 n w s (.slice a L cap) r' y) := HX.out.below hb; clear hb l0)
          | (with_reducible refine at_list ?_; refine wpList_load_row rfl 69 (.tmp 2) rfl n rfl 69 R (0, 0) _ (HG.out _ HY.out).1 Tryd.underlying69 rfl (HG.out _ HY.out).2.1 ?_)
          | (with_reducible refine at_list ?_; refine wpList_store_row rfl 69 (.tmp 4) (.tmp 41) rfl (n + 2) R rfl rfl 69 (bc zr) HY.out.hr (HG.out _ HY.out).2.1 HB.out.2.2.symm (HG.out _ HY.out).2.2 ?_))
        refine bodyPost_ret (v := .tuple #[.agg R, .nilIface]) ?_ rfl ⟨?_, below_setRow (by rw [hn]; exact HY.out.old) _ (by rw [hn]; omega) _⟩
        · exact results_row_tmp (P := Tryd.prog) (fn := Tryd.f35) (p := 4) (u := 5) (ty := 69) rfl _ _ (n + 2) 69 R (0, 0) _ _ rfl (setRow_heap _ _ _ _ 69 _ HY.out.hr) Tryd.underlying69 rfl (HG.out _ HY.out).2.1 rfl
        · rw [HSB.out, ← HB.out.2.1]
          rfl
      | false =>
        have HSB : Hid (bhd s r ts = (zr, 12)) := by
          show bhd s r ts = (zr, 12)
          unfold bhd
          rw [HB.out.1, if_neg (by simp), hsb]
          rfl
        rw [hsb] at CS
        have HCS : Hid _ := CS
        clear CS hsb
        go_upto_region 10 with (first
          | (with_reducible refine at_list ?_; refine wpList_load_row rfl 69 (.tmp 2) rfl n rfl 69 R (0, 0) _ (HG.out _ HX.out).1 Tryd.underlying69 rfl (HG.out _ HX.out).2.1 ?_)
          | (go_at_call 36; refine Calls.mono HCS.out ?_; rintro e y ⟨rfl, hb⟩; have HY : Hid (HX3 n w s (.slice a L cap) r' y) := HX.out.below hb; clear hb l0))
        have e5 := ((HE.out y HY.out.old).1 12 (by decide)).1
        simp only [eblk] at e5
        obtain ⟨p0, q0⟩ := HY.out.zc 0 (by decide)
        obtain ⟨p1, q1⟩ := HY.out.zc 1 (by decide)
        obtain ⟨p2, q2⟩ := HY.out.zc 2 (by decide)
        obtain ⟨p3, q3⟩ := HY.out.zc 3 (by decide)
        obtain ⟨p4, q4⟩ := HY.out.zc 4 (by decide)
        obtain ⟨p5, q5⟩ := HY.out.zc 5 (by decide)
        obtain ⟨p6, q6⟩ := HY.out.zc 6 (by decide)
        obtain ⟨p7, q7⟩ := HY.out.zc 7 (by decide)
        obtain ⟨p8, q8⟩ := HY.out.zc 8 (by decide)
        have b5 : 4 < n := by
          have h0 := ((HE.out w (Below.refl _ _)).1 12 (by decide)).1
          have := World.block_lt_of_cell? w _ h0
          rw [hn] at this
          exact this
        have n5 : ¬ 4 = n + 1 + 1 := by omega
        have n5' : ¬ n + 1 + 1 = 4 := by omega
        go_region
        have HZ : Hid _ := ((((((((((HY.out.z 0 (by decide)).z 1 (by decide)).z 2 (by decide)).z 3 (by decide)).z 4 (by decide)).z 5 (by decide)).z 6 (by decide)).z 7 (by decide)).z 8 (by decide)).drew)
        clear e5 p0 q0 p1 q1 p2 q2 p3 q3 p4 q4 p5 q5 p6 q6 p7 q7 p8 q8
        generalize World.drew _ = Z at HZ ⊢
        go_wp2
        refine bodyPost_ret (v := .tuple #[.agg (bc zr), .iface 173 (.pointer (some (ea 12)))]) ?_ rfl ⟨?_, by rw [hn]; exact HZ.out.old⟩
        · exact results_row_tmp (P := Tryd.prog) (fn := Tryd.f35) (p := 4) (u := 5) (ty := 69) rfl _ _ (n + 2) 69 (bc zr) (0, 0) _ _ rfl HZ.out.hr Tryd.underlying69 rfl (bc_size rfl) rfl
        · rw [HSB.out]
          rfl
end Go.Proofs.YtjhleocpipmklaaDoor
