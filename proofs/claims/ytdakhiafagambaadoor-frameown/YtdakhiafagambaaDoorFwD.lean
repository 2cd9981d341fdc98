import Derived.Test.YtdakhiafagambaaDoorFwG
/- stage 20: FrameOwn -/
namespace Go.Proofs.YtdakhiafagambaaDoor
set_option linter.unusedSimpArgs false
set_option linter.unusedVariables false
set_option maxRecDepth 100000
open Go.ChangeShapes Go.WideShapes Go.ChangeAt Go.RowKit Go.Pin
set_option maxHeartbeats 16000000 in
theorem own20_walk {ea : Int → Addr} {rep : Nat → List Int → List Nat → World → Prop} (hP : PutC) (hR : RdrC rep) (v vl : Value) (Ms : List (List Int)) (La : List Int) (W : World) (hE : Errs ea W) (hS : PRd W v Ms) (hL : RdY W vl La) :
    Calls Tryd.prog 8 #[v, vl] W fun e w' => e = .returned (.bool true) ∧ Below W.heap.size W w' := by
  have CS := long_any v Ms W hS
  have hSB := fun Y (hY : Below W.heap.size W Y) => hS.below hY
  have hLB := fun Y (hY : Below W.heap.size W Y) => hL.1.below hY
  obtain ⟨a, cap, rfl, -, hm, -⟩ := hS
  obtain ⟨al, cl, rfl, ⟨hcl, -⟩, hml, -⟩ := id hL.1
  obtain ⟨q, hq⟩ : ∃ q, W.heap.size = q := ⟨_, rfl⟩
  obtain ⟨n, hn⟩ : ∃ n, Ms.length = n := ⟨_, rfl⟩
  obtain ⟨nl, hnl⟩ : ∃ n, La.length = n := ⟨_, rfl⟩
  simp only [hn, hnl, hq] at CS hm hml hSB hLB hcl ⊢
  have HE : Hid (∀ y, Below q W y → Errs ea y ∧ q ≤ y.heap.size) := fun y hy => ⟨hE.below (by rw [hq]; exact hy), by have := hy.size; omega⟩
  have HAT : Hid (∀ Y, Below q W Y → ∀ i, i < n → ∃ b o u, a = some ⟨b, o, none⟩ ∧ Y.cell? ⟨b, o + i, none⟩ = some u ∧ RdY Y u (Ms.getD i [])) := fun Y hY i hi => by
    obtain ⟨a', c', e, -, -, h⟩ := hSB Y hY
    injection e with e1 e2 e3
    subst e1
    exact h i (by rw [hn]; exact hi)
  have HLA : Hid (∀ Y, Below q W Y → RdB Y (.slice al nl cl) La) := hLB
  have HN : Hid (n ≤ 140737488355328 ∧ Ms.length = n ∧ nl ≤ 140737488355328 ∧ La.length = nl ∧ nl ≤ cl ∧ W.heap.size = q) := ⟨hm, hn, hml, hnl, hcl, hq⟩
  have HYL : Hid (Byb La) := hL.2
  have HYM : Hid (∀ i, i < n → Byb (Ms.getD i [])) := fun i hi => by
    obtain ⟨b, o, u, _, _, h⟩ := HAT.out W (Below.refl _ _) i hi
    exact h.2
  have HR : Hid (RdrC rep) := hR
  have HP : Hid PutC := hP
  unfold FwP at CS
  by_cases hsm : n ≤ 40 ∧ nl ≤ 1000
  rotate_left
  · have HB : Hid (¬ (n ≤ 40 ∧ nl ≤ 1000)) := hsm
    by_cases h40 : n ≤ 40
    · have d1 : ¬ (n : Int) > 40 := by omega
      have d2 : ¬ (40 : Int) < (n : Int) := by omega
      have d3 : (nl : Int) > 1000 := by omega
      have d4 : (1000 : Int) < (nl : Int) := by omega
      clear hE hm hml hn hnl hR hP hSB hLB hq hcl hL hsm h40
      go_enter Tryd.func8, Tryd.ntmps8
      go_wp2_with (go_at_call 22; refine CS.mono ?_; rintro e w1 ⟨b, rfl, hf, rfl⟩; clear CS hf; rcases b with _ | _)
      all_goals
        go_ret
        exact ⟨rfl, Below.refl _ _⟩
    · have d1 : (n : Int) > 40 := by omega
      have d2 : (40 : Int) < (n : Int) := by omega
      clear hE hm hml hn hnl hR hP hSB hLB hq hcl hL hsm h40
      go_enter Tryd.func8, Tryd.ntmps8
      go_wp2_with (go_at_call 22; refine CS.mono ?_; rintro e w1 ⟨b, rfl, hf, rfl⟩; clear CS hf; rcases b with _ | _)
      all_goals
        go_ret
        exact ⟨rfl, Below.refl _ _⟩
  obtain ⟨h40, h1000⟩ := hsm
  have d1 : ¬ (n : Int) > 40 := by omega
  have d2 : ¬ (40 : Int) < (n : Int) := by omega
  have d3 : ¬ (nl : Int) > 1000 := by omega
  have d4 : ¬ (1000 : Int) < (nl : Int) := by omega
  have HSM : Hid (n ≤ 40 ∧ nl ≤ 1000) := ⟨h40, h1000⟩
  have hz := HR.out.zero W
  have hal1 : Below W.heap.size W (W.alloc (.cells zRd 39)) := (Below.refl _ _).alloc (Nat.le_refl _) _
  have H0 : Hid (S1 rep q W Ms 0 (.slice none 0 0) (.slice none 0 0) (W.alloc (.cells zRd 39))) := by
    rw [hq] at hz hal1
    refine ⟨[], ⟨hal1, by have := hal1.size; omega, hz, fun k hk => by rw [List.mem_singleton.1 hk]; exact Nat.le_refl _, own_nil0 _ _ _ _, (fun k hk => nomatch hk), fun t u hu => ?_, fun t u hu k hk => ?_, fun s t u u' k hs ht _ _ => ?_⟩, by simp [dbl], by simp⟩
    · have := (List.getElem?_eq_some_iff.1 hu).1
      simp at this
      subst this
      injection hu with hu
      subst hu
      exact own_nil0 _ _ _ _
    · have := (List.getElem?_eq_some_iff.1 hu).1
      simp at this
      subst this
      injection hu with hu
      subst hu
      cases hk
    · have := (List.getElem?_eq_some_iff.1 hs).1
      have := (List.getElem?_eq_some_iff.1 ht).1
      simp at *
      omega
  have hq2 : W.heap.size = q := hq
  clear hE hm hml hn hnl hR hP hSB hLB hq hcl hL hz hal1 h40 h1000
  go_enter Tryd.func8, Tryd.ntmps8
  go_upto_if 43 with (go_at_call 22; refine CS.mono ?_; rintro e w1 ⟨b, rfl, hf, rfl⟩; have HF : Hid (b = false → Few n Ms) := hf; clear CS hf; rcases b with _ | _)
  rotate_left
  · go_wp2
    go_ret
    exact ⟨rfl, Below.refl _ _⟩
  have HFW : Hid (n ≤ 400 ∧ tot Ms ≤ 262144) := HF.out trivial
  have HLL : Hid (∀ i, (lin (Ms.take i)).length ≤ 262944) := fun i => by
    have := HFW.out
    have := tot_le Ms i
    have := HN.out.2.1
    rw [lin_len, List.length_take]
    omega
  clear HF
  go_upto_region 4 with (fail)
  obtain ⟨W1, hW1⟩ : ∃ W1, w1.alloc (.cells zRd 39) = W1 := ⟨_, rfl⟩
  rw [hW1] at H0
  simp only [hW1, hq2]
  clear hW1 hq2
  go_wp2
  go_loopw [6, 7, 8] (fun v6 v7 v8 wr => ∃ (i n6 : Nat) (a6 a7 : Option Addr) (c6 c7 : Nat), i ≤ n ∧ v8 = .int .i64 i ∧ v6 = .slice a6 n6 c6 ∧ v7 = .slice a7 (2 * i) c7 ∧ S1 rep q w1 Ms i (.slice a6 n6 c6) (.slice a7 (2 * i) c7) wr) (fun _ _ v _ => n - (intOf v).toNat)
  case atStart => exact ⟨0, 0, none, none, 0, 0, Nat.zero_le _, rfl, rfl, rfl, H0.out⟩
  case round =>
    obtain ⟨i, n6, a6, a7, c6, c7, hi, rfl, rfl, rfl, hp⟩ := hrel
    have HS : Hid (S1 rep q w1 Ms i (.slice a6 n6 c6) (.slice a7 (2 * i) c7) wr) := hp
    obtain ⟨U, hro, hU2, hms⟩ := hp
    by_cases hlt : i < n
    · as_aux_lemma =>
        have c1 : (i : Int) < (n : Int) := by omega
        have c0 : (0 : Int) ≤ (i : Int) := by omega
        obtain ⟨b, o, u, rfl, x1, hx⟩ := HAT.out wr hro.lo i hlt
        obtain ⟨au, cu, rfl, -, hul, -⟩ := id hx.1
        have HLT : Hid (i < n) := hlt
        by_cases hbig : 65535 < (Ms.getD i []).length
        · obtain ⟨m, hmm⟩ : ∃ m, (Ms.getD i []).length = m := ⟨_, rfl⟩
          rw [hmm] at x1 hbig
          have b1 : (m : Int) > 65535 := by omega
          have b2 : (65535 : Int) < (m : Int) := by omega
          have HB : Hid (Below q w1 wr) := hro.lo
          clear hro hU2 hms hx hul hmm hbig hi hlt
          go_wp2
          go_ret
          exact ⟨rfl, HB.out⟩
        · have C1 := put_new HP.out (HE.out _ hro.lo).1 hx.1 (by omega)
          have HMM : Hid ((Ms.getD i []).length ≤ 65535) := by show (Ms.getD i []).length ≤ 65535; omega
          have HX : Hid (RdB wr (.slice au (Ms.getD i []).length cu) (Ms.getD i [])) := hx.1
          have HRO : Hid (RO rep q w1 q [] [q] (.slice a7 (2 * i) c7) (U.map (·.1)) ((.slice a6 n6 c6, lin (Ms.take i)) :: U) wr) := hro
          obtain ⟨m, hmm⟩ : ∃ m, (Ms.getD i []).length = m := ⟨_, rfl⟩
          rw [hmm] at x1 hbig C1
          have HM2 : Hid ((Ms.getD i []).length = m) := hmm
          have b1 : ¬ (m : Int) > 65535 := by omega
          have b2 : ¬ (65535 : Int) < (m : Int) := by omega
          have HX1 : Hid (∀ Y, Below wr.heap.size wr Y → Y.cell? ⟨b, o + i, none⟩ = some (.slice au m cu)) := fun Y hY => cell_below hY x1
          have HU : Hid (U.map (·.2) = dbl (Ms.take i) ∧ ∀ M ∈ Ms.take i, M.length ≤ 65535) := ⟨hU2, hms⟩
          clear hro hU2 hms hx hul hmm hbig hi hlt
          go_upto_region 12 with (go_at_call 10; refine C1.mono ?_; rintro e w2 ⟨a9, c9, rfl, ho, hb2⟩; have H2 : Hid (Below wr.heap.size wr w2 ∧ RO rep q w1 q [] [q] (.slice a7 (2 * i) c7) (U.map (·.1)) ((.slice a6 n6 c6, lin (Ms.take i)) :: U ++ [(.slice a9 (m + 2) c9, frm (Ms.getD i []))]) w2) := ⟨hb2, HRO.out.put HR.out hb2 ho⟩; clear ho hb2 C1 x1)
          have x1 := HX1.out w2 H2.out.1
          have C1 := put_new HP.out (HE.out _ H2.out.2.lo).1 (HX.out.below H2.out.1) HMM.out
          rw [HM2.out] at C1
          go_upto_region 13 with (go_at_call 10; refine C1.mono ?_; rintro e w3 ⟨a11, c11, rfl, ho, hb3⟩; have H3 : Hid (RO rep q w1 q [] [q] (.slice a7 (2 * i) c7) (U.map (·.1)) ((.slice a6 n6 c6, lin (Ms.take i)) :: U ++ [(.slice a9 (m + 2) c9, frm (Ms.getD i []))] ++ [(.slice a11 (m + 2) c11, frm (Ms.getD i []))]) w3) := H2.out.2.put HR.out hb3 ho; clear ho hb3 C1 x1)
          have hUl : U.length = 2 * i := U_len HU.out.1 (by have := HN.out; have := HLT.out; omega)
          have happ := H3.out.app HR.out [.slice a9 (m + 2) c9, .slice a11 (m + 2) c11] 2 rfl (by simp [Value.oneCell']) (by rw [List.length_map]; have := HSM.out; have := HLT.out; omega)
          rw [List.length_map, hUl] at happ
          have HA : Hid _ := happ
          clear happ
          go_upto_region 14 with (at_builtin; go_loud (refine wpList_app _ rfl _ _ 53 53 rfl _ _ rfl rfl HA.out ?_; rintro v77 w4 ⟨h4, ⟨a77, c77, rfl⟩⟩; have H4 : Hid (RO rep q w1 q [] [q] (.slice a77 (2 * i + 2) c77) (U.map (·.1) ++ [.slice a9 (m + 2) c9, .slice a11 (m + 2) c11]) ((.slice a6 n6 c6, lin (Ms.take i)) :: (U ++ [(.slice a9 (m + 2) c9, frm (Ms.getD i []))] ++ [(.slice a11 (m + 2) c11, frm (Ms.getD i []))])) w4) := h4; clear h4 HA))
          have hrd : RdB w4 (.slice a9 (m + 2) c9) (frm (Ms.getD i [])) := own_byt (H4.out.us (U.length + 1) (.slice a9 (m + 2) c9, frm (Ms.getD i [])) (by simp)) (by rw [frm_len]; have := HMM.out; omega)
          have hn6 : n6 = (lin (Ms.take i)).length := by
            obtain ⟨a, c, e⟩ := own_slice' (H4.out.us 0 _ rfl)
            injection e
          have happ := H4.out.line HR.out hrd (by have := HLL.out i; rw [frm_len]; have := HMM.out; omega)
          rw [← hn6, frm_len, HM2.out] at happ
          have HA : Hid _ := happ
          have HSN : Hid (lin (Ms.take (i + 1)) = lin (Ms.take i) ++ frm (Ms.getD i []) ∧ dbl (Ms.take (i + 1)) = dbl (Ms.take i) ++ [frm (Ms.getD i []), frm (Ms.getD i [])]) := ⟨lin_snoc Ms (by rw [HN.out.2.1]; exact HLT.out), dbl_snoc Ms (by rw [HN.out.2.1]; exact HLT.out)⟩
          clear happ hrd hUl hn6
          go_upto_region 8 with (at_builtin; go_loud (refine wpList_app _ rfl _ _ 22 22 rfl _ _ rfl rfl HA.out ?_; rintro v81 w5 ⟨h5, ⟨a81, c81, rfl⟩⟩; have H5a : Hid (RO rep q w1 q [] [q] (.slice a77 (2 * i + 2) c77) (U.map (·.1) ++ [.slice a9 (m + 2) c9, .slice a11 (m + 2) c11]) ((.slice a81 (n6 + (m + 2)) c81, lin (Ms.take i) ++ frm (Ms.getD i [])) :: (U ++ [(.slice a9 (m + 2) c9, frm (Ms.getD i []))] ++ [(.slice a11 (m + 2) c11, frm (Ms.getD i []))])) w5) := h5; clear h5 HA))
          have H5 : Hid (S1 rep q w1 Ms (i + 1) (.slice a81 (n6 + (m + 2)) c81) (.slice a77 (2 * (i + 1)) c77) w5) := ⟨U ++ [(.slice a9 (m + 2) c9, frm (Ms.getD i []))] ++ [(.slice a11 (m + 2) c11, frm (Ms.getD i []))], by rw [HSN.out.1, show 2 * (i + 1) = 2 * i + 2 from rfl]; simpa using H5a.out, by rw [HSN.out.2, ← HU.out.1]; simp, take_snoc HU.out.2 HMM.out⟩
          clear H5a
          go_wp2
          refine ⟨⟨i + 1, n6 + (m + 2), a81, a77, c81, c77, HLT.out, congrArg (Value.int .i64) (Int.natCast_succ i).symm, rfl, rfl, H5.out⟩, meas1 HLT.out⟩
    · have c1 : ¬ (i : Int) < (n : Int) := by omega
      obtain rfl : n = i := by omega
      have hta : Ms.take n = Ms := List.take_of_length_le (by rw [HN.out.2.1]; exact Nat.le_refl _)
      rw [hta] at hro hU2 hms
      have HMS : Hid (∀ M ∈ Ms, M.length ≤ 65535) := hms
      have HMB : Hid (∀ M ∈ Ms, Byb M) := fun M hM => by
        obtain ⟨t, ht, rfl⟩ := List.getElem_of_mem hM
        have := HYM.out t (by rw [← HN.out.2.1]; exact ht)
        rw [List.getD_eq_getElem?_getD, List.getElem?_eq_getElem ht] at this
        exact this
      have HU : Hid (U.map (·.2) = dbl Ms) := hU2
      have HRO : Hid (RO rep q w1 q [] [q] (.slice a7 (2 * n) c7) (U.map (·.1)) ((.slice a6 n6 c6, lin Ms) :: U) wr) := hro
      have C1 := put_new HP.out (HE.out _ hro.lo).1 (HLA.out _ hro.lo) (by have := HN.out; have := HSM.out; omega)
      rw [HN.out.2.2.2.1] at C1
      have hl0 : (0 : Int) ≤ (nl : Int) := by omega
      clear hta hro hU2 hms HS hi hlt
      go_upto_region 16 with (go_at_call 10; refine C1.mono ?_; rintro e w2 ⟨a13, c13, rfl, ho, hb2⟩; have H2 : Hid (RO rep q w1 q [] [q] (.slice a7 (2 * n) c7) (U.map (·.1)) (((.slice a6 n6 c6, lin Ms) :: U) ++ [(.slice a13 (nl + 2) c13, frm La)]) w2) := HRO.out.put HR.out hb2 ho; clear ho hb2 C1)
      have CF := H2.out.feed HR.out (own_byt (H2.out.us 0 _ rfl) (by have := lin_len Ms; have := HFW.out; have := HN.out; simp only; omega)) (H2.out.un 0 _ rfl) (by have := lin_len Ms; have := HFW.out; have := HN.out; simp only [List.length_nil]; omega)
      simp only [List.nil_append] at CF
      go_upto_region 19 with (go_at_call 19; refine CF.mono ?_; rintro e w3 ⟨rfl, F3, h3⟩; have H3 : Hid (RO rep q w1 q (lin Ms) F3 (.slice a7 (2 * n) c7) (U.map (·.1)) (((.slice a6 n6 c6, lin Ms) :: U) ++ [(.slice a13 (nl + 2) c13, frm La)]) w3) := h3; clear h3 CF)
      obtain ⟨b13, cur13, rfl, hrow13, ⟨hcm, hcs⟩, htk⟩ := own_row8 (H3.out.us (U.length + 1) (.slice a13 (nl + 2) c13, frm La) (by simp)) (by simp only [frm_len]; omega)
      have hrd := RdB.pre (own_byt (H3.out.us (U.length + 1) (.slice (some ⟨b13, 0, none⟩) (nl + 2) c13, frm La) (by simp)) (by simp only [frm_len]; have := HN.out; omega)) (k := nl + 1) (by omega)
      have hc13 : nl + 2 ≤ c13 := own_cap8 (H3.out.us (U.length + 1) (.slice (some ⟨b13, 0, none⟩) (nl + 2) c13, frm La) (by simp))
      have hps := fun w => run_preF w b13 (nl + 1) (nl + 2) c13 ((nl : Int) + 1) (by omega) (by omega) (by omega)
      have CF := H3.out.feed HR.out hrd (H3.out.un (U.length + 1) (.slice (some ⟨b13, 0, none⟩) (nl + 2) c13, frm La) (by simp)) (by have := lin_len Ms; have := HFW.out; have := HN.out; simp only [List.length_take, frm_len]; omega)
      rw [show nl + 1 = La.length + 1 by rw [HN.out.2.2.2.1], ← kpt_zero, ← show nl + 1 = La.length + 1 by rw [HN.out.2.2.2.1]] at CF
      clear hrow13 hcm hcs htk hrd
      go_upto_region 20 with (go_at_call 19; refine CF.mono ?_; rintro e w4 ⟨rfl, F4, h4⟩; have H4a : Hid (RO rep q w1 q (kpt Ms La 0) F4 (.slice a7 (2 * n) c7) (U.map (·.1)) (((.slice a6 n6 c6, lin Ms) :: U) ++ [(.slice (some ⟨b13, 0, none⟩) (nl + 2) c13, frm La)]) w4) := h4; clear h4 CF)
      have H4 : Hid (S2 rep q w1 Ms La 0 (.slice a7 (2 * n + 0) c7) w4) := ⟨F4, U, H4a.out.init.tail, by rw [HU.out]; simp⟩
      clear H4a H3 H2 HRO HU hps hc13
      go_wp2
      go_loopw [7, 15] (fun v7 v15 wr => ∃ (i : Nat) (a7 : Option Addr) (c7 : Nat), i ≤ n ∧ v15 = .int .i64 i ∧ v7 = .slice a7 (2 * n + i) c7 ∧ S2 rep q w1 Ms La i (.slice a7 (2 * n + i) c7) wr) (fun _ v _ => n - (intOf v).toNat)
      case atStart => exact ⟨0, a7, c7, Nat.zero_le _, rfl, rfl, H4.out⟩
      case round =>
        obtain ⟨i, a7, c7, hi, rfl, rfl, hp⟩ := hrel
        obtain ⟨F, A, hro, hA2⟩ := hp
        by_cases hlt : i < n
        · as_aux_lemma =>
            have c1 : (i : Int) < (n : Int) := by omega
            have c0 : (0 : Int) ≤ (i : Int) := by omega
            have HLT : Hid (i < n) := hlt
            have hAl : A.length = 2 * n + i := by
              have := congrArg List.length hA2
              rw [List.length_map, List.length_append, dbl_len, List.length_take, HN.out.2.1] at this
              omega
            have HA2 : Hid (A.map (·.2) = dbl Ms ++ Ms.take i ∧ A.length = 2 * n + i) := ⟨hA2, hAl⟩
            have CN := hro.next HR.out (kpt_byb HMS.out HMB.out (by have := HN.out; have := HSM.out; omega) HYL.out i) (by have := kpt_len Ms La i; have := lin_len Ms; have := HFW.out; have := HN.out; have := HSM.out; omega)
            have hkn := kpt_next Ms La HMS.out (by have := HN.out; have := HSM.out; omega) (t := i) (by rw [HN.out.2.1]; exact hlt)
            rw [hkn] at CN
            clear hkn hro hA2 hAl hi hlt
            go_upto_region 24 with (go_at_call 20; refine CN.mono ?_; rintro e w5 ⟨v16, b, rfl, F5, -, h5⟩; (obtain ⟨rfl, ⟨a16, c16, rfl⟩, h6⟩ := h5 _ _ rfl); have H5 : Hid (RO rep q w1 q (kpt Ms La (i + 1)) F5 (.slice a7 (2 * n + i) c7) (A.map (·.1)) (A ++ [(.slice a16 (Ms.getD i []).length c16, Ms.getD i [])]) w5) := h6; clear h5 h6 CN)
            have happ := H5.out.app HR.out [.slice a16 (Ms.getD i []).length c16] 1 rfl (by simp [Value.oneCell']) (by rw [List.length_map, HA2.out.2]; have := HSM.out; have := HLT.out; omega)
            rw [List.length_map, HA2.out.2] at happ
            have HA : Hid _ := happ
            clear happ
            go_upto_region 22 with (at_builtin; go_loud (refine wpList_app _ rfl _ _ 53 53 rfl _ _ rfl rfl HA.out ?_; rintro v77 w6 ⟨h6, ⟨a77, c77, rfl⟩⟩; have H6 : Hid (RO rep q w1 q (kpt Ms La (i + 1)) F5 (.slice a77 (2 * n + i + 1) c77) (A.map (·.1) ++ [.slice a16 (Ms.getD i []).length c16]) (A ++ [(.slice a16 (Ms.getD i []).length c16, Ms.getD i [])]) w6) := h6; clear h6 HA))
            have H7 : Hid (S2 rep q w1 Ms La (i + 1) (.slice a77 (2 * n + (i + 1)) c77) w6) := ⟨F5, A ++ [(.slice a16 (Ms.getD i []).length c16, Ms.getD i [])], by rw [← Nat.add_assoc]; simpa using H6.out, by rw [List.map_append, HA2.out.1, List.take_add_one, List.getElem?_eq_getElem (by rw [HN.out.2.1]; exact HLT.out)]; simp [List.getD, (by rw [HN.out.2.1]; exact HLT.out : i < Ms.length)]⟩
            clear H6
            go_wp2
            refine ⟨⟨i + 1, a77, c77, HLT.out, congrArg (Value.int .i64) (Int.natCast_succ i).symm, rfl, H7.out⟩, meas1 HLT.out⟩
        · have c1 : ¬ (i : Int) < (n : Int) := by omega
          obtain rfl : n = i := by omega
          rw [List.take_of_length_le (by rw [HN.out.2.1]; exact Nat.le_refl _)] at hA2
          have hAl : A.length = 3 * n := by
            have := congrArg List.length hA2
            rw [List.length_map, List.length_append, dbl_len, HN.out.2.1] at this
            omega
          have hke := kpt_end Ms La
          rw [HN.out.2.1] at hke
          rw [hke] at hro
          have H5 : Hid (RO rep q w1 q ((frm La).take (La.length + 1)) F (.slice a7 (2 * n + n) c7) (A.map (·.1)) A wr) := hro
          have HA : Hid (A.map (·.2) = dbl Ms ++ Ms ∧ A.length = 3 * n) := ⟨hA2, hAl⟩
          clear hke hAl hA2 hro hi hlt H4
          obtain ⟨N, hN⟩ : ∃ N, 2 * n + n = N := ⟨_, rfl⟩
          rw [hN] at H5
          simp only [hN]
          have HNN : Hid (2 * n + n = N ∧ N ≤ 120) := ⟨hN, by have := HSM.out; omega⟩
          clear hN
          obtain ⟨W5, hW5⟩ : ∃ W5, wr = W5 := ⟨_, rfl⟩
          rw [hW5] at H5 ⊢
          clear hW5
          go_wp2
          go_loopw [18] (fun v18 wr => ∃ i : Nat, i ≤ n ∧ v18 = .int .i64 i ∧ Below W5.heap.size W5 wr) (fun v _ => n - (intOf v).toNat)
          case atStart => exact ⟨0, Nat.zero_le _, rfl, Below.refl _ _⟩
          case round =>
            obtain ⟨i, hi, rfl, hbw⟩ := hrel
            have HB : Hid (Below W5.heap.size W5 wr) := hbw
            by_cases hlt : i < n
            · as_aux_lemma =>
                have c1 : (i : Int) < (n : Int) := by omega
                have c0 : (0 : Int) ≤ (i : Int) := by omega
                have HLT : Hid (i < n) := hlt
                have hml : (Ms.getD i []).length ≤ 65535 := HMS.out _ (by rw [List.getD_eq_getElem?_getD, List.getElem?_eq_getElem (by rw [HN.out.2.1]; exact hlt)]; exact List.getElem_mem _)
                obtain ⟨g7, ax, cx, ay, cy, az, cz, rfl, hcy, hlk⟩ := look3 HR.out H5.out HA.out.1 HN.out.2.1 hlt hml
                obtain ⟨b, o, u, rfl, x0, hx⟩ := HAT.out W5 H5.out.lo i hlt
                obtain ⟨au, cu, rfl, -, hul, -⟩ := id hx.1
                have hat : ∀ Y, Below wr.heap.size wr Y → Y.cell? ⟨b, o + i, none⟩ = some (.slice au (Ms.getD i []).length cu) ∧ RdB Y (.slice au (Ms.getD i []).length cu) (Ms.getD i []) := fun Y hY => by
                  have hb := HB.out.trans (hY.mono HB.out.size)
                  exact ⟨cell_below hb x0, hx.1.below hb⟩
                obtain ⟨M, hM⟩ : ∃ M, Ms.getD i [] = M := ⟨_, rfl⟩
                rw [hM] at hlk hat hml hcy
                clear x0 hx hul
                clear hM
                obtain ⟨m, hm⟩ : ∃ m, M.length = m := ⟨_, rfl⟩
                rw [hm] at hlk hat hml hcy
                obtain ⟨s, hs⟩ : ∃ s, m + 2 = s := ⟨_, rfl⟩
                simp only [hs] at hlk hcy
                have hsi : (m : Int) + 2 = (s : Int) := by omega
                obtain ⟨J, hJ⟩ : ∃ J, 2 * n + i = J := ⟨_, rfl⟩
                obtain ⟨K, hK⟩ : ∃ K, 2 * i = K := ⟨_, rfl⟩
                obtain ⟨K1, hK1⟩ : ∃ K1, K + 1 = K1 := ⟨_, rfl⟩
                simp only [hJ, hK, hK1] at hlk
                have hJi : 2 * (n : Int) + (i : Int) = (J : Int) := by omega
                have hKi : 2 * (i : Int) = (K : Int) := by omega
                have hKi1 : (K : Int) + 1 = (K1 : Int) := by omega
                have bJ : (J : Int) < (N : Int) := by have := HNN.out; omega
                have bK : (K : Int) < (N : Int) := by have := HNN.out; omega
                have bK1 : (K1 : Int) < (N : Int) := by have := HNN.out; omega
                have eJ : (0 : Int) ≤ (J : Int) := by omega
                have eK : (0 : Int) ≤ (K : Int) := by omega
                have eK1 : (0 : Int) ≤ (K1 : Int) := by omega
                have bn : (N : Int) ≤ 120 := by have := HNN.out; omega
                have bm : (m : Int) ≤ 65535 := by omega
                have bm0 : (0 : Int) ≤ (m : Int) := by omega
                have rf := fun w => run_from w ay s cy 2 2 rfl (by omega) hcy
                rw [show s - 2 = m by omega] at rf
                generalize adv ay cy 2 = a2 at hlk rf
                generalize cy - 2 = c2 at hlk rf
                have HX : Hid (∀ Y, Below wr.heap.size wr Y → (Y.cell? ⟨g7, J, none⟩ = some (.slice ax m cx) ∧ Y.cell? ⟨g7, K, none⟩ = some (.slice ay s cy) ∧ Y.cell? ⟨g7, K1, none⟩ = some (.slice az s cz) ∧ Y.cell? ⟨b, o + i, none⟩ = some (.slice au m cu)) ∧ RdB Y (.slice ax m cx) M ∧ RdB Y (.slice ay s cy) (frm M) ∧ RdB Y (.slice az s cz) (frm M) ∧ RdB Y (.slice a2 m c2) M ∧ RdB Y (.slice au m cu) M) := fun Y hY => by
                  have h1 := hlk Y (HB.out.trans (hY.mono HB.out.size))
                  have h2 := hat Y hY
                  exact ⟨⟨h1.1.1, h1.1.2.1, h1.1.2.2, h2.1⟩, h1.2.1, h1.2.2.1, h1.2.2.2.1, h1.2.2.2.2, h2.2⟩
                clear hlk hat hm hs hJ hK hK1 hcy hml hi hlt hbw
                go_upto_region 30 with (fail)
                refine Go.Pin.wp_region_cls (fun Y => Below wr.heap.size wr Y) (by kernel_rfl) (by kernel_rfl) ((Below.refl _ _).drew) ?_
                intro Sq fq hNq hRq hSq
                have s0 := fun x => (HX.out _ (hRq x)).1.1
                have s1 := fun x => (HX.out _ (hRq x)).1.2.1
                have s2 := fun x => (HX.out _ (hRq x)).1.2.2.1
                have s3 := fun x => (HX.out _ (hRq x)).1.2.2.2
                have C1 := fun x => same_true (HX.out _ (hRq x)).2.1 (HX.out _ (hRq x)).2.2.2.2.2
                have C2 := fun x => same_true (HX.out _ (hRq x)).2.2.1 (HX.out _ (hRq x)).2.2.2.1
                have C3 := fun x => same_true (HX.out _ (hRq x)).2.2.2.2.1 (HX.out _ (hRq x)).2.2.2.2.2
                repeat (go_big_quiet_step (first
                    | (with_reducible refine Calls.mono (C1 _) ?_; intro e w' h; exact ⟨h.1, hSq _ ((hRq _).trans (h.2.mono (hRq _).size))⟩)
                    | (with_reducible refine Calls.mono (C2 _) ?_; intro e w' h; exact ⟨h.1, hSq _ ((hRq _).trans (h.2.mono (hRq _).size))⟩)
                    | (with_reducible refine Calls.mono (C3 _) ?_; intro e w' h; exact ⟨h.1, hSq _ ((hRq _).trans (h.2.mono (hRq _).size))⟩)))
                refine wpQuiet_nil ?_
                intro _ hw'
                obtain ⟨xq, hw''⟩ := hw'
                subst hw''
                have HYq := hRq xq
                generalize fq xq = Y at HYq ⊢
                clear hRq hSq hNq xq fq Sq s0 s1 s2 s3 C1 C2 C3 HX
                have HY : Hid (Below W5.heap.size W5 Y) := HB.out.trans (HYq.mono HB.out.size)
                clear HYq
                go_wp2
                exact ⟨⟨i + 1, HLT.out, congrArg (Value.int .i64) (Int.natCast_succ i).symm, HY.out⟩, meas1 HLT.out⟩
            · have c1 : ¬ (i : Int) < (n : Int) := by omega
              obtain rfl : n = i := by omega
              have H6 : Hid (RO rep q w1 q ((frm La).take (La.length + 1)) F (.slice a7 N c7) (A.map (·.1)) A wr) := H5.out.below HR.out HB.out
              have HAN : Hid (A.length = N) := by have := HA.out.2; have := HNN.out; show A.length = N; omega
              clear HB hbw H5 hi hlt
              go_wp2
              go_loopw [19] (fun v19 wr => ∃ i : Nat, i ≤ N ∧ v19 = .int .i64 i ∧ ∃ B, FilP A B i 0 ∧ RO rep q w1 q ((frm La).take (La.length + 1)) F (.slice a7 N c7) (B.map (·.1)) B wr) (fun v _ => N - (intOf v).toNat)
              case atStart => exact ⟨0, Nat.zero_le _, rfl, A, FilP.start A, H6.out⟩
              case round =>
                obtain ⟨i, hi, rfl, B, hfil, hro⟩ := hrel
                by_cases hlt : i < N
                · as_aux_lemma =>
                    have c1 : (i : Int) < (N : Int) := by omega
                    have c0 : (0 : Int) ≤ (i : Int) := by omega
                    have HLT : Hid (i < N) := hlt
                    obtain ⟨⟨v0, C⟩, hAi⟩ : ∃ u, A[i]? = some u := ⟨_, List.getElem?_eq_getElem (by rw [HAN.out]; exact hlt)⟩
                    obtain ⟨a0, k0, e⟩ := own_slice' (H6.out.us _ _ hAi)
                    have e : v0 = .slice a0 C.length k0 := e
                    subst e
                    have HAI : Hid (A[i]? = some (.slice a0 C.length k0, C)) := hAi
                    have hCl : C.length ≤ 65537 := fil_len HMS.out HA.out.1 hAi
                    obtain ⟨m, hm⟩ : ∃ m, C.length = m := ⟨_, rfl⟩
                    rw [hm] at HAI hCl
                    have HM : Hid (C.length = m ∧ m ≤ 65537) := ⟨hm, hCl⟩
                    have HF0 : Hid (FilP A B i 0 ∧ RO rep q w1 q ((frm La).take (La.length + 1)) F (.slice a7 N c7) (B.map (·.1)) B wr) := ⟨hfil, hro⟩
                    have bm : (m : Int) ≤ 65537 := by omega
                    have bN : (N : Int) ≤ 120 := by have := HNN.out; omega
                    have hw8 : IntKind.u8.wrap (i : Int) = (i : Int) := by rw [IntKind.wrap_u8']; omega
                    clear hfil hro hAi hm hCl hi hlt
                    go_wp2
                    go_loopw [20] (fun v20 wr => ∃ k : Nat, k ≤ m ∧ v20 = .int .i64 k ∧ ∃ B, FilP A B i k ∧ RO rep q w1 q ((frm La).take (La.length + 1)) F (.slice a7 N c7) (B.map (·.1)) B wr) (fun v _ => m - (intOf v).toNat)
                    case atStart => exact ⟨0, Nat.zero_le _, rfl, B, HF0.out.1, HF0.out.2⟩
                    case round =>
                      obtain ⟨k, hk, rfl, B2, hfil, hro⟩ := hrel
                      obtain ⟨C2, hBi, hC2⟩ := hfil.at HAI.out
                      obtain ⟨g7, rfl, x1⟩ := hro.cell hBi
                      simp only at x1
                      rw [HM.out.1] at hC2
                      by_cases hkl : k < m
                      · have b2 : (k : Int) < (m : Int) := by omega
                        have b3 : (0 : Int) ≤ (k : Int) := by omega
                        obtain ⟨g0, rfl, x2, f2, hset⟩ := hro.set HR.out hBi (k := k) (by omega) (i : Int)
                        have HS : Hid (FilP A (B2.set i (.slice (some ⟨g0, 0, none⟩) m k0, C2.set k (i : Int))) i (k + 1) ∧ RO rep q w1 q ((frm La).take (La.length + 1)) F (.slice (some ⟨g7, 0, none⟩) N c7) ((B2.set i (.slice (some ⟨g0, 0, none⟩) m k0, C2.set k (i : Int))).map (·.1)) (B2.set i (.slice (some ⟨g0, 0, none⟩) m k0, C2.set k (i : Int))) (wr.setCell ⟨g0, k, none⟩ (.int .u8 (i : Int)))) := ⟨hfil.set hBi (by omega), by rw [fst_set hBi]; exact hset⟩
                        have HKM : Hid (k < m) := hkl
                        generalize C2.getD k 0 = z at x2
                        clear hset hfil hro hBi hC2 hk hkl
                        go_wp2
                        exact ⟨⟨k + 1, HKM.out, congrArg (Value.int .i64) (Int.natCast_succ k).symm, _, HS.out.1, HS.out.2⟩, meas1 HKM.out⟩
                      · have b2 : ¬ (k : Int) < (m : Int) := by omega
                        obtain rfl : m = k := by omega
                        have HS : Hid (FilP A B2 (i + 1) 0 ∧ RO rep q w1 q ((frm La).take (La.length + 1)) F (.slice (some ⟨g7, 0, none⟩) N c7) (B2.map (·.1)) B2 wr) := ⟨hfil.done HAI.out HM.out.1, hro⟩
                        clear hfil hro hBi hC2 hk hkl
                        go_wp2
                        exact ⟨⟨i + 1, HLT.out, congrArg (Value.int .i64) (Int.natCast_succ i).symm, _, HS.out.1, HS.out.2⟩, meas1 HLT.out⟩
                · have c1 : ¬ (i : Int) < (N : Int) := by omega
                  obtain rfl : N = i := by omega
                  have H7 : Hid (RO rep q w1 q ((frm La).take (La.length + 1)) F (.slice a7 N c7) (B.map (·.1)) B wr ∧ FilP A B N 0) := ⟨hro, hfil⟩
                  clear hfil hro hi hlt H6
                  obtain ⟨W7, hW7⟩ : ∃ W7, wr = W7 := ⟨_, rfl⟩
                  rw [hW7] at H7 ⊢
                  clear hW7
                  have HBN : Hid (B.length = N) := by
                    have := congrArg List.length H7.out.2.1
                    simp only [List.length_map] at this
                    show B.length = N
                    rw [this]
                    exact HAN.out
                  have H8 : Hid (MW q W7.heap.size W7 B (.slice none 0 0) [] W7) := mw_start H7.out.1
                  go_wp2
                  go_loopw [21, 22] (fun v21 v22 wr => ∃ (i : Nat) (a21 : Option Addr) (c21 : Nat) (Y : List Value), i ≤ N ∧ v22 = .int .i64 i ∧ v21 = .slice a21 i c21 ∧ Y.length = i ∧ MW q W7.heap.size W7 B (.slice a21 i c21) Y wr) (fun _ v _ => N - (intOf v).toNat)
                  case atStart => exact ⟨0, none, 0, [], Nat.zero_le _, rfl, rfl, rfl, H8.out⟩
                  case round =>
                    obtain ⟨i, a21, c21, Y, hi, rfl, rfl, hY, hmw⟩ := hrel
                    by_cases hlt : i < N
                    · as_aux_lemma =>
                        have c1 : (i : Int) < (N : Int) := by omega
                        have c0 : (0 : Int) ≤ (i : Int) := by omega
                        have HLT : Hid (i < N) := hlt
                        obtain ⟨⟨v0, C⟩, hBi⟩ : ∃ u, B[i]? = some u := ⟨_, List.getElem?_eq_getElem (by rw [HBN.out]; exact hlt)⟩
                        obtain ⟨a0, k0, e⟩ := own_slice' (H7.out.1.us _ _ hBi)
                        have e : v0 = .slice a0 C.length k0 := e
                        subst e
                        obtain ⟨g7, rfl, x1⟩ := mw_cell H7.out.1 hmw hBi
                        simp only at x1
                        have hCl : C.length ≤ 65537 := fil_len2 HMS.out HA.out.1 H7.out.2 hBi
                        obtain ⟨wi, hwi⟩ : ∃ wi, wr = wi := ⟨_, rfl⟩
                        rw [hwi] at hmw x1 ⊢
                        clear hwi
                        have HLR : Hid (LR q 5 1 wi.heap.size wi (.slice a0 C.length k0) C.length (C.map (Value.int .u8)) (.slice a0 C.length k0) 0 [] wi) := hmw.lr (at_uls hBi)
                        have HBI : Hid (B[i]? = some (.slice a0 C.length k0, C)) := hBi
                        obtain ⟨m, hm⟩ : ∃ m, C.length = m := ⟨_, rfl⟩
                        rw [hm] at HLR HBI x1 hCl
                        have HM : Hid (C.length = m ∧ m ≤ 65537) := ⟨hm, hCl⟩
                        have HMW : Hid (MW q W7.heap.size W7 B (.slice a21 i c21) Y wi ∧ Y.length = i) := ⟨hmw, hY⟩
                        obtain ⟨X, hX⟩ : ∃ X, 128 + i = X := ⟨_, rfl⟩
                        have hXi : (128 : Int) + (i : Int) = (X : Int) := by omega
                        have hw8 : IntKind.u8.wrap (X : Int) = (X : Int) := by have := HNN.out; rw [IntKind.wrap_u8']; omega
                        have HXX : Hid (128 + i = X) := hX
                        have bN : (N : Int) ≤ 120 := by have := HNN.out; omega
                        have bm : (m : Int) ≤ 65537 := by omega
                        clear hmw hBi hm hCl hX hi hlt hY
                        go_wp2
                        go_loopw [23, 24] (fun v23 v24 wr => ∃ (j : Nat) (a23 : Option Addr) (c23 : Nat), j ≤ 70 ∧ v24 = .int .i64 j ∧ v23 = .slice a23 (m + j) c23 ∧ LR q 5 1 wi.heap.size wi (.slice a0 m k0) m (C.map (Value.int .u8)) (.slice a23 (m + j) c23) j (List.replicate j (.int .u8 (X : Int))) wr) (fun _ v _ => 70 - (intOf v).toNat)
                        case atStart => exact ⟨0, a0, k0, Nat.zero_le _, rfl, rfl, HLR.out⟩
                        case round =>
                          obtain ⟨j, a23, c23, hj, rfl, rfl, hlr⟩ := hrel
                          by_cases hjl : j < 70
                          · have b2 : (j : Int) < 70 := by omega
                            have HJ : Hid (j < 70) := hjl
                            have happ := lr_app hlr (X : Int) (by have := HM.out; omega)
                            rw [rep_snoc] at happ
                            have HA1 : Hid _ := happ
                            clear happ hlr hj hjl
                            go_upto_region 46 with (at_builtin; go_loud (refine wpList_app _ rfl _ _ 22 22 rfl _ _ rfl rfl HA1.out ?_; rintro v9 w9 ⟨h9, ⟨a9, c9, rfl⟩⟩; have H9 : Hid (LR q 5 1 wi.heap.size wi (.slice a0 m k0) m (C.map (Value.int .u8)) (.slice a9 (m + (j + 1)) c9) (j + 1) (List.replicate (j + 1) (.int .u8 (X : Int))) w9) := h9; clear h9 HA1))
                            go_wp2
                            exact ⟨⟨j + 1, a9, c9, HJ.out, congrArg (Value.int .i64) (Int.natCast_succ j).symm, rfl, H9.out⟩, meas1 HJ.out⟩
                          · have b2 : ¬ (j : Int) < 70 := by omega
                            obtain rfl : j = 70 := by omega
                            have hmw2 := HMW.out.1.mid (at_uls HBI.out) HMW.out.2 (by simp only [HM.out.1]; exact hlr)
                            have ho := hlr.hl
                            have hlb := hlr.lb (q3 := W7.heap.size) HMW.out.1.sz
                            have happ := mw_push hmw2 HBI.out HMW.out.2 (by have := HNN.out; have := HLT.out; omega) (l := .slice a23 (m + 70) c23) (by simp only [HM.out.1, nw20, HXX.out]; exact ho) hlb rfl
                            have HA1 : Hid _ := happ
                            have HY2 : Hid ((Y ++ [Value.slice a23 (m + 70) c23]).length = i + 1) := by rw [List.length_append, HMW.out.2]; rfl
                            clear happ hmw2 ho hlb hlr hj hjl
                            go_upto_region 42 with (at_builtin; go_loud (refine wpList_app _ rfl _ _ 53 53 rfl _ _ rfl rfl HA1.out ?_; rintro v9 w9 ⟨h9, ⟨a9, c9, rfl⟩⟩; have H9 : Hid (MW q W7.heap.size W7 B (.slice a9 (i + 1) c9) (Y ++ [.slice a23 (m + 70) c23]) w9) := h9; clear h9 HA1))
                            go_wp2
                            exact ⟨⟨i + 1, a9, c9, _, HLT.out, congrArg (Value.int .i64) (Int.natCast_succ i).symm, rfl, HY2.out, H9.out⟩, meas1 HLT.out⟩
                    · have c1 : ¬ (i : Int) < (N : Int) := by omega
                      obtain rfl : N = i := by omega
                      obtain ⟨W8, hW8⟩ : ∃ W8, wr = W8 := ⟨_, rfl⟩
                      rw [hW8] at hmw ⊢
                      clear hW8
                      have H9 : Hid (MW q W7.heap.size W7 B (.slice a21 N c21) Y W8 ∧ Y.length = N) := ⟨hmw, hY⟩
                      clear hmw hY hi hlt H8
                      go_wp2
                      go_loopw [25] (fun v25 wr => ∃ i : Nat, i ≤ N ∧ v25 = .int .i64 i ∧ wr = W8) (fun v _ => N - (intOf v).toNat)
                      case atStart => exact ⟨0, Nat.zero_le _, rfl, rfl⟩
                      case round =>
                        obtain ⟨i, hi, rfl, rfl⟩ := hrel
                        by_cases hlt : i < N
                        · as_aux_lemma =>
                            have c1 : (i : Int) < (N : Int) := by omega
                            have c0 : (0 : Int) ≤ (i : Int) := by omega
                            have HLT : Hid (i < N) := hlt
                            obtain ⟨g7, a0, k0, g21, ay, cy, m, rfl, rfl, x1, x2, hm, hrd⟩ := look8 HMS.out HA.out.1 HAN.out H7.out.1 H7.out.2 H9.out.1 H9.out.2 hlt
                            have HRD : Hid (∀ k, k < m + 70 → ∃ b o, ay = some ⟨b, o, none⟩ ∧ wr.cell? ⟨b, o + k, none⟩ = some (.int .u8 (if k < m then (i : Int) else ((128 + i : Nat) : Int))) ∧ (k < m → ∃ b' o', a0 = some ⟨b', o', none⟩ ∧ wr.cell? ⟨b', o' + k, none⟩ = some (.int .u8 (i : Int)))) := hrd
                            have bN : (N : Int) ≤ 120 := by have := HNN.out; omega
                            have bm : (m : Int) ≤ 65537 := by omega
                            have hw8 : IntKind.u8.wrap (i : Int) = (i : Int) := by rw [IntKind.wrap_u8']; omega
                            obtain ⟨X, hX⟩ : ∃ X, 128 + i = X := ⟨_, rfl⟩
                            have hXi : (128 : Int) + (i : Int) = (X : Int) := by omega
                            have hw9 : IntKind.u8.wrap (X : Int) = (X : Int) := by rw [IntKind.wrap_u8']; omega
                            rw [hX] at HRD
                            obtain ⟨T, hT⟩ : ∃ T, m + 70 = T := ⟨_, rfl⟩
                            rw [hT] at HRD x2
                            have HTT : Hid (m + 70 = T) := hT
                            have bT : (T : Int) ≤ 65607 := by omega
                            clear hrd hm hX hT hi hlt
                            go_wp2
                            go_loopw [26] (fun v26 w' => ∃ k : Nat, k ≤ T ∧ v26 = .int .i64 k ∧ w' = wr) (fun v _ => T - (intOf v).toNat)
                            case atStart => exact ⟨0, Nat.zero_le _, rfl, rfl⟩
                            case round =>
                              obtain ⟨k, hk, rfl, rfl⟩ := hrel
                              by_cases hkt : k < T
                              · have b1 : (k : Int) < (T : Int) := by omega
                                have b0 : (0 : Int) ≤ (k : Int) := by omega
                                have HKT : Hid (k < T) := hkt
                                obtain ⟨b, o, rfl, y1, y2⟩ := HRD.out k hkt
                                by_cases hkm : k < m
                                · rw [if_pos hkm] at y1
                                  obtain ⟨b', o', rfl, y2⟩ := y2 hkm
                                  have b2 : (k : Int) < (m : Int) := by omega
                                  have b3 : ¬ (m : Int) ≤ (k : Int) := by omega
                                  have b4 : ¬ (k : Int) ≥ (m : Int) := by omega
                                  clear hkm hkt hk
                                  go_wp2
                                  exact ⟨⟨k + 1, HKT.out, congrArg (Value.int .i64) (Int.natCast_succ k).symm, trivial⟩, meas1 HKT.out⟩
                                · rw [if_neg hkm] at y1
                                  have b2 : ¬ (k : Int) < (m : Int) := by omega
                                  have b3 : (m : Int) ≤ (k : Int) := by omega
                                  have b4 : (k : Int) ≥ (m : Int) := by omega
                                  clear hkm hkt hk y2
                                  go_wp2
                                  exact ⟨⟨k + 1, HKT.out, congrArg (Value.int .i64) (Int.natCast_succ k).symm, trivial⟩, meas1 HKT.out⟩
                              · have b1 : ¬ (k : Int) < (T : Int) := by omega
                                clear hk hkt
                                go_wp2
                                exact ⟨⟨i + 1, HLT.out, congrArg (Value.int .i64) (Int.natCast_succ i).symm, trivial⟩, meas1 HLT.out⟩
                        · have c1 : ¬ (i : Int) < (N : Int) := by omega
                          obtain ⟨hr1, hr2, hr3, hr4⟩ := mw_rep HR.out H7.out.1 H9.out.1
                          have HRS : Hid (RS rep q w1 ((frm La).take (La.length + 1)) wr) := ⟨hr1, hr2, F, hr3, hr4⟩
                          have hlla : La.length ≤ 65535 := by have := HN.out; have := HSM.out; omega
                          have CN := HRS.out.next HR.out (fun x hx => frm_byb hlla HYL.out x (List.mem_of_mem_take hx)) (by rw [List.length_take, frm_len]; omega)
                          rw [end_none La hlla] at CN
                          clear hr1 hr2 hr3 hr4 hlla H7 H9 hi hlt HA HAN HBN
                          go_upto_region 61 with (go_at_call 20; refine CN.mono ?_; rintro e w10 ⟨v28, b28, rfl, ⟨h1, -⟩⟩; (obtain ⟨rfl, rfl, h⟩ := h1 rfl); have H10 : Hid (RS rep q w1 ((frm La).take (La.length + 1)) w10) := h; clear h h1 CN)
                          by_cases hz : nl = 0
                          · have b1 : (nl : Int) = 0 := by omega
                            have hle : La = [] := List.length_eq_zero_iff.1 (by have := HN.out; omega)
                            have CF := H10.out.feedL HR.out [0] #[.int .u8 0] rfl 1 rfl (by decide) (by rw [List.length_take, frm_len]; have := HN.out; have := HSM.out; omega)
                            have hfr : (frm La).take (La.length + 1) ++ [0] = frm La := by rw [hle]; exact end_nil
                            rw [hfr] at CF
                            clear hfr hle hz
                            go_upto_region 64 with (go_at_call 19; refine CF.mono ?_; rintro e w11 ⟨rfl, h⟩; have HRF : Hid (RS rep q w1 (frm La) w11 ∧ True) := ⟨h, trivial⟩; clear h CF)
                            have CN := HRF.out.1.next HR.out (frm_byb (by have := HN.out; have := HSM.out; omega) HYL.out) (by rw [frm_len]; have := HN.out; have := HSM.out; omega)
                            rw [end_some La (by have := HN.out; have := HSM.out; omega)] at CN
                            go_upto_region 65 with (go_at_call 20; refine CN.mono ?_; rintro e w12 ⟨v30, b30, rfl, ⟨-, h2⟩⟩; (obtain ⟨rfl, ho, hrs, -⟩ := h2 _ _ rfl); (rw [HN.out.2.2.2.1] at ho); (obtain ⟨a30, c30, rfl⟩ := own_slice' ho); have H12 : Hid (RS rep q w1 [] w12 ∧ RdB w12 (.slice a30 nl c30) La) := ⟨hrs, own_byt (C := La) (by rw [HN.out.2.2.2.1]; exact ho) (by have := HN.out; omega)⟩; clear ho hrs h2 CN)
                            have CS := same_true H12.out.2 (HLA.out w12 H12.out.1.1)
                            go_wp2_with (first
                              | (go_at_call 13; refine CS.mono ?_; rintro e w13 ⟨rfl, hb⟩; have H13 : Hid (RS rep q w1 [] w13) := H12.out.1.below HR.out hb; have CH := H13.out.held HR.out (by decide); clear hb CS)
                              | (go_at_call 21; refine CH.mono ?_; rintro e w14 ⟨rfl, h14, -⟩; have H14 : Hid (RS rep q w1 [] w14) := h14; have CK := known_any HP.out HR.out w14 (HE.out _ h14.1).1; clear h14 CH)
                              | (go_at_call 15; refine CK.mono ?_; rintro e w15 ⟨rfl, hb⟩; have H15 : Hid (Below q w1 w15) := H14.out.1.trans (hb.mono H14.out.2.1); clear hb CK))
                            go_ret
                            exact ⟨rfl, H15.out⟩
                          · have b1 : ¬ (nl : Int) = 0 := by omega
                            have bl : (nl : Int) ≤ 1000 := by have := HSM.out; omega
                            have hpr : (nl : Int) - 1 = ((nl - 1 : Nat) : Int) := by omega
                            have rf := fun w => run_from w al nl cl (nl - 1) ((nl - 1 : Nat) : Int) rfl (by omega) HN.out.2.2.2.2.1
                            have hmd := (HLA.out w10 H10.out.1).mid (i := nl - 1) (j := nl) (by omega) (Nat.le_refl _)
                            rw [List.take_of_length_le (by rw [List.length_drop, HN.out.2.2.2.1]; exact Nat.le_refl _)] at hmd
                            have hol : ∀ k, (Value.slice (adv al cl (nl - 1)) (nl - (nl - 1)) (cl - (nl - 1))).ownBlock = some k → k < q := fun k hk => arg_lt (HLA.out w1 (Below.refl _ _)) (by have := HN.out; omega) HN.out.2.2.2.2.2 (adv_own2 hk)
                            have CF := H10.out.feed HR.out hmd (fun F' _ hF' k hk hm => by have := hol k hk; have := hF' k hm; omega) (by rw [List.length_take, List.length_drop, frm_len]; have := HN.out; have := HSM.out; omega)
                            have hfr : (frm La).take (La.length + 1) ++ La.drop (nl - 1) = frm La := by rw [← HN.out.2.2.2.1]; exact end_cons La (by have := HN.out; omega)
                            rw [hfr] at CF
                            generalize adv al cl (nl - 1) = a63 at rf CF
                            generalize nl - (nl - 1) = n63 at rf CF
                            generalize cl - (nl - 1) = c63 at rf CF
                            obtain ⟨p, hp⟩ : ∃ p, nl - 1 = p := ⟨_, rfl⟩
                            rw [hp] at hpr
                            simp only [hp] at rf
                            clear hfr hmd hol hz hp
                            go_upto_region 64 with (go_at_call 19; refine CF.mono ?_; rintro e w11 ⟨rfl, h⟩; have HRF : Hid (RS rep q w1 (frm La) w11 ∧ True) := ⟨h, trivial⟩; clear h CF)
                            have CN := HRF.out.1.next HR.out (frm_byb (by have := HN.out; have := HSM.out; omega) HYL.out) (by rw [frm_len]; have := HN.out; have := HSM.out; omega)
                            rw [end_some La (by have := HN.out; have := HSM.out; omega)] at CN
                            go_upto_region 65 with (go_at_call 20; refine CN.mono ?_; rintro e w12 ⟨v30, b30, rfl, ⟨-, h2⟩⟩; (obtain ⟨rfl, ho, hrs, -⟩ := h2 _ _ rfl); (rw [HN.out.2.2.2.1] at ho); (obtain ⟨a30, c30, rfl⟩ := own_slice' ho); have H12 : Hid (RS rep q w1 [] w12 ∧ RdB w12 (.slice a30 nl c30) La) := ⟨hrs, own_byt (C := La) (by rw [HN.out.2.2.2.1]; exact ho) (by have := HN.out; omega)⟩; clear ho hrs h2 CN)
                            have CS := same_true H12.out.2 (HLA.out w12 H12.out.1.1)
                            go_wp2_with (first
                              | (go_at_call 13; refine CS.mono ?_; rintro e w13 ⟨rfl, hb⟩; have H13 : Hid (RS rep q w1 [] w13) := H12.out.1.below HR.out hb; have CH := H13.out.held HR.out (by decide); clear hb CS)
                              | (go_at_call 21; refine CH.mono ?_; rintro e w14 ⟨rfl, h14, -⟩; have H14 : Hid (RS rep q w1 [] w14) := h14; have CK := known_any HP.out HR.out w14 (HE.out _ h14.1).1; clear h14 CH)
                              | (go_at_call 15; refine CK.mono ?_; rintro e w15 ⟨rfl, hb⟩; have H15 : Hid (Below q w1 w15) := H14.out.1.trans (hb.mono H14.out.2.1); clear hb CK))
                            go_ret
                            exact ⟨rfl, H15.out⟩
end Go.Proofs.YtdakhiafagambaaDoor
