import Derived.Test.YtfkbgodfcnmepaaDoorDmav
namespace Go.Proofs.YtfkbgodfcnmepaaDoor
set_option linter.unusedSimpArgs false
set_option linter.unusedVariables false
open Go.ChangeShapes Go.WideShapes Go.ChangeAt Go.RowKit Go.Pin Go.Str Go.Dig
set_option maxRecDepth 100000 in
set_option maxHeartbeats 40000000 in
theorem plays_main (n s : Nat) (hz : 1 ≤ s ∧ s ≤ 32) (hn1 : n ≤ 32) (key : List Int) (hkb : Byt key) (hkn : key.length = n) (a : Option Addr) (cap : Nat) (S : List Stp) (sa : Option Addr) (caps : Nat) (W : World) (q : Nat) (hq : W.heap.size = q) (hk : ∀ bx, Src q W bx (.slice a n cap) key) (ms : Nat) (hms : S.length = ms) (hm : ms ≤ 400) (hS : Scr W sa S) (hb : ∀ q ∈ S, Byt q.2 ∧ q.2.length ≤ maxLen) (hB : Beg W) (hE : ∃ a, W.cell? ⟨0, 0, none⟩ = some (.iface 120 (.pointer (some a)))) :
    Calls Tryd.prog 4 #[.int .i64 (s : Int), .slice a n cap, .slice sa ms caps] W fun e w' => e = .returned (.bool true) ∧ Below q W w' := by
  have h1 := ev_new W
  have cn := new_any W
  rw [hq] at h1 cn
  obtain ⟨R, hR⟩ : ∃ R, q = R := ⟨_, rfl⟩
  obtain ⟨W1, hW1⟩ : ∃ V, W.alloc (.cells #[.slice none 0 0, .int .i64 0] 76) = V := ⟨_, rfl⟩
  rw [hW1] at h1 cn
  have hs1 : W1.heap.size = q + 1 := by rw [← hW1, size_alloc, hq]
  have CN : Hid (Calls Tryd.prog 9 #[] W fun e w' => e = .returned (.pointer (some ⟨R, 0, none⟩)) ∧ w' = W1) := by rw [← hR]; exact cn
  have H1 : Hid (Ev q W (.pointer (some ⟨R, 0, none⟩)) [] [] W1) := by rw [← hR]; exact h1
  have HSC : Hid (∀ i, i < ms → ∃ b o u, sa = some ⟨b, o, none⟩ ∧ (∀ Y, Below q W Y → Y.cell? ⟨b, o + i * 2, none⟩ = some (.bool (S.getD i (false, [])).1) ∧ Y.cell? ⟨b, o + i * 2 + 1, none⟩ = some u) ∧ (∀ bx, Src q W bx u (S.getD i (false, [])).2) ∧ Byt (S.getD i (false, [])).2 ∧ (S.getD i (false, [])).2.length ≤ maxLen) := fun i hi => scr_at hq hS hb i (by rw [hms]; exact hi)
  have HK : Hid ((∀ bx, Src q W bx (.slice a n cap) key) ∧ ms ≤ 400 ∧ Byt key ∧ key.length ≤ 32) := ⟨hk, hm, hkb, by rw [hkn]; exact hn1⟩
  have HKN : Hid (key.length = n) := hkn
  have HBE : Hid (Beg W ∧ 2 ≤ q ∧ ∃ a, W.cell? ⟨0, 0, none⟩ = some (.iface 120 (.pointer (some a)))) := ⟨hB, by rw [← hq]; exact hB.2, hE⟩
  have HZ : Hid (1 ≤ s ∧ s ≤ 32) := hz
  obtain ⟨fk, hfk⟩ : ∃ f, (fil key).length = f := ⟨_, rfl⟩
  have HFK : Hid ((fil key).length = fk) := hfk
  have b0 : ¬ (400 : Int) < (ms : Int) := by omega
  have b1 : ¬ (131072 : Int) < (n : Int) := by omega
  clear hk hkn hkb h1 cn hB hE hz hm hn1 hS hb hms hW1 hR hfk
  go_enter Tryd.func4, Tryd.ntmps4
  go_upto_region 4 with (first | (go_at_call 9; refine Calls.mono CN.out ?_; rintro e V1 ⟨rfl, hV⟩; obtain rfl := hV))
  clear CN b0 b1
  have HAP : Hid (∀ ty, ∃ v' w', (Builtin.append_ #[22, 22] ty #[.slice (some ⟨q + 1, 0, none⟩) 0 0, .slice a n cap]).run Tryd.prog (V1.alloc (.cells #[] 5)) = .ok v' w' ∧ LE 5 1 v' n (key.map (Value.int .u8)) q W (.pointer (some ⟨R, 0, none⟩)) [] [] w') := fun ty => by
    have hnew := H1.out.new (.cells #[] 5)
    rw [hs1] at hnew
    have := LE.appB (A := []) ⟨_, lst_zero (q + 1), hnew, (fun p hp r hr => nomatch hr)⟩ ty (HK.out.1 []) (by have := HK.out.2.2.2; omega)
    rw [HKN.out, Nat.zero_add, List.nil_append] at this
    exact this
  clear H1 hq
  go_upto_region 5 with (first | (at_builtin; refine wpList_app _ rfl (.tmp 37) (.tmp 38) 22 22 rfl _ _ rfl rfl HAP.out ?_; intro vt w2 h2; obtain ⟨lb, k1, k2, k3⟩ := h2; rw [List.append_nil] at k2; have CD : Hid _ := dnew_any k2 (fun _ => by simp) s HZ.out HBE.out.1 HBE.out.2.1 vt key (Lst.src (A := key) (by rw [HKN.out]; exact k1) (fun p hp => hp)) HK.out.2.2.2 HK.out.2.2.1; have HL : Hid (Lst 5 1 vt n (key.map (Value.int .u8)) lb) := k1; clear k1 k2 k3 HAP))
  obtain ⟨a8, c8, rfl⟩ := HL.out.slice'
  go_upto_region 6 with (first | (go_at_call 11; refine Calls.mono CD.out ?_; rintro e w3 ⟨g, rfl, o, hne, hst, h3⟩; have HT3 := (TK.start HKN.out HL.out hne hst h3).hid; clear hne hst h3 CD))
  clear HL hs1
  have CS : Hid _ := rsum_w (W := w3) (D := []) HZ.out HK.out.2.2.2 HK.out.2.2.1 (fun x hx => nomatch hx) (by simp) (HT3.out.at_ (HK.out.1 []) []) (src_nil _ _ [])
  go_upto_region 7 with (first | (go_at_call 12; refine Calls.mono CS.out ?_; rintro e w4 ⟨v4, rfl, hb4⟩; have HT4 := (HT3.out.below hb4).hid; have CC : Hid _ := code_nil w4; clear hb4 CS HT3))
  go_upto_region 12 with (first | (go_at_call 13; refine Calls.mono CC.out ?_; rintro e w5 ⟨rfl, hV⟩; obtain rfl := hV; clear CC))
  go_loopw [13] (fun v w' => ∃ i : Nat, i ≤ n ∧ v = .int .i64 (i : Int) ∧ TK q W R g s key (.slice a8 n c8) n w') (fun v _ => n - (intOf v).toNat)
  case atStart => exact ⟨0, Nat.zero_le _, rfl, HT4.out⟩
  case round =>
    clear HT4
    obtain ⟨j, hj, rfl, htk⟩ := hrel
    have hn32 : n ≤ 32 := by rw [← HKN.out]; exact HK.out.2.2.2
    by_cases hlt : j < n
    · have b2 : (j : Int) < (n : Int) := by omega
      obtain ⟨gt, cap2, e8, ⟨z, c1⟩, f1, ht2⟩ := htk.put hlt
      injection e8 with e81 e82 e83
      subst e81
      obtain ⟨W6, hW6⟩ : ∃ V, wr.setCell ⟨gt, j, none⟩ (.int .u8 153) = V := ⟨_, rfl⟩
      rw [hW6] at ht2
      have HT6 := ht2.hid
      clear htk ht2 e82 e83
      go_wp2
      go_roundw
      case rel => exact ⟨j + 1, hlt, by go_num, HT6.out⟩
      case measure => simp [intOf]; omega
    · have b2 : ¬ (j : Int) < (n : Int) := by omega
      have CE : Hid _ := enew_any (s : Int) n wr
      have HEL : Hid (elog (s : Int) n = nlg key) := by
        have : elog (s : Int) n = nlg key := by rw [← HKN.out]; exact elog_nlg (by rw [HKN.out]; have := HZ.out; omega)
        exact this
      have HTK := htk.hid
      clear htk hj hlt
      go_upto_region 17 with (first | (go_at_call 17; refine Calls.mono CE.out ?_; rintro e w6 ⟨ue, rfl, h6⟩; have CF : Hid _ := first_any n w6; have HE6 : Hid (Evl wr.heap.size wr ue (nlg key) w6) := (by rw [HEL.out] at h6; exact h6); clear h6 CE))
      have hmk := mk_b 64 64 rfl (by decide) w6
      have h3 := PL.le (i := 0) (ms := ms) (HTK.out.start' HE6.out)
      have e0 : hl (fil key).length = (if n = 0 then 0 else 64) := by
        rw [fil_len key HK.out.2.2.2, HKN.out]
        split <;> rfl
      rw [HFK.out] at h3 e0
      obtain ⟨p0, hp0⟩ : ∃ p, w6.heap.size = p := ⟨_, rfl⟩
      obtain ⟨W3, hW3⟩ : ∃ V, w6.alloc (.cells (VI .u8 (List.replicate 64 0)) 5) = V := ⟨_, rfl⟩
      rw [hp0, hW3] at hmk h3
      rw [← e0] at CF
      have H3 : Hid (PL q W R g s key fk 0 ms (.slice none 0 0) ue (.int .i64 ((hl fk : Nat) : Int)) (.slice (some ⟨p0, 0, none⟩) 64 64) W3) := h3
      clear h3 hp0 hW3 HTK HE6 e0
      go_upto_region 20 with (first | (go_at_call 19; refine Calls.mono CF.out ?_; rintro e V6 ⟨rfl, hV⟩; obtain rfl := hV; clear CF))
      clear hmk hn32
      go_loopw [14, 15, 16, 17, 18] (fun va ve vh vd vi w' => ∃ i : Nat, vi = .int .i64 (i : Int) ∧ PL q W R g s key fk i ms va ve vh vd w') (fun _ _ _ _ vi _ => ms - (intOf vi).toNat)
      case atStart => exact ⟨0, rfl, H3.out⟩
      case round =>
        clear H3
        obtain ⟨i, rfl, A, dk, p, L, hi, hA, rfl, rfl, hdl, hps⟩ := hrel
        obtain ⟨t, ht⟩ : ∃ t, A.length = t := ⟨_, rfl⟩
        obtain ⟨aa, ca, rfl⟩ : ∃ aa ca, u14 = .slice aa t ca := by rw [← ht]; exact hps.slA
        obtain ⟨N, hN⟩ : ∃ N, dk.length = N := ⟨_, rfl⟩
        have HA : Hid (A.length = t ∧ Byt A ∧ t ≤ 131072 ∧ L.length ≤ 12 * i + t + 4 ∧ dk.length = N ∧ N ≤ 400000) := ⟨ht, hA.2, by rw [← ht]; exact hA.1, by rw [← ht]; exact hdl.2, hN, by rw [← hN]; exact hdl.1⟩
        have HFL : Hid ((fil key ++ A).length = fk + t) := by
          have : (fil key ++ A).length = fk + t := by rw [List.length_append, HFK.out, ht]
          exact this
        have HDL : Hid ((dig s key A).length ≤ 1000000) := by
          have : (dig s key A).length ≤ 1000000 := by rw [dig_len]; have := HZ.out.2; omega
          exact this
        have HLB : Hid (L.length ≤ 200000) := by
          have h1 := HA.out
          have h2 := HK.out.2.1
          have : L.length ≤ 200000 := by omega
          exact this
        rw [ht]
        rw [hN]
        have HPS := PS.hid hps
        clear hA hdl hps ht hN
        by_cases hlt : i < ms
        · have b1 : (i : Int) < (ms : Int) := by omega
          obtain ⟨b, o, u, rfl, hcc, hsu, hDb, hDm⟩ := HSC.out i hlt
          obtain ⟨D, hD⟩ : ∃ D, (S.getD i (false, [])).2 = D := ⟨_, rfl⟩
          obtain ⟨ask, hask⟩ : ∃ k, (S.getD i (false, [])).1 = k := ⟨_, rfl⟩
          rw [hD] at hsu hDb hDm
          rw [hask] at hcc
          obtain ⟨c1, c2⟩ := hcc wr HPS.out.old
          obtain ⟨au, cu, rfl, _, _⟩ := id (hsu [])
          obtain ⟨m, hm⟩ : ∃ m, D.length = m := ⟨_, rfl⟩
          have HD : Hid (Byt D ∧ D.length = m ∧ (∀ bx, Src q W bx (.slice au m cu) D)) := ⟨hDb, hm, by rw [← hm]; exact hsu⟩
          have HIN : Hid (i < ms ∧ ms ≤ 400) := ⟨hlt, HK.out.2.1⟩
          rw [hm] at c2
          obtain ⟨rx, hrx, hw1, hw2⟩ : ∃ rx, t + rx = 131072 ∧ wrap64 (131072 - (t : Int)) = (rx : Int) ∧ IntKind.i64.wrap (131072 - (t : Int)) = (rx : Int) := by
            have h3 := HA.out.2.2.1
            have k1 := wrapL (m := t) h3
            exact ⟨131072 - t, by omega, by rw [k1.1], by rw [k1.2]⟩
          have HRX : Hid (t + rx = 131072) := hrx
          clear hcc hsu hDb hDm hD hask hm hi hrx
          go_upto_region 23 with fail
          clear c1 c2
          have hps4 := HPS.out.add (w2 := wr.alloc (.cells #[.bool ask, .slice au m cu] 44)) ((Below.refl _ _).alloc (Nat.le_refl _) _) (Nat.le_refl _) (heap_alloc_new wr _)
          obtain ⟨px, hpx⟩ : ∃ px, wr.heap.size = px := ⟨_, rfl⟩
          obtain ⟨W4, hW4⟩ : ∃ V, wr.alloc (.cells #[.bool ask, .slice au m cu] 44) = V := ⟨_, rfl⟩
          rw [hpx, hW4] at hps4 ⊢
          have HP4 := PS.hid hps4
          have HX : Hid (∀ p M A dk va ve L E Y, PS q W R g p s key M A dk va ve L E [(px, Obj.cells #[.bool ask, .slice au m cu] 44)] Y → Y.cell? ⟨px, 0, none⟩ = some (.bool ask) ∧ Y.cell? ⟨px, 0 + 1, none⟩ = some (.slice au m cu) ∧ Y.cell? ⟨px, 1, none⟩ = some (.slice au m cu)) := fun p M A dk va ve L E Y h => by
            have hr := h.exR mem0
            refine ⟨?_, ?_, ?_⟩ <;> (rw [cell_of_row Y _ _ _ _ _ hr]; rfl)
          clear hps4 hpx hW4 HPS
          obtain ⟨x0, x1, x2⟩ := HX.out _ _ _ _ _ _ _ _ _ HP4.out
          by_cases hbg : rx < m
          · have b2 : (m : Int) > (rx : Int) := by omega
            have b2' : (rx : Int) < (m : Int) := by omega
            have HP5 : Hid (Below q W W4) := HP4.out.old
            go_wp2
            go_ret
            exact ⟨rfl, HP5.out⟩
          · have b2 : ¬ (m : Int) > (rx : Int) := by omega
            have b2' : ¬ (rx : Int) < (m : Int) := by omega
            have HM : Hid (m ≤ rx ∧ m ≤ 131072) := ⟨by omega, by have := HRX.out; omega⟩
            go_upto_region 25 with fail
            clear hw1 hw2 b2 b2' hbg
            cases ask
            · have hm1 := HM.out.2
              go_upto_region 30 with fail
              clear x0 x1 x2
              go_loopw [17] (fun vd w' => ∃ (p2 : Nat) (dk2 : List Int), vd = .slice (some ⟨p2, 0, none⟩) dk2.length dk2.length ∧ dk2.length ≤ 400000 ∧ PS q W R g p2 s key A A dk2 (.slice aa t ca) u15 L L [(px, Obj.cells #[.bool false, .slice au m cu] 44)] w') (fun vd _ => if sln vd < m + 70 then 1 else 0)
              case atStart => exact ⟨p, dk, by rw [HA.out.2.2.2.2.1], by rw [HA.out.2.2.2.2.1]; have := HA.out.2.2.2.2.2; omega, HP4.out⟩
              case round =>
                clear HP4
                obtain ⟨p2, dk2, rfl, hd2, hps⟩ := hrel
                obtain ⟨N2, hN2⟩ : ∃ N2, dk2.length = N2 := ⟨_, rfl⟩
                rw [hN2] at hd2 ⊢
                have HP2 := PS.hid hps
                have HN2 : Hid (dk2.length = N2 ∧ N2 ≤ 400000) := ⟨hN2, hd2⟩
                obtain ⟨x0, x1, x2⟩ := HX.out _ _ _ _ _ _ _ _ _ hps
                clear hps hN2
                by_cases hsh : N2 < m + 70
                · have b3 : (N2 : Int) < (m : Int) + 70 := by omega
                  have hmk := mk_b (2 * m + 70) (2 * (m : Int) + 70) (by omega) (by omega) wr
                  have hps5 := HP2.out.desk' (w2 := wr.alloc (.cells (VI .u8 (List.replicate (2 * m + 70) 0)) 5)) (dk' := List.replicate (2 * m + 70) 0) ((Below.refl _ _).alloc (Nat.le_refl _) _) (Nat.le_refl _) (heap_alloc_new wr _)
                  obtain ⟨p3, hp3⟩ : ∃ p, wr.heap.size = p := ⟨_, rfl⟩
                  obtain ⟨W5, hW5⟩ : ∃ V, wr.alloc (.cells (VI .u8 (List.replicate (2 * m + 70) 0)) 5) = V := ⟨_, rfl⟩
                  rw [hp3, hW5] at hmk hps5
                  have HP5 := PS.hid hps5
                  obtain ⟨N3, hN3⟩ : ∃ N3, 2 * m + 70 = N3 := ⟨_, rfl⟩
                  rw [hN3] at hmk HP5
                  have HN3 : Hid (2 * m + 70 = N3) := hN3
                  clear hps5 hp3 hW5 hN3
                  go_wp2
                  go_roundw
                  case rel => exact ⟨p3, List.replicate N3 0, by rw [List.length_replicate], by rw [List.length_replicate]; have := HN3.out; omega, HP5.out⟩
                  case measure =>
                    have h1 := HN3.out
                    show (if N3 < m + 70 then 1 else 0) < (if N2 < m + 70 then 1 else 0)
                    rw [if_pos hsh, if_neg (by omega)]; decide
                · have b3 : ¬ (N2 : Int) < (m : Int) + 70 := by omega
                  have CR : Hid _ := roomy_any wr D au m cu ((HP2.out.at_ (HD.out.2.2 []) []).rb (fun p hp => nomatch hp)) hm1
                  obtain ⟨gg, hgg⟩ : ∃ g, wr.heap.size = g := ⟨_, rfl⟩
                  rw [hgg] at CR
                  obtain ⟨K2, hK2⟩ : ∃ K, m + 70 = K := ⟨_, rfl⟩
                  rw [hK2] at CR
                  have HK2 : Hid (m + 70 = K2 ∧ K2 ≤ N2 ∧ (room D).length = K2) := ⟨hK2, by omega, by rw [room_len, HD.out.2.1]; exact hK2⟩
                  clear hK2
                  go_upto_region 33 with (first | (go_at_call 10; refine Calls.mono CR.out ?_; rintro e W5 ⟨rfl, h5⟩; have HG5 : Hid (W5.heap[gg]? = some (.cells (VI .u8 (room D)) 5)) := h5.row mem0; have HP5 := (HP2.out.below (by rw [hgg]; exact h5.old)).hid; clear h5 CR))
                  have HCP : Hid (∀ ty, ∃ w2, (Builtin.copy_ #[22, 22] ty #[.slice (some ⟨p2, 0, none⟩) N2 N2, .slice (some ⟨gg, 0, none⟩) K2 K2]).run Tryd.prog W5 = .ok (goInt K2) w2 ∧ PS q W R g p2 s key A A (room D ++ dk2.drop K2) (.slice aa t ca) u15 L L [(px, Obj.cells #[.bool false, .slice au m cu] 44)] w2) := fun ty => HP5.out.copy HG5.out HN2.out.1 HK2.out.2.2 HK2.out.2.1 ty
                  clear x0 x1 x2 hgg
                  obtain ⟨W6, hr6, h6⟩ := HCP.out 3
                  have HP6 : Hid (PS q W R g p2 s key A A (room D ++ dk2.drop K2) (.slice aa t ca) u15 L L [(px, Obj.cells #[.bool false, .slice au m cu] 44)] W6) := h6
                  clear h6 HCP
                  go_upto_region 34 with fail
                  clear hr6
                  have HDK : Hid ((room D ++ dk2.drop K2).length = N2 ∧ (room D ++ dk2.drop K2).take m = D ∧ (room D ++ dk2.drop K2).take K2 = room D) := by
                    refine ⟨?_, ?_, ?_⟩
                    · rw [List.length_append, List.length_drop, HK2.out.2.2, HN2.out.1]; have := HK2.out.2.1; omega
                    · rw [List.take_append_of_le_length (by rw [HK2.out.2.2, ← HK2.out.1]; omega)]
                      have := room_take D
                      rw [HD.out.2.1] at this
                      exact this
                    · rw [List.take_append_of_le_length (by rw [HK2.out.2.2]; exact Nat.le_refl _), List.take_of_length_le (by rw [HK2.out.2.2]; exact Nat.le_refl _)]
                  obtain ⟨dk3, hdk3⟩ : ∃ d, room D ++ dk2.drop K2 = d := ⟨_, rfl⟩
                  rw [hdk3] at HP6 HDK
                  obtain ⟨x0, x1, x2⟩ := HX.out _ _ _ _ _ _ _ _ _ HP6.out
                  have hpre := fun w => run_upS w p2 N2 N2 m (by omega)
                  have CW : Hid (Calls Tryd.prog 23 #[.pointer (some ⟨g, 0, none⟩), .slice (some ⟨p2, 0, none⟩) m N2] W6 fun e w2 => e = .returned (.tuple #[]) ∧ PS q W R g p2 s key (A ++ D) A dk3 (.slice aa t ca) u15 (L ++ wl (hl (fk + t)) m) L [(px, Obj.cells #[.bool false, .slice au m cu] 44)] w2) := by
                    have := HP6.out.write (m := m) (N := N2) HBE.out.1 HBE.out.2.1 HZ.out.2 HK.out.2.2.2 (by rw [HA.out.1]; have := HA.out.2.2.1; omega) HD.out.1 HDK.out.2.1 (by rw [HDK.out.1]; omega) (by omega) (by rw [HD.out.2.1]; have := HLB.out; omega) (by rw [HD.out.2.1]; omega)
                    rw [HFL.out, HD.out.2.1] at this
                    exact this
                  clear hdk3 HP5 HP2 HG5
                  go_upto_region 35 with (first | (go_at_call 23; refine Calls.mono CW.out ?_; rintro e W7 ⟨rfl, h7⟩; have HP7 := PS.hid h7; clear h7 CW))
                  clear x0 x1 x2 hpre HP6
                  have HRD : Hid ((∀ Y, PS q W R g p2 s key (A ++ D) A dk3 (.slice aa t ca) u15 (L ++ wl (hl (fk + t)) m) L [(px, Obj.cells #[.bool false, .slice au m cu] 44)] Y → RdB Y (.slice (some ⟨p2, 0, none⟩) K2 N2) (room D)) ∧ (∀ Y, PS q W R g p2 s key (A ++ D) A dk3 (.slice aa t ca) u15 (L ++ wl (hl (fk + t)) m) L [(px, Obj.cells #[.bool false, .slice au m cu] 44)] Y → RdB Y (.slice au m cu) D)) := by
                    refine ⟨fun Y hY => ?_, fun Y hY => (hY.at_ (HD.out.2.2 []) []).rb (fun p hp => nomatch hp)⟩
                    refine ⟨some ⟨p2, 0, none⟩, N2, by rw [HK2.out.2.2], by rw [HK2.out.2.2]; exact HK2.out.2.1, .inr ⟨p2, 0, rfl, fun j v hj => ?_⟩⟩
                    rw [cell_of_row Y _ _ _ _ _ hY.desk, Nat.zero_add, ← hj, ← HDK.out.2.2]
                    have hjl : j < K2 := by
                      have := (List.getElem?_eq_some_iff.1 hj).1
                      rw [List.length_map, HK2.out.2.2] at this
                      exact this
                    simp only [VI, List.getElem?_toArray, List.getElem?_map, List.getElem?_take_of_lt hjl]
                  have hpre2 := fun w => run_upS w p2 N2 N2 K2 HK2.out.2.1
                  refine wp_region_quiet_in (C := fun Y => PS q W R g p2 s key (A ++ D) A dk3 (.slice aa t ca) u15 (L ++ wl (hl (fk + t)) m) L [(px, Obj.cells #[.bool false, .slice au m cu] 44)] Y) (by kernel_rfl) (by kernel_rfl) (PS.below (show PS q W R g p2 s key (A ++ D) A dk3 (.slice aa t ca) u15 (L ++ wl (hl (fk + t)) m) L [(px, Obj.cells #[.bool false, .slice au m cu] 44)] W7 from HP7.out) (below_drew _)) ?_
                  refine wpQuiet_step (fun K hK => ?_)
                  go_simp
                  first | refine hK _ ?_ | refine ⟨_, fun _ _ => rfl, hK _ ?_⟩
                  clear hK K
                  try simp only [Act.put, List.getElem_toArray, List.getElem_cons_succ, List.getElem_cons_zero, List.getElem?_toArray, List.getElem?_cons_succ, List.getElem?_cons_zero, List.setIfInBounds_toArray, List.set_cons_zero, List.set_cons_succ]
                  refine wpQuiet_step (fun K hK => ?_)
                  go_simp
                  first | refine hK _ ?_ | refine ⟨_, fun _ _ => rfl, hK _ ?_⟩
                  clear hK K
                  try simp only [Act.put, List.getElem_toArray, List.getElem_cons_succ, List.getElem_cons_zero, List.getElem?_toArray, List.getElem?_cons_succ, List.getElem?_cons_zero, List.setIfInBounds_toArray, List.set_cons_zero, List.set_cons_succ]
                  refine wpQuiet_step (fun K hK => ?_)
                  go_simp
                  first | refine hK _ ?_ | refine ⟨_, fun _ _ => rfl, hK _ ?_⟩
                  clear hK K
                  try simp only [Act.put, List.getElem_toArray, List.getElem_cons_succ, List.getElem_cons_zero, List.getElem?_toArray, List.getElem?_cons_succ, List.getElem?_cons_zero, List.setIfInBounds_toArray, List.set_cons_zero, List.set_cons_succ]
                  refine wpQuiet_step (fun K hK => ?_)
                  go_simp
                  first | refine hK _ ?_ | refine ⟨_, fun _ _ => rfl, hK _ ?_⟩
                  clear hK K
                  try simp only [Act.put, List.getElem_toArray, List.getElem_cons_succ, List.getElem_cons_zero, List.getElem?_toArray, List.getElem?_cons_succ, List.getElem?_cons_zero, List.setIfInBounds_toArray, List.set_cons_zero, List.set_cons_succ]
                  refine wpQuiet_step (fun K hK => ?_)
                  go_simp
                  first | refine hK _ ?_ | refine ⟨_, fun _ _ => rfl, hK _ ?_⟩
                  clear hK K
                  try simp only [Act.put, List.getElem_toArray, List.getElem_cons_succ, List.getElem_cons_zero, List.getElem?_toArray, List.getElem?_cons_succ, List.getElem?_cons_zero, List.setIfInBounds_toArray, List.set_cons_zero, List.set_cons_succ]
                  refine wpQuiet_step (fun K hK => ?_)
                  refine if_pos_mpr (by kernel_rfl) ⟨.slice au m cu, fun Y hY => ?_, hK _ ?_⟩
                  · have cY := (HX.out _ _ _ _ _ _ _ _ _ hY).2.1; have cY2 := (HX.out _ _ _ _ _ _ _ _ _ hY).2.2
                    go_simp
                  clear hK K
                  try simp only [Act.put, List.getElem_toArray, List.getElem_cons_succ, List.getElem_cons_zero, List.getElem?_toArray, List.getElem?_cons_succ, List.getElem?_cons_zero, List.setIfInBounds_toArray, List.set_cons_zero, List.set_cons_succ]
                  refine wpQuiet_step (fun K hK => ?_)
                  refine if_pos_mpr (by kernel_rfl) ⟨.bool true, fun Y hY => ?_, hK _ ?_⟩
                  · go_simp
                    exact (stands_any Y D (some ⟨p2, 0, none⟩) au m K2 N2 cu (HRD.out.1 Y hY) (HRD.out.2 Y hY) HM.out.2).mono (fun e w' hh => ⟨hh.1, hY.below hh.2⟩)
                  clear hK K
                  try simp only [Act.put, List.getElem_toArray, List.getElem_cons_succ, List.getElem_cons_zero, List.getElem?_toArray, List.getElem?_cons_succ, List.getElem?_cons_zero, List.setIfInBounds_toArray, List.set_cons_zero, List.set_cons_succ]
                  refine wpQuiet_step (fun K hK => ?_)
                  go_simp
                  first | refine hK _ ?_ | refine ⟨_, fun _ _ => rfl, hK _ ?_⟩
                  clear hK K
                  try simp only [Act.put, List.getElem_toArray, List.getElem_cons_succ, List.getElem_cons_zero, List.getElem?_toArray, List.getElem?_cons_succ, List.getElem?_cons_zero, List.setIfInBounds_toArray, List.set_cons_zero, List.set_cons_succ]
                  intro w9 h9
                  have HP9 : Hid (PS q W R g p2 s key (A ++ D) A dk3 (.slice aa t ca) u15 (L ++ wl (hl (fk + t)) m) L [(px, Obj.cells #[.bool false, .slice au m cu] 44)] w9) := h9
                  clear h9 HP7 hpre2 HRD
                  go_wp2_with fail
                  go_loopw [23] (fun vk w' => ∃ (k : Nat) (dk4 : List Int), k ≤ N2 ∧ vk = .int .i64 (k : Int) ∧ dk4.length = N2 ∧ PS q W R g p2 s key (A ++ D) A dk4 (.slice aa t ca) u15 (L ++ wl (hl (fk + t)) m) L [(px, Obj.cells #[.bool false, .slice au m cu] 44)] w') (fun vk _ => N2 - (intOf vk).toNat)
                  case atStart => exact ⟨0, dk3, Nat.zero_le _, rfl, HDK.out.1, HP9.out⟩
                  case round =>
                    clear HP9
                    obtain ⟨k, dk4, hk4, rfl, hdk4, hps⟩ := hrel
                    by_cases hkt : k < N2
                    · have b4 : (k : Int) < (N2 : Int) := by omega
                      have hrow := hps.desk
                      have c1 : wr.cell? ⟨p2, k, none⟩ = some (.int .u8 (dk4.getD k 0)) := by rw [cell_of_row wr _ _ _ _ _ hrow, VI_at _ _ _ (by rw [hdk4]; exact hkt)]
                      have f1 : wr.frozen? ⟨p2, k, none⟩ = false := frozen_of_row wr _ _ _ _ hrow
                      have hps2 := hps.put (w2 := wr.setCell ⟨p2, k, none⟩ (.int .u8 153)) (dk' := dk4.set k 153) ((Grow.refl (fun k => k = p2) wr).setCell (p := ⟨p2, k, none⟩) (.inl rfl) _) (by
                        rw [heap_setCell_same wr _ _ _ _ _ hrow]
                        simp [VI, List.map_set])
                      obtain ⟨W8, hW8⟩ : ∃ V, wr.setCell ⟨p2, k, none⟩ (.int .u8 153) = V := ⟨_, rfl⟩
                      rw [hW8] at hps2
                      have HP8 := PS.hid hps2
                      have HL4 : Hid (dk4.length = N2) := hdk4
                      have hN3 := HN2.out.2
                      obtain ⟨z, hz⟩ : ∃ z, dk4.getD k 0 = z := ⟨_, rfl⟩
                      rw [hz] at c1
                      clear hps hps2 hrow hz hdk4
                      go_wp2
                      go_roundw
                      case rel => exact ⟨k + 1, dk4.set k 153, hkt, by go_num, by rw [List.length_set]; exact HL4.out, HP8.out⟩
                      case measure => simp [intOf]; omega
                    · have b4 : ¬ (k : Int) < (N2 : Int) := by omega
                      have HP8 := PS.hid hps
                      have HL4 : Hid (dk4.length = N2) := hdk4
                      obtain ⟨x0, x1, x2⟩ := HX.out _ _ _ _ _ _ _ _ _ hps
                      have CE : Hid _ := ewrite_any (hl (fk + t)) m (hl_le _) (by omega) wr
                      clear hps hdk4 hk4 hkt
                      go_upto_region 42 with (first | (go_at_call 24; refine Calls.mono CE.out ?_; rintro e wA ⟨uA, rfl, hA5⟩; have HPA := (HP8.out.below hA5.old).hid; have HAP : Hid _ := fun ty => HPA.out.appE hA5.own (wl_pos _ _ (hl_le _)) (by have := wl_short (hl (fk + t)) m (hl_le _); have := HLB.out; omega) ty; clear hA5 CE HP8))
                      clear x0 x1 x2
                      go_upto_region 43 with (first | (at_builtin; refine wpList_app _ rfl (.tmp 170) (.tmp 171) 36 36 rfl _ _ rfl rfl HAP.out ?_; intro vB wB hB5; have HPB := PS.hid hB5; clear hB5 HAP HPA))
                      obtain ⟨x0, x1, x2⟩ := HX.out _ _ _ _ _ _ _ _ _ HPB.out
                      have HAQ : Hid _ := fun ty => HPB.out.appA (HD.out.2.2 []) (by rw [HA.out.1, HD.out.2.1]; have := HA.out.2.2.1; omega) ty
                      go_wp2_with (first | (at_builtin; refine wpList_app _ rfl (.tmp 174) (.tmp 176) 22 22 rfl _ _ rfl rfl HAQ.out ?_; intro vC wC hC5; have HPC := (PS.drop hC5).hid; clear hC5 HAQ HPB))
                      go_roundw
                      case rel => exact ⟨i + 1, by rw [wrapS HIN.out.1 (by have := HIN.out.2; unfold maxLen; omega)]; exact congrArg (Value.int .i64) (by omega), A ++ D, dk4, p2, L ++ wl (hl (fk + t)) m, HIN.out.1, ⟨by rw [List.length_append, HA.out.1, HD.out.2.1]; have := HM.out.1; have := HRX.out; omega, byt_app HA.out.2.1 HD.out.1⟩, by rw [hl_step, List.length_append, HA.out.1, HD.out.2.1, Nat.add_assoc], by rw [HL4.out], ⟨by rw [HL4.out]; have := HN2.out.2; omega, by rw [List.length_append, List.length_append, HA.out.1, HD.out.2.1]; have := wl_short (hl (fk + t)) m (hl_le _); have := HA.out.2.2.2.1; omega⟩, HPC.out⟩
                      case measure => exact measS HIN.out.1 (by have := HIN.out.2; unfold maxLen; omega)
            · have CE : Hid _ := esum_any (hl (fk + t)) W4
              go_upto_region 27 with (first | (go_at_call 20; refine Calls.mono CE.out ?_; rintro e w5 ⟨u5, rfl, h5⟩; have HP5 := (PS.below HP4.out h5.old).hid; have HAP : Hid _ := fun ty => PS.appE HP5.out h5.own (by simp) (by simp only [List.length_cons, List.length_nil]; have := HLB.out; omega) ty; clear h5 CE) | (at_builtin; refine wpList_app _ rfl (.tmp 103) (.tmp 105) 36 36 rfl _ _ rfl rfl HAP.out ?_; intro v6 w6 h6; have HP6 := PS.hid h6; clear h6 HAP HP5))
              clear HP4
              have CR : Hid _ := PS.ref HP6.out HZ.out HK.out.2.2.2 HK.out.2.2.1 (HK.out.1 []) (PS.list HP6.out) HA.out.2.1 (by rw [HA.out.1]; have := HA.out.2.2.1; omega)
              go_upto_region 28 with (first | (go_at_call 12; refine Calls.mono CR.out ?_; rintro e w7 ⟨v7, lb7, rfl, h7, hs7⟩; have HP7 := PS.hid h7; have HS7 : Hid (Src q W _ v7 (dig s key A)) := hs7; clear h7 hs7 CR HP6))
              have CS : Hid _ := PS.sum HP7.out HBE.out.1 HBE.out.2.1 HZ.out.2 HK.out.2.2.2 (by rw [HA.out.1]; have := HA.out.2.2.1; omega) (by have := HLB.out; omega)
              go_wp2_with (first | (go_at_call 22; refine Calls.mono CS.out ?_; rintro e w8 ⟨us, rfl, h8, hr8⟩; have HP8 := PS.hid h8; have CQ : Hid _ := same_any _ _ (dig s key A) HDL.out w8 hr8 (PS.rb h8 HS7.out); clear h8 hr8 CS HP7) | (go_at_call 21; refine Calls.mono CQ.out ?_; rintro e w9 ⟨rfl, hb9⟩; have HP9 := (PS.below HP8.out hb9).hid; clear hb9 CQ HP8))
              go_roundw
              case rel => exact ⟨i + 1, by rw [wrapS HIN.out.1 (by have := HIN.out.2; unfold maxLen; omega)]; exact congrArg (Value.int .i64) (by omega), A, dk, p, L ++ [(2, ((hl (fk + t) : Nat) : Int)), (3, 31)], HIN.out.1, ⟨by rw [HA.out.1]; exact HA.out.2.2.1, HA.out.2.1⟩, by rw [HA.out.1], by rw [HA.out.2.2.2.2.1], ⟨by rw [HA.out.2.2.2.2.1]; exact HA.out.2.2.2.2.2, by rw [HA.out.1]; have := HA.out.2.2.2.1; simp only [List.length_append, List.length_cons, List.length_nil]; omega⟩, by have := PS.drop HP9.out; rw [HFL.out] at this; exact this⟩
              case measure => exact measS HIN.out.1 (by have := HIN.out.2; unfold maxLen; omega)
        · have b1 : ¬ (i : Int) < (ms : Int) := by omega
          clear hlt hi
          have CE : Hid _ := esum_any (hl (fk + t)) wr
          go_upto_region 46 with (first | (go_at_call 20; refine Calls.mono CE.out ?_; rintro e w5 ⟨u5, rfl, h5⟩; have HP5 := (PS.below HPS.out h5.old).hid; have HAP : Hid _ := fun ty => PS.appE HP5.out h5.own (by simp) (by simp only [List.length_cons, List.length_nil]; have := HLB.out; omega) ty; clear h5 CE) | (at_builtin; refine wpList_app _ rfl (.tmp 178) (.tmp 180) 36 36 rfl _ _ rfl rfl HAP.out ?_; intro v6 w6 h6; have HP6 := PS.hid h6; clear h6 HAP HP5))
          clear HPS
          have CR : Hid _ := PS.ref HP6.out HZ.out HK.out.2.2.2 HK.out.2.2.1 (HK.out.1 []) (PS.list HP6.out) HA.out.2.1 (by rw [HA.out.1]; have := HA.out.2.2.1; omega)
          go_upto_region 47 with (first | (go_at_call 12; refine Calls.mono CR.out ?_; rintro e w7 ⟨v7, lb7, rfl, h7, hs7⟩; have HP7 := PS.hid h7; have HS7 : Hid (Src q W _ v7 (dig s key A)) := hs7; clear h7 hs7 CR HP6))
          have CS : Hid _ := PS.sum HP7.out HBE.out.1 HBE.out.2.1 HZ.out.2 HK.out.2.2.2 (by rw [HA.out.1]; have := HA.out.2.2.1; omega) (by have := HLB.out; omega)
          go_wp2_with (first | (go_at_call 22; refine Calls.mono CS.out ?_; rintro e w8 ⟨us, rfl, h8, hr8⟩; have HP8 := PS.hid h8; have CQ : Hid _ := same_any _ _ (dig s key A) HDL.out w8 hr8 (PS.rb h8 HS7.out); clear h8 hr8 CS HP7) | (go_at_call 21; refine Calls.mono CQ.out ?_; rintro e w9 ⟨rfl, hb9⟩; have HP9 := (PS.below HP8.out hb9).hid; have CV : Hid _ := v_events (PS.rec HP9.out) (by simp only [List.length_append, List.length_cons, List.length_nil]; have := HLB.out; omega); clear hb9 CQ HP8) | (go_at_call 16; refine Calls.mono CV.out ?_; rintro e w10 ⟨uv, rfl, hov, hb10⟩; have HP10 := (PS.below HP9.out hb10).hid; have CY : Hid (Calls Tryd.prog 15 #[uv, v6] w10 fun e w' => e = .returned (.bool true) ∧ Below w10.heap.size w10 w') := same_own (by rw [HFL.out] at hov; exact hov) (PS.ownE HP10.out) (by simp only [List.length_append, List.length_cons, List.length_nil]; have := HLB.out; omega); clear hov hb10 CV HP9) | (go_at_call 15; refine Calls.mono CY.out ?_; rintro e w11 ⟨rfl, hb11⟩; have HP11 := (PS.below HP10.out hb11).hid; have CK : Hid (Calls Tryd.prog 18 #[] w11 fun e w' => e = .returned (.bool true) ∧ Below q W w') := known_at (PS.old HP11.out) HBE.out.1 HBE.out.2.1 HBE.out.2.2 (PS.le HP11.out); clear hb11 CY HP10) | (go_at_call 18; refine Calls.mono CK.out ?_; rintro e w12 ⟨rfl, h12⟩; have H12 : Hid _ := h12; clear h12 CK))
          go_ret
          exact ⟨rfl, H12.out⟩
end Go.Proofs.YtfkbgodfcnmepaaDoor
namespace Go.Proofs.YtfkbgodfcnmepaaDoor
set_option linter.unusedSimpArgs false
set_option linter.unusedVariables false
open Go.ChangeShapes Go.WideShapes Go.ChangeAt Go.RowKit Go.Pin Go.Str Go.Dig
set_option maxRecDepth 100000 in
set_option maxHeartbeats 40000000 in
theorem plays_bad (n : Nat) (z : Int) (hz : z < 1 ∨ 32 < z ∨ 32 < n) (hnb : n ≤ 131072) (key : List Int) (hkb : Byt key) (hkn : key.length = n) (a : Option Addr) (cap : Nat) (S : List Stp) (sa : Option Addr) (caps : Nat) (W : World) (q : Nat) (hq : W.heap.size = q) (hk : ∀ bx, Src q W bx (.slice a n cap) key) (ms : Nat) (hms : S.length = ms) (hm : ms ≤ 400) (hS : Scr W sa S) (hb : ∀ q ∈ S, Byt q.2 ∧ q.2.length ≤ maxLen) (hB : Beg W) (hE : ∃ a, W.cell? ⟨0, 0, none⟩ = some (.iface 120 (.pointer (some a)))) :
    Calls Tryd.prog 4 #[.int .i64 z, .slice a n cap, .slice sa ms caps] W fun e w' => e = .returned (.bool true) ∧ Below q W w' := by
  have h1 := ev_new W
  have cn := new_any W
  rw [hq] at h1 cn
  obtain ⟨R, hR⟩ : ∃ R, q = R := ⟨_, rfl⟩
  obtain ⟨W1, hW1⟩ : ∃ V, W.alloc (.cells #[.slice none 0 0, .int .i64 0] 76) = V := ⟨_, rfl⟩
  rw [hW1] at h1 cn
  have hs1 : W1.heap.size = q + 1 := by rw [← hW1, size_alloc, hq]
  have CN : Hid (Calls Tryd.prog 9 #[] W fun e w' => e = .returned (.pointer (some ⟨R, 0, none⟩)) ∧ w' = W1) := by rw [← hR]; exact cn
  have H1 : Hid (Ev q W (.pointer (some ⟨R, 0, none⟩)) [] [] W1) := by rw [← hR]; exact h1
  have HK : Hid ((∀ bx, Src q W bx (.slice a n cap) key) ∧ ms ≤ 400 ∧ n ≤ 131072) := ⟨hk, hm, hnb⟩
  have HKN : Hid (key.length = n) := hkn
  have HBE : Hid (Beg W ∧ 2 ≤ q ∧ ∃ a, W.cell? ⟨0, 0, none⟩ = some (.iface 120 (.pointer (some a)))) := ⟨hB, by rw [← hq]; exact hB.2, hE⟩
  have HZ : Hid (z < 1 ∨ 32 < z ∨ 32 < n) := hz
  obtain ⟨ea, hea⟩ := HBE.out.2.2
  have HEA : Hid (W.cell? ⟨0, 0, none⟩ = some (.iface 120 (.pointer (some ea)))) := hea
  have b0 : ¬ (400 : Int) < (ms : Int) := by omega
  have b1 : ¬ (131072 : Int) < (n : Int) := by omega
  clear hk hkn hkb h1 cn hB hE hz hm hnb hS hb hms hW1 hR hea
  go_enter Tryd.func4, Tryd.ntmps4
  go_upto_region 4 with (first | (go_at_call 9; refine Calls.mono CN.out ?_; rintro e V1 ⟨rfl, hV⟩; obtain rfl := hV))
  clear CN b0 b1
  have HAP : Hid (∀ ty, ∃ v' w', (Builtin.append_ #[22, 22] ty #[.slice (some ⟨q + 1, 0, none⟩) 0 0, .slice a n cap]).run Tryd.prog (V1.alloc (.cells #[] 5)) = .ok v' w' ∧ LE 5 1 v' n (key.map (Value.int .u8)) q W (.pointer (some ⟨R, 0, none⟩)) [] [] w') := fun ty => by
    have hnew := H1.out.new (.cells #[] 5)
    rw [hs1] at hnew
    have := LE.appB (A := []) ⟨_, lst_zero (q + 1), hnew, (fun p hp r hr => nomatch hr)⟩ ty (HK.out.1 []) (by rw [HKN.out]; have := HK.out.2.2; omega)
    rw [HKN.out, Nat.zero_add, List.nil_append] at this
    exact this
  clear H1 hq
  go_upto_region 5 with (first | (at_builtin; refine wpList_app _ rfl (.tmp 37) (.tmp 38) 22 22 rfl _ _ rfl rfl HAP.out ?_; intro vt w2 h2; obtain ⟨lb, k1, k2, k3⟩ := h2; rw [List.append_nil] at k2; have HE2 : Hid (Ev q W (.pointer (some ⟨R, 0, none⟩)) [] lb w2) := k2; have HL : Hid (Lst 5 1 vt n (key.map (Value.int .u8)) lb) := k1; clear k1 k2 k3 HAP))
  obtain ⟨a8, c8, rfl⟩ := HL.out.slice'
  have CD : Hid _ := dnew_bad HE2.out (fun _ => by simp) z (.iface 120 (.pointer (some ea))) HEA.out (by have := HBE.out.2.1; omega) a8 n c8 HZ.out
  clear HL hs1
  go_upto_region 6 with (first | (go_at_call 11; refine Calls.mono CD.out ?_; rintro e w3 ⟨rfl, h3⟩; have H3 : Hid _ := h3; clear h3 CD HE2))
  have CS : Hid _ := rsum_bad w3 z a n cap (.slice none 0 0) HZ.out
  have CC : Hid _ := code_arg w3 ea (err_at H3.out.old HBE.out.2.1 HEA.out)
  have CK : Hid (Calls Tryd.prog 18 #[] w3 fun e w' => e = .returned (.bool true) ∧ Below q W w') := known_at H3.out.old HBE.out.1 HBE.out.2.1 HBE.out.2.2 H3.out.le
  go_wp2_with (first | (go_at_call 12; refine Calls.mono CS.out ?_; rintro e w4 ⟨rfl, hV⟩; obtain rfl := hV; clear CS) | (go_at_call 13; refine Calls.mono CC.out ?_; rintro e w5 ⟨rfl, hV⟩; obtain rfl := hV; clear CC) | (go_at_call 18; refine Calls.mono CK.out ?_; rintro e w9 ⟨rfl, h9⟩; have H9 : Hid _ := h9; clear h9 CK))
  go_ret
  exact ⟨rfl, H9.out⟩
set_option maxRecDepth 100000 in
set_option maxHeartbeats 8000000 in
theorem plays_walk (z : Int) (key : List Int) (hkb : Byt key) (a : Option Addr) (n cap : Nat) (W : World) (hR : RdB W (.slice a n cap) key) (S : List Stp) (sa : Option Addr) (caps : Nat) (hS : Scr W sa S) (hb : ∀ q ∈ S, Byt q.2 ∧ q.2.length ≤ maxLen) (hB : Beg W) (hE : ∃ a, W.cell? ⟨0, 0, none⟩ = some (.iface 120 (.pointer (some a)))) :
    Calls Tryd.prog 4 #[.int .i64 z, .slice a n cap, .slice sa S.length caps] W fun e w' => e = .returned (.bool true) ∧ Below W.heap.size W w' := by
  obtain ⟨q, hq⟩ : ∃ q, W.heap.size = q := ⟨_, rfl⟩
  obtain ⟨ms, hms⟩ : ∃ ms, S.length = ms := ⟨_, rfl⟩
  have hkn := (rdb_at hq hR).1
  have hk : ∀ bx, Src q W bx (.slice a n cap) key := fun bx => by rw [← hq]; exact hR.src bx
  rw [hq, hms]
  by_cases hm : ms ≤ 400
  · by_cases hn : n ≤ 131072
    · by_cases h1 : z < 1 ∨ 32 < z ∨ 32 < n
      · exact plays_bad n z h1 hn key hkb hkn a cap S sa caps W q hq hk ms hms hm hS hb hB hE
      · obtain ⟨s, rfl⟩ : ∃ s : Nat, z = (s : Int) := ⟨z.toNat, by omega⟩
        exact plays_main n s (by omega) (by omega) key hkb hkn a cap S sa caps W q hq hk ms hms hm hS hb hB hE
    · have b0 : ¬ (400 : Int) < (ms : Int) := by omega
      have b1 : (131072 : Int) < (n : Int) := by omega
      have b1' : 131072 < n := by omega
      have HB0 : Hid (Below q W W) := Below.refl _ _
      clear hk hkn hR hS hb hB hE hms
      go_enter Tryd.func4, Tryd.ntmps4
      go_wp2
      go_ret
      exact ⟨rfl, HB0.out⟩
  · have b0 : (400 : Int) < (ms : Int) := by omega
    have b0' : 400 < ms := by omega
    have HB0 : Hid (Below q W W) := Below.refl _ _
    clear hk hkn hR hS hb hB hE hms
    go_enter Tryd.func4, Tryd.ntmps4
    go_wp2
    go_ret
    exact ⟨rfl, HB0.out⟩
end Go.Proofs.YtfkbgodfcnmepaaDoor
