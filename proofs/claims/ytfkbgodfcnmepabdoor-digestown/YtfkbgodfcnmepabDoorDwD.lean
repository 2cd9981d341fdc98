import Derived.Test.YtfkbgodfcnmepabDoorDwC
import Derived.Lib.SlBytesConst
import Derived.ArgAppend
namespace Go.Proofs.YtfkbgodfcnmepabDoor
set_option linter.unusedSimpArgs false
set_option linter.unusedVariables false
open Go.ChangeShapes Go.WideShapes Go.ChangeAt Go.RowKit Go.Pin Go.Str Go.Dig
set_option maxRecDepth 100000 in
set_option maxHeartbeats 16000000 in
theorem own_main (s n : Nat) (hz : 1 ≤ s ∧ s ≤ 32) (hn : n ≤ 32) (key D : List Int) (hkb : Byt key) (hkn : key.length = n) (hDb : Byt D) (m : Nat) (hDm : D.length = m) (hm : m ≤ 131072) (ak : Option Addr) (ck : Nat) (ad : Option Addr) (cd : Nat) (W : World) (q : Nat) (hq : W.heap.size = q) (hk : ∀ bx, Src q W bx (.slice ak n ck) key) (hd : ∀ bx, Src q W bx (.slice ad m cd) D) (hB : Beg W) (hE : ∃ a, W.cell? ⟨0, 0, none⟩ = some (.iface 89 (.pointer (some a)))) :
    Calls Tryd.prog 3 #[.int .i64 (s : Int), .slice ak n ck, .slice ad m cd] W fun e w' => e = .returned (.bool true) ∧ Below q W w' := by
  have e0 := ev_nil' W
  rw [hq] at e0
  have HBE : Hid (Beg W ∧ 2 ≤ q ∧ ∃ a, W.cell? ⟨0, 0, none⟩ = some (.iface 89 (.pointer (some a)))) := ⟨hB, by rw [← hq]; exact hB.2, hE⟩
  have HOK : Hid (OwOk s key D oth) := ⟨hz, by rw [hkn]; exact hn, hkb, hDb, by rw [hDm]; exact hm, by decide⟩
  have HDS : Hid ((∀ bx, Src q W bx (.slice ad m cd) D) ∧ D.length = m) := ⟨hd, hDm⟩
  have CD1 : Hid _ := dnew_any e0 (fun hr => absurd rfl hr) s hz hB (by rw [← hq]; exact hB.2) _ key (hk []) (by rw [hkn]; exact hn) hkb
  have b0 : ¬ (131072 : Int) < (n : Int) := by omega
  have b1 : ¬ (131072 : Int) < (m : Int) := by omega
  clear e0 hq hB hE hz hn hkb hkn hDb hDm hm hk hd
  go_enter Tryd.func3, Tryd.ntmps3
  go_upto_region 4 with (first | (go_at_call 5; refine Calls.mono CD1.out ?_; rintro e w1 ⟨gh, rfl, o1, _, hs1, h1⟩; have CD2 : Hid _ := dnew_g (h1.nilOf []) HBE.out.1 HBE.out.2.1; have HS1 : Hid (HSt (.pointer none) s (h0 s key.length) (fil key) o1) := hs1; clear h1 hs1 CD1))
  clear b0 b1
  go_upto_region 5 with (first | (go_at_call 5; refine Calls.mono CD2.out ?_; rintro e w2 ⟨gg, bg, rfl, hne, hs2, h2⟩; have CC : Hid _ := code_nil w2; have H2 : Hid _ := h2; have HG : Hid (gh ≠ gg ∧ HSb [] bg) := ⟨hne _ mem0, hs2⟩; clear h2 hne hs2 CD2))
  obtain ⟨b1, hb1, ho1⟩ := HS1.out.blk
  subst ho1
  have CW : Hid _ := dwrite_src hb1 (H2.out.flip) (h0_s8 HOK.out.1.2 HOK.out.2.1) (fun hr => absurd rfl hr) (fun p hp => by rw [List.mem_singleton.1 hp]; exact fun e => HG.out.1 e.symm) (HDS.out.1 _) HOK.out.2.2.2.1 (by have h1 := fil_len key HOK.out.2.1; have h2 := HOK.out.2.2.2.2.1; rw [h1]; split <;> omega) HBE.out.1 HBE.out.2.1
  clear hb1
  go_upto_region 10 with (first | (go_at_call 6; refine Calls.mono CC.out ?_; rintro e w3 ⟨rfl, hV⟩; obtain rfl := hV; clear CC) | (go_at_call 8; refine Calls.mono CW.out ?_; rintro e w4 ⟨rfl, b2, k1, k2⟩; have H4 : Hid _ := k2.nilOf []; have HB4 : Hid (HSb (fil key ++ D) b2) := k1; clear k1 k2 CW))
  obtain ⟨g1, W3, hg1, hcv, co⟩ : ∃ g1 W3, w4.heap.size = g1 ∧ (convert 22 22 (.slice (some ⟨g1, 0, none⟩) 5 5)).run Tryd.prog (w4.alloc (.cells #[.int .u8 111, .int .u8 116, .int .u8 104, .int .u8 101, .int .u8 114] 5)) = .ok (.slice (some ⟨g1, 0, none⟩) 5 5) W3
      ∧ Calls Tryd.prog 8 #[.pointer (some ⟨gg, 0, none⟩), .slice (some ⟨g1, 0, none⟩) 5 5] W3 fun e w' => e = .returned (.tuple #[]) ∧ OW q W gh gg s key D oth [] w' := by
    have h5 := H4.out.new (.cells (VI .u8 oth) 5 (5, 6))
    refine ⟨_, w4.alloc (.cells (VI .u8 oth) 5 (5, 6)), rfl, Lib.run_convert_bytes_const (P := Tryd.prog) w4 22 5 #[.int .u8 111, .int .u8 116, .int .u8 104, .int .u8 101, .int .u8 114] 5 5 Tryd.underlying22 Tryd.underlying5, ?_⟩
    have hgw := H4.out.lt mem1
    have h6 : Ev q W (.pointer none) [] ((gg, hst (.pointer none) 32 (h0 32 0) [] bg) :: (gh, hst (.pointer none) s (h0 s key.length) (fil key ++ D) b2) :: [(w4.heap.size, .cells (VI .u8 oth) 5 (5, 6))]) (w4.alloc (.cells (VI .u8 oth) 5 (5, 6))) := h5.sub (fun p hp => by
      simp only [List.mem_cons, List.not_mem_nil, or_false] at hp ⊢
      rcases hp with hp | hp | hp
      · exact .inr (.inr hp)
      · exact .inr (.inl hp)
      · exact .inl hp)
    refine (dwrite_src (D := oth) HG.out.2 h6 (h0_s8 (by decide) (by decide)) (fun hr => absurd rfl hr) (fun p hp => ?_) (src_box (L := oth) mem1 0 5 5 (by decide) (by decide)) oth_b (by decide) HBE.out.1 HBE.out.2.1).mono ?_
    · simp only [List.mem_cons, List.not_mem_nil, or_false] at hp
      rcases hp with rfl | rfl
      · exact HG.out.1
      · show w4.heap.size ≠ gg; omega
    · rintro e w' ⟨rfl, b3, k1, k2⟩
      refine ⟨rfl, b2, b3, HB4.out, k1, (k2.nilOf []).sub (fun p hp => ?_), ?_⟩
      · simp only [List.mem_cons, List.not_mem_nil, or_false] at hp ⊢
        rcases hp with hp | hp
        · exact .inr (.inl hp)
        · exact .inl hp
      · have := HG.out.1
        simpa using this
  have CO : Hid _ := co
  clear co H2 H4 HG HB4 HS1
  go_upto_region 11 with (first | (go_at_call 8; refine Calls.mono CO.out ?_; rintro e w6 ⟨rfl, h6⟩; have H6 := OW.hid h6; clear h6 CO))
  have h7 := H6.out.add (w2 := w6.alloc (arr8 [])) ((Below.refl _ _).alloc (Nat.le_refl _) _) (Nat.le_refl _) (heap_alloc_new w6 _)
  obtain ⟨p11, hp11⟩ : ∃ p, w6.heap.size = p := ⟨_, rfl⟩
  obtain ⟨W7, hW7⟩ : ∃ V, w6.alloc (arr8 []) = V := ⟨_, rfl⟩
  rw [hp11, hW7] at h7
  have hW7' : w6.alloc (.cells #[.slice none 0 0, .slice none 0 0, .slice none 0 0, .slice none 0 0, .slice none 0 0, .slice none 0 0, .slice none 0 0, .slice none 0 0] 31) = W7 := hW7
  have H7 : Hid (OW q W gh gg s key D oth ((p11, arr8 []) :: ([] : List (Nat × List Int)).map bxB) W7) := h7
  clear h7 hW7 H6 hg1 hcv
  go_upto_region 13 with fail
  clear hW7' hp11
  go_loopw [12] (fun v w' => ∃ K : List (Nat × List Int), (0 ≤ K.length ∧ K.length ≤ 4) ∧ v = .int .i64 (K.length : Int) ∧ Rws s key D K ∧ OW q W gh gg s key D oth ((p11, arr8 K) :: K.map bxB) w') (fun v _ => 4 - (intOf v).toNat)
  case atStart => exact ⟨[], ⟨by decide, by decide⟩, rfl, (fun j p hp => nomatch hp), H7.out⟩
  case round =>
    clear H7
    obtain ⟨K, hK4, rfl, hK, how⟩ := hrel
    obtain ⟨i, hi⟩ : ∃ i, K.length = i := ⟨_, rfl⟩
    rw [hi] at hK4 ⊢
    have HK : Hid (K.length = i ∧ Rws s key D K ∧ 0 ≤ i) := ⟨hi, hK, hK4.1⟩
    have HOW := how.hid
    clear hi hK
    by_cases hlt : i < 4
    · have b2 : (i : Int) < 4 := by omega
      have HI : Hid (i < 4) := hlt
      have CS : Hid _ := how.sumH HOK.out HBE.out.1 HBE.out.2.1
      clear how hK4
      go_wp2_with (first | (go_at_call 9; refine Calls.mono CS.out ?_; rintro e w2 ⟨g2, rfl, h2⟩; obtain ⟨⟨v8, c8⟩, f8, h8⟩ := OW.store (p := (g2, dig s key D)) (by rw [HK.out.1]; have := HI.out; omega) h2; rw [HK.out.1] at c8 f8 h8; have e8 : sl (g2, dig s key D) = .slice (some ⟨g2, 0, none⟩) s s := (by unfold sl; rw [dig_len]); rw [e8] at h8; obtain ⟨W8, hW8⟩ : ∃ V, w2.setCell ⟨p11, i, none⟩ (.slice (some ⟨g2, 0, none⟩) s s) = V := ⟨_, rfl⟩; rw [hW8] at h8; have H8 := h8.hid; clear h2 h8 e8 CS))
      go_roundw
      case rel => exact ⟨K ++ [(g2, dig s key D)], by rw [List.length_append, HK.out.1]; have := HI.out; have := HK.out.2.2; simp; omega, by rw [List.length_append, HK.out.1]; go_num, HK.out.2.1.snoc (by rw [HK.out.1]; unfold rwo; rw [if_pos HI.out]), by rw [List.map_append]; exact H8.out⟩
      case measure => simp [intOf]; omega
    · have b2 : ¬ (i : Int) < 4 := by omega
      have ei : i = 4 := by omega
      have HE : Hid (i = 4) := ei
      clear how hK4 hlt ei
      go_upto_region 17 with fail
      go_loopw [13] (fun v w' => ∃ K : List (Nat × List Int), (4 ≤ K.length ∧ K.length ≤ 8) ∧ v = .int .i64 (K.length : Int) ∧ Rws s key D K ∧ OW q W gh gg s key D oth ((p11, arr8 K) :: K.map bxB) w') (fun v _ => 8 - (intOf v).toNat)
      case atStart => exact ⟨K, ⟨by rw [HK.out.1, HE.out]; decide, by rw [HK.out.1, HE.out]; decide⟩, by rw [HK.out.1, HE.out]; rfl, HK.out.2.1, HOW.out⟩
      case round =>
        clear HOW HK HE
        obtain ⟨K, hK4, rfl, hK, how⟩ := hrel
        obtain ⟨i, hi⟩ : ∃ i, K.length = i := ⟨_, rfl⟩
        rw [hi] at hK4 ⊢
        have HK : Hid (K.length = i ∧ Rws s key D K ∧ 4 ≤ i) := ⟨hi, hK, hK4.1⟩
        have HOW := how.hid
        clear hi hK
        by_cases hlt : i < 8
        · have b2 : (i : Int) < 8 := by omega
          have HI : Hid (i < 8) := hlt
          have CS : Hid _ := how.sumG HOK.out HBE.out.1 HBE.out.2.1
          clear how hK4
          go_wp2_with (first | (go_at_call 9; refine Calls.mono CS.out ?_; rintro e w2 ⟨g2, rfl, h2⟩; obtain ⟨⟨v8, c8⟩, f8, h8⟩ := OW.store (p := (g2, dig 32 [] oth)) (by rw [HK.out.1]; have := HI.out; omega) h2; rw [HK.out.1] at c8 f8 h8; have e8 : sl (g2, dig 32 [] oth) = .slice (some ⟨g2, 0, none⟩) 32 32 := (by unfold sl; rw [dig_len]); rw [e8] at h8; obtain ⟨W8, hW8⟩ : ∃ V, w2.setCell ⟨p11, i, none⟩ (.slice (some ⟨g2, 0, none⟩) 32 32) = V := ⟨_, rfl⟩; rw [hW8] at h8; have H8 := h8.hid; clear h2 h8 e8 CS))
          go_roundw
          case rel => exact ⟨K ++ [(g2, dig 32 [] oth)], by rw [List.length_append, HK.out.1]; have := HI.out; have := HK.out.2.2; simp; omega, by rw [List.length_append, HK.out.1]; go_num, HK.out.2.1.snoc (by rw [HK.out.1]; unfold rwo; rw [if_neg (by have := HK.out.2.2; omega)]), by rw [List.map_append]; exact H8.out⟩
          case measure => simp [intOf]; omega
        · have b2 : ¬ (i : Int) < 8 := by omega
          have ei : i = 8 := by omega
          have hKl : K.length = 8 := by rw [HK.out.1, ei]
          obtain ⟨k0, hk0⟩ : ∃ p, K[0]? = some p := ⟨_, List.getElem?_eq_getElem (by omega)⟩
          obtain ⟨k4, hk4⟩ : ∃ p, K[4]? = some p := ⟨_, List.getElem?_eq_getElem (by omega)⟩
          have r0 := HK.out.2.1 0 k0 hk0
          have r4 := HK.out.2.1 4 k4 hk4
          obtain ⟨g0, R0⟩ := k0
          obtain ⟨g4, R4⟩ := k4
          simp only [rwo, show (0 : Nat) < 4 by decide, if_true] at r0
          simp only [rwo, show ¬ (4 : Nat) < 4 by decide, if_false] at r4
          subst r0
          subst r4
          have c0 := how.cell hk0
          have c4 := how.cell hk4
          have c0a := (how.below (w2 := wr.alloc (.cells #[] 5)) ((Below.refl _ _).alloc (Nat.le_refl _) _)).cell hk0
          simp only [sl, dig_len] at c0 c4 c0a
          have HAP : Hid _ := fun ty => how.copy (g := g0) (n := s) (R := dig s key D) (memr1 (bxB_mem hk0)) (dig_len _ _ _) (by have := HOK.out.1.2; omega) ty
          have HK8 : Hid (K.length = 8 ∧ Rws s key D K ∧ K[0]? = some (g0, dig s key D) ∧ K[4]? = some (g4, dig 32 [] oth)) := ⟨hKl, HK.out.2.1, hk0, hk4⟩
          clear hKl hk0 hk4 how hK4 hlt ei HOW HK
          go_upto_region 21 with fail
          go_upto_region 22 with (first | (at_builtin; refine wpList_app _ rfl (.tmp 87) (.tmp 89) 22 22 rfl _ _ rfl rfl HAP.out ?_; intro vw w5 h5; obtain ⟨lw, hLw, ho5⟩ := h5; have HLW : Hid (Lst 5 1 vw s ((dig s key D).map (Value.int .u8)) lw) := hLw; have c4' := (ho5.below (w2 := w5.alloc (.cells #[] 5)) ((Below.refl _ _).alloc (Nat.le_refl _) _)).cell HK8.out.2.2.2; have HAQ : Hid _ := (fun ty => ho5.copy (g := g4) (n := 32) (R := dig 32 [] oth) (List.mem_append_left _ (memr1 (bxB_mem HK8.out.2.2.2))) (dig_len _ _ _) (by decide) ty); clear hLw ho5 HAP))
          simp only [sl, dig_len] at c4'
          clear c0 c4 c0a
          go_upto_region 24 with (first | (at_builtin; refine wpList_app _ rfl (.tmp 91) (.tmp 93) 22 22 rfl _ _ rfl rfl HAQ.out ?_; intro vo w6 h6; obtain ⟨lo, hLo, ho6⟩ := h6; have HLO : Hid (Lst 5 1 vo 32 ((dig 32 [] oth).map (Value.int .u8)) lo) := hLo; have H6' := OW.hid ho6; clear hLo ho6 HAQ))
          have e6 : ((p11, arr8 K) :: K.map bxB) ++ lw ++ lo = (p11, arr8 K) :: (K.map bxB ++ (lw ++ lo)) := by simp
          rw [e6] at H6'
          have H6 : Hid (OW q W gh gg s key D oth ((p11, arr8 K) :: (K.map bxB ++ (lw ++ lo))) w6) := H6'
          clear e6 H6'
          clear c4'
          obtain ⟨aw, cw, rfl⟩ := HLW.out.slice'
          obtain ⟨aq, cq, rfl⟩ := HLO.out.slice'
          have HSW : Hid (Src q W ((p11, arr8 K) :: (K.map bxB ++ (lw ++ lo))) (.slice aw s cw) (dig s key D) ∧ Src q W ((p11, arr8 K) :: (K.map bxB ++ (lw ++ lo))) (.slice aq 32 cq) (dig 32 [] oth) ∧ (dig s key D).length = s ∧ (dig 32 [] oth).length = 32) := by
            have e1 : (dig s key D).length = s := dig_len _ _ _
            have e2 : (dig 32 [] oth).length = 32 := dig_len _ _ _
            refine ⟨Lst.src (A := dig s key D) (by rw [e1]; exact HLW.out) (fun p hp => memr1 (List.mem_append_right _ (List.mem_append_left _ hp))), Lst.src (A := dig 32 [] oth) (by rw [e2]; exact HLO.out) (fun p hp => memr1 (List.mem_append_right _ (List.mem_append_right _ hp))), e1, e2⟩
          go_loopw [17] (fun v w' => ∃ i : Nat, i ≤ 4 ∧ v = .int .i64 (i : Int) ∧ OW q W gh gg s key D oth ((p11, arr8 K) :: (K.map bxB ++ (lw ++ lo))) w') (fun v _ => 4 - (intOf v).toNat)
          case atStart => exact ⟨0, by decide, rfl, H6.out⟩
          case round =>
            clear H6
            obtain ⟨i, hi, rfl, how⟩ := hrel
            by_cases hlt : i < 4
            · have b3 : (i : Int) < 4 := by omega
              obtain ⟨⟨ga, Ra⟩, hka⟩ : ∃ p, K[i]? = some p := ⟨_, List.getElem?_eq_getElem (by rw [HK8.out.1]; omega)⟩
              obtain ⟨⟨gb, Rb⟩, hkb⟩ : ∃ p, K[4 + i]? = some p := ⟨_, List.getElem?_eq_getElem (by rw [HK8.out.1]; omega)⟩
              have ra := HK8.out.2.1 i _ hka
              have rb := HK8.out.2.1 (4 + i) _ hkb
              simp only [rwo, if_pos hlt] at ra
              simp only [rwo, if_neg (show ¬ 4 + i < 4 by omega)] at rb
              subst ra
              subst rb
              have ca := how.cell hka
              have cb := how.cell hkb
              simp only [sl, dig_len] at ca cb
              have HCB : Hid (∀ Y, OW q W gh gg s key D oth ((p11, arr8 K) :: (K.map bxB ++ (lw ++ lo))) Y → Y.cell? ⟨p11, 4 + i, none⟩ = some (.slice (some ⟨gb, 0, none⟩) 32 32) ∧ Y.heap[gb]? = some (.cells (VI .u8 (dig 32 [] oth)) 5)) := fun Y hY => by
                have := hY.cell hkb
                simp only [sl, dig_len] at this
                exact ⟨this, hY.row (memr1 (List.mem_append_left _ (bxB_mem hkb)))⟩
              have CQ : Hid _ := same_any (.slice (some ⟨ga, 0, none⟩) s s) (.slice aw s cw) (dig s key D) (by rw [HSW.out.2.2.1]; have := HOK.out.1.2; omega) wr (row_rd (how.row (memr1 (List.mem_append_left _ (bxB_mem hka)))) HSW.out.2.2.1 (Nat.le_refl _)) (how.rb HSW.out.1)
              have HOW := how.hid
              have HI : Hid (i < 4) := hlt
              clear how hka hkb cb hi
              go_wp2_with (first | (go_at_call 10; first | (refine Calls.mono CQ.out ?_; rintro e w7 ⟨rfl, hb7⟩; have h7 := HOW.out.below hb7; have H7 := h7.hid; have c7 := (HCB.out w7 h7).1; have CQ2 : Hid _ := same_any (.slice (some ⟨gb, 0, none⟩) 32 32) (.slice aq 32 cq) (dig 32 [] oth) (by rw [HSW.out.2.2.2]; decide) w7 (row_rd (HCB.out w7 h7).2 HSW.out.2.2.2 (Nat.le_refl _)) (h7.rb HSW.out.2.1); clear h7 hb7 CQ HOW) | (refine Calls.mono CQ2.out ?_; rintro e w8 ⟨rfl, hb8⟩; have H8 := (H7.out.below hb8).hid; clear hb8 CQ2 H7)))
              go_roundw
              case rel => exact ⟨i + 1, HI.out, by go_num, H8.out⟩
              case measure => simp [intOf]; omega
            · have b3 : ¬ (i : Int) < 4 := by omega
              have H7 := how.hid
              clear how hi hlt
              go_upto_region 29 with fail
              have HM0 : Hid (Mks s K 0) := by
                refine ⟨HK8.out.1, fun j p hp => ⟨?_, fun h => absurd h (Nat.not_lt_zero _)⟩⟩
                have := HK8.out.2.1 j p hp
                rw [this]
                unfold rwo lnr
                split <;> exact dig_len _ _ _
              go_loopw [18, 19] (fun v _ w' => ∃ (i : Nat) (K : List (Nat × List Int)), i ≤ 8 ∧ v = .int .i64 (i : Int) ∧ Mks s K i ∧ OW q W gh gg s key D oth ((p11, arr8 K) :: (K.map bxB ++ (lw ++ lo))) w') (fun v _ _ => 8 - (intOf v).toNat)
              case atStart => exact ⟨0, K, by decide, rfl, HM0.out, H7.out⟩
              case round =>
                clear H7 HM0 HK8
                obtain ⟨i, K, hi, rfl, hmk, how⟩ := hrel
                have HMK : Hid (Mks s K i) := hmk
                have HOW := how.hid
                clear hmk how
                by_cases hlt : i < 8
                · have b4 : (i : Int) < 8 := by omega
                  have HI : Hid (i < 8) := hlt
                  clear hi hlt
                  go_upto_region 32 with fail
                  go_loopw [19] (fun v w' => ∃ (k : Nat) (K : List (Nat × List Int)), k ≤ lnr s i ∧ v = .int .i64 (k : Int) ∧ Mks s K i ∧ (∀ p, K[i]? = some p → p.2.take k = List.replicate k ((10 + i : Nat) : Int)) ∧ OW q W gh gg s key D oth ((p11, arr8 K) :: (K.map bxB ++ (lw ++ lo))) w') (fun v _ => lnr s i - (intOf v).toNat)
                  case atStart => exact ⟨0, K, Nat.zero_le _, rfl, HMK.out, (fun p hp => by simp), HOW.out⟩
                  case round =>
                    clear HMK HOW
                    obtain ⟨k, K, hk, rfl, hmk, hpre, how⟩ := hrel
                    have hi8 := HI.out
                    obtain ⟨⟨g, M⟩, hg⟩ : ∃ p, K[i]? = some p := ⟨_, List.getElem?_eq_getElem (by rw [hmk.1]; exact hi8)⟩
                    have hML := (hmk.2 i _ hg).1
                    have hpr := hpre _ hg
                    have c1 := how.cell hg
                    simp only [sl] at c1 hML hpr
                    obtain ⟨ln, hln⟩ : ∃ n, lnr s i = n := ⟨_, rfl⟩
                    rw [hML] at c1
                    rw [hln] at c1 hk hML ⊢
                    have hl32 : ln ≤ 32 := by rw [← hln]; unfold lnr; split; (exact HOK.out.1.2); (exact Nat.le_refl _)
                    by_cases hkt : k < ln
                    · have b5 : (k : Int) < (ln : Int) := by omega
                      obtain ⟨c2, f2, h2⟩ := how.mark hg (by rw [hML]; exact hkt) ((10 + i : Nat) : Int)
                      have HST : Hid (Mks s (K.set i (g, M.set k ((10 + i : Nat) : Int))) i ∧ (∀ p, (K.set i (g, M.set k ((10 + i : Nat) : Int)))[i]? = some p → p.2.take (k + 1) = List.replicate (k + 1) ((10 + i : Nat) : Int))) := by
                        refine ⟨hmk.set hg, fun p hp => ?_⟩
                        rw [List.getElem?_set_self (by rw [hmk.1]; exact hi8)] at hp
                        injection hp with hp
                        subst hp
                        exact take_set_mark (by rw [hML]; exact hkt) hpr
                      obtain ⟨x, hx⟩ : ∃ x : Int, ((10 + i : Nat) : Int) = x := ⟨_, rfl⟩
                      have hx1 : (10 : Int) + (i : Int) = x := by omega
                      have hx2 : wrap64 (10 + (i : Int)) = x := by rw [hx1]; exact IntWalk.wrap64_in _ ⟨by omega, by omega⟩
                      have hx3 : IntKind.u8.wrap x = x := IntWalk.u8_in _ ⟨by omega, by omega⟩
                      rw [hx] at h2 HST
                      have HXX : Hid (((10 + i : Nat) : Int) = x) := hx
                      obtain ⟨K2, hK2⟩ : ∃ K2, K.set i (g, M.set k x) = K2 := ⟨_, rfl⟩
                      obtain ⟨y, hy⟩ : ∃ y, M.getD k 0 = y := ⟨_, rfl⟩
                      simp only [hK2] at h2
                      rw [hK2] at HST
                      simp only [hy] at c2
                      simp only at f2
                      obtain ⟨W9, hW9⟩ : ∃ V, wr.setCell ⟨g, k, none⟩ (.int .u8 x) = V := ⟨_, rfl⟩
                      simp only [hW9] at h2
                      have H9 := h2.hid
                      have HKT : Hid (k < ln ∧ ln ≤ 32 ∧ lnr s i = ln) := ⟨hkt, hl32, hln⟩
                      clear h2 how hmk hpre hpr hML hg hK2 hy hk hln hx
                      go_wp2
                      go_roundw
                      case rel => exact ⟨k + 1, K2, HKT.out.1, by go_num, HST.out.1, by rw [HXX.out]; exact HST.out.2, H9.out⟩
                      case measure => simp [intOf]; omega
                    · have b5 : ¬ (k : Int) < (ln : Int) := by omega
                      have HN : Hid (Mks s K (i + 1)) := by
                        refine ⟨hmk.1, fun j p hp => ⟨(hmk.2 j p hp).1, fun hj => ?_⟩⟩
                        by_cases e : j < i
                        · exact (hmk.2 j p hp).2 e
                        · have ej : j = i := by omega
                          subst ej
                          have := hpre p hp
                          have hl := (hmk.2 j p hp).1
                          rw [List.take_of_length_le (by rw [hl, hln]; omega)] at this
                          rw [this, hln]
                          congr 1
                          omega
                      have H9 := how.hid
                      clear how hmk hpre hpr hML hg hk hln hkt
                      go_wp2
                      go_roundw
                      case rel => exact ⟨i + 1, K, HI.out, by go_num, HN.out, H9.out⟩
                      case measure => simp [intOf]; omega
                · have b4 : ¬ (i : Int) < 8 := by omega
                  have HM8 : Hid (Mks s K 8) := by
                    have e : i = 8 := by omega
                    rw [← e]; exact HMK.out
                  have h7 := HOW.out.add (w2 := wr.alloc (arrV (List.replicate 8 (.slice none 0 0)))) ((Below.refl _ _).alloc (Nat.le_refl _) _) (Nat.le_refl _) (heap_alloc_new wr _)
                  obtain ⟨p20, hp20⟩ : ∃ p, wr.heap.size = p := ⟨_, rfl⟩
                  obtain ⟨W7, hW7⟩ : ∃ V, wr.alloc (arrV (List.replicate 8 (.slice none 0 0))) = V := ⟨_, rfl⟩
                  rw [hp20, hW7] at h7
                  have hW7' : wr.alloc (.cells #[.slice none 0 0, .slice none 0 0, .slice none 0 0, .slice none 0 0, .slice none 0 0, .slice none 0 0, .slice none 0 0, .slice none 0 0] 31) = W7 := hW7
                  have H7 : Hid (OW q W gh gg s key D oth (((p11, arr8 K) :: (K.map bxB ++ (lw ++ lo))) ++ (p20, arrV (List.replicate 8 (.slice none 0 0))) :: []) W7) := h7
                  clear h7 hW7 HOW HMK hi hlt
                  go_upto_region 37 with fail
                  clear hW7' hp20
                  go_loopw [21, 22] (fun v _ w' => ∃ (i : Nat) (vs : List Value) (LB : List (Nat × Obj)), i ≤ 8 ∧ v = .int .i64 (i : Int) ∧ LG s i vs LB ∧ OW q W gh gg s key D oth (((p11, arr8 K) :: (K.map bxB ++ (lw ++ lo))) ++ (p20, arrV vs) :: LB) w') (fun v _ _ => 8 - (intOf v).toNat)
                  case atStart => exact ⟨0, _, [], by decide, rfl, ⟨List.length_replicate, fun j hj => absurd hj (Nat.not_lt_zero _)⟩, H7.out⟩
                  case round =>
                    clear H7
                    obtain ⟨i, vs, LB, hi, rfl, hlg, how⟩ := hrel
                    by_cases hlt : i < 8
                    · have b5 : (i : Int) < 8 := by omega
                      obtain ⟨⟨g, M⟩, hg⟩ : ∃ p, K[i]? = some p := ⟨_, List.getElem?_eq_getElem (by rw [HM8.out.1]; exact hlt)⟩
                      obtain ⟨hML, hMM⟩ := HM8.out.2 i _ hg
                      have hMM := hMM hlt
                      simp only at hML hMM
                      have c1 := OW.cell (ex := K.map bxB ++ (lw ++ lo) ++ (p20, arrV vs) :: LB) (by simpa using how) hg
                      simp only [sl] at c1
                      obtain ⟨ln, hln⟩ : ∃ n, lnr s i = n := ⟨_, rfl⟩
                      rw [hln] at hML hMM
                      rw [hML] at c1
                      have hl32 : ln ≤ 32 := by rw [← hln]; unfold lnr; split; (exact HOK.out.1.2); (exact Nat.le_refl _)
                      obtain ⟨⟨u, hu, c2⟩, f2, h2⟩ := how.storeV (i := i) (by rw [hlg.1]; exact hlt) (.slice (some ⟨g, 0, none⟩) ln ln)
                      obtain ⟨W8, hW8⟩ : ∃ V, wr.setCell ⟨p20, i, none⟩ (.slice (some ⟨g, 0, none⟩) ln ln) = V := ⟨_, rfl⟩
                      rw [hW8] at h2
                      have H8 := h2.hid
                      have HG : Hid (K[i]? = some (g, M) ∧ M.length = ln ∧ M = List.replicate ln ((10 + i : Nat) : Int) ∧ ln ≤ 32 ∧ lnr s i = ln ∧ i < 8) := ⟨hg, hML, hMM, hl32, hln, hlt⟩
                      have HLG : Hid (LG s i (vs.set i (.slice (some ⟨g, 0, none⟩) ln ln)) LB) := hlg.set _
                      have HV0 : Hid ((vs.set i (.slice (some ⟨g, 0, none⟩) ln ln))[i]? = some (.slice (some ⟨g, 0, none⟩) ln ln)) := List.getElem?_set_self (by rw [hlg.1]; exact hlt)
                      clear h2 how hlg hu hg hML hMM hln hi
                      go_upto_region 41 with fail
                      clear c1 c2 f2 hW8
                      go_loopw [22] (fun v w' => ∃ (k : Nat) (vs : List Value) (lc : List (Nat × Obj)), k ≤ 70 ∧ v = .int .i64 (k : Int) ∧ LG s i vs LB ∧ ((k = 0 ∧ lc = [] ∧ vs[i]? = some (.slice (some ⟨g, 0, none⟩) ln ln)) ∨ (0 < k ∧ ∃ v, vs[i]? = some v ∧ Lst 5 1 v (ln + k) ((M ++ List.replicate k ((100 + i : Nat) : Int)).map (Value.int .u8)) lc)) ∧ OW q W gh gg s key D oth (((p11, arr8 K) :: (K.map bxB ++ (lw ++ lo))) ++ (p20, arrV vs) :: (LB ++ lc)) w') (fun v _ => 70 - (intOf v).toNat)
                      case atStart => exact ⟨0, _, [], by decide, rfl, HLG.out, .inl ⟨rfl, rfl, HV0.out⟩, by rw [List.append_nil]; exact H8.out⟩
                      case round =>
                        clear H8 HLG HV0
                        obtain ⟨k, vs, lc, hk, rfl, hlg, hor, how⟩ := hrel
                        by_cases hkt : k < 70
                        · have b6 : (k : Int) < 70 := by omega
                          obtain ⟨x, hx⟩ : ∃ x : Int, ((100 + i : Nat) : Int) = x := ⟨_, rfl⟩
                          have hi8 := HG.out.2.2.2.2.2
                          have hx1 : (100 : Int) + (i : Int) = x := by omega
                          have hx2 : wrap64 (100 + (i : Int)) = x := by rw [hx1]; exact IntWalk.wrap64_in _ ⟨by omega, by omega⟩
                          have hx3 : IntKind.u8.wrap x = x := IntWalk.u8_in _ ⟨by omega, by omega⟩
                          have hil : i < vs.length := by rw [hlg.1]; exact hi8
                          obtain ⟨u, hu, cu⟩ := (how.storeV hil (.slice none 0 0)).1
                          have hstep : ∀ ty, ∃ v' w2, (Builtin.append_ #[22, 22] ty #[u, .slice (some ⟨wr.heap.size, 0, none⟩) 1 1]).run Tryd.prog (wr.alloc (.cells #[.int .u8 x] 5)) = .ok v' w2 ∧ ∃ lb, Lst 5 1 v' (ln + (k + 1)) ((M ++ List.replicate (k + 1) x).map (Value.int .u8)) lb ∧ OW q W gh gg s key D oth (((p11, arr8 K) :: (K.map bxB ++ (lw ++ lo))) ++ (p20, arrV vs) :: (LB ++ lb)) w2 := fun ty => by
                            rcases hor with ⟨rfl, rfl, hv⟩ | ⟨hk0, v, hv, hL⟩
                            · rw [hv] at hu
                              injection hu with hu
                              subst hu
                              obtain ⟨v', w2, r1, lb, r2, r3⟩ := how.grow0 (g := g) (n := ln) (R := M) (List.mem_append_left _ (memr1 (List.mem_append_left _ (bxB_mem HG.out.1)))) HG.out.2.1 (by have := HG.out.2.2.2.1; omega) x ty
                              exact ⟨v', w2, r1, lb, r2, by rw [List.append_nil] at r3; simpa using r3⟩
                            · rw [hv] at hu
                              injection hu with hu
                              subst hu
                              rw [hx] at hL
                              have hh : ((p11, arr8 K) :: (K.map bxB ++ (lw ++ lo))) ++ (p20, arrV vs) :: (LB ++ lc) = (((p11, arr8 K) :: (K.map bxB ++ (lw ++ lo))) ++ (p20, arrV vs) :: LB) ++ lc := by simp
                              rw [hh] at how
                              obtain ⟨v', w2, r1, lb, r2, r3⟩ := how.grow1 hL (by have := HG.out.2.2.2.1; omega) x ty
                              refine ⟨v', w2, r1, lb, ?_, by simpa using r3⟩
                              rw [List.append_assoc, ← List.replicate_succ'] at r2
                              exact r2
                          have HAP : Hid _ := hstep
                          have HST : Hid (LG s i vs LB ∧ vs.length = 8 ∧ k < 70 ∧ ((100 + i : Nat) : Int) = x) := ⟨hlg, hlg.1, hkt, hx⟩
                          have cu' : (wr.alloc (.cells #[.int .u8 x] 5)).cell? ⟨p20, i, none⟩ = some u := by
                            obtain ⟨u2, hu2, cu2⟩ := ((how.below (w2 := wr.alloc (.cells #[.int .u8 x] 5)) ((Below.refl _ _).alloc (Nat.le_refl _) _)).storeV hil (.slice none 0 0)).1
                            rw [hu] at hu2
                            injection hu2 with hu2
                            rw [hu2]
                            exact cu2
                          clear hstep how hlg hor hu hk hx hil
                          go_wp2_with (first | (at_builtin; refine wpList_app _ rfl (.tmp 160) (.tmp 164) 22 22 rfl _ _ rfl rfl HAP.out ?_; intro v5 w5 h5; obtain ⟨lb, hLb, ho5⟩ := h5; obtain ⟨a5, c5', rfl⟩ := hLb.slice'; obtain ⟨⟨u5, hu5, c5⟩, f5, h8⟩ := ho5.storeV (i := i) (by rw [HST.out.2.1]; exact HG.out.2.2.2.2.2) (.slice a5 (ln + (k + 1)) c5'); obtain ⟨W8, hW8⟩ : ∃ V, w5.setCell ⟨p20, i, none⟩ (.slice a5 (ln + (k + 1)) c5') = V := ⟨_, rfl⟩; rw [hW8] at h8; have H8 := OW.hid h8; have HL5 : Hid (Lst 5 1 (.slice a5 (ln + (k + 1)) c5') (ln + (k + 1)) ((M ++ List.replicate (k + 1) x).map (Value.int .u8)) lb) := hLb; clear h8 hLb ho5 hu5 HAP))
                          go_roundw
                          case rel => exact ⟨k + 1, vs.set i (.slice a5 (ln + (k + 1)) c5'), lb, HST.out.2.2.1, by go_num, HST.out.1.set _, .inr ⟨Nat.succ_pos _, (.slice a5 (ln + (k + 1)) c5'), List.getElem?_set_self (by rw [HST.out.2.1]; exact HG.out.2.2.2.2.2), by rw [HST.out.2.2.2]; exact HL5.out⟩, H8.out⟩
                          case measure => simp [intOf]; omega
                        · have b6 : ¬ (k : Int) < 70 := by omega
                          have HN : Hid (LG s (i + 1) vs (LB ++ lc)) := by
                            refine ⟨hlg.1, fun j hj => ?_⟩
                            by_cases e : j < i
                            · obtain ⟨lb, v, r1, r2, r3⟩ := hlg.2 j e
                              exact ⟨lb, v, r1, r2, fun p hp => List.mem_append_left _ (r3 p hp)⟩
                            · have ej : j = i := by omega
                              subst ej
                              rcases hor with ⟨h0, _⟩ | ⟨_, v, hv, hL⟩
                              · omega
                              · have ek : k = 70 := by omega
                                subst ek
                                refine ⟨lc, v, hv, ?_, fun p hp => List.mem_append_right _ hp⟩
                                rw [HG.out.2.2.2.2.1]
                                have : cnt s j = M ++ List.replicate 70 ((100 + j : Nat) : Int) := by
                                  unfold cnt
                                  rw [HG.out.2.2.1, ← HG.out.2.2.2.2.1]
                                  rfl
                                rw [this]
                                exact hL
                          have H9 := how.hid
                          clear how hlg hor hk hkt
                          go_wp2
                          go_roundw
                          case rel => exact ⟨i + 1, vs, LB ++ lc, HG.out.2.2.2.2.2, by go_num, HN.out, H9.out⟩
                          case measure => have := HG.out.2.2.2.2.2; simp [intOf]; omega
                    · have b5 : ¬ (i : Int) < 8 := by omega
                      have HL8 : Hid (LG s 8 vs LB) := by
                        have e : i = 8 := by omega
                        rw [← e]; exact hlg
                      have H8 := how.hid
                      clear how hlg hi hlt
                      go_upto_region 45 with fail
                      go_loopw [23, 24, 25] (fun v _ _ w' => ∃ (i : Nat), i ≤ 8 ∧ v = .int .i64 (i : Int) ∧ OW q W gh gg s key D oth (((p11, arr8 K) :: (K.map bxB ++ (lw ++ lo))) ++ (p20, arrV vs) :: LB) w') (fun v _ _ _ => 8 - (intOf v).toNat)
                      case atStart => exact ⟨0, by decide, rfl, H8.out⟩
                      case round =>
                        clear H8
                        obtain ⟨i, hi, rfl, how⟩ := hrel
                        by_cases hlt : i < 8
                        · have b6 : (i : Int) < 8 := by omega
                          obtain ⟨⟨g, M⟩, hg⟩ : ∃ p, K[i]? = some p := ⟨_, List.getElem?_eq_getElem (by rw [HM8.out.1]; exact hlt)⟩
                          obtain ⟨hML, hMM⟩ := HM8.out.2 i _ hg
                          have hMM := hMM hlt
                          simp only at hML hMM
                          obtain ⟨ln, hln⟩ : ∃ n, lnr s i = n := ⟨_, rfl⟩
                          rw [hln] at hML hMM
                          have hl32 : ln ≤ 32 := by rw [← hln]; unfold lnr; split; (exact HOK.out.1.2); (exact Nat.le_refl _)
                          obtain ⟨n5, hn5⟩ : ∃ n, ln + 70 = n := ⟨_, rfl⟩
                          have HG : Hid (K[i]? = some (g, M) ∧ M.length = ln ∧ M = List.replicate ln ((10 + i : Nat) : Int) ∧ lnr s i = ln ∧ i < 8 ∧ ln + 70 = n5 ∧ ln ≤ 32) := ⟨hg, hML, hMM, hln, hlt, hn5, hl32⟩
                          have H9 := how.hid
                          clear how hg hML hMM hln hi hlt hn5 hl32
                          go_upto_region 48 with fail
                          go_loopw [24, 25] (fun v _ w' => ∃ k : Nat, k ≤ n5 ∧ v = .int .i64 (k : Int) ∧ OW q W gh gg s key D oth (((p11, arr8 K) :: (K.map bxB ++ (lw ++ lo))) ++ (p20, arrV vs) :: LB) w') (fun v _ _ => n5 - (intOf v).toNat)
                          case atStart => exact ⟨0, Nat.zero_le _, rfl, H9.out⟩
                          case round =>
                            clear H9
                            obtain ⟨k, hk, rfl, how⟩ := hrel
                            obtain ⟨lb, v, hv, hLv, hsub⟩ := HL8.out.2 i HG.out.2.2.2.2.1
                            obtain ⟨a5, c5, rfl⟩ := hLv.slice'
                            have c1 := OW.cell (ex := K.map bxB ++ (lw ++ lo) ++ (p20, arrV vs) :: LB) (by simpa using how) HG.out.1
                            simp only [sl] at c1
                            rw [HG.out.2.1] at c1
                            obtain ⟨⟨u, hu, c2⟩, _, _⟩ := how.storeV (i := i) (by rw [HL8.out.1]; exact HG.out.2.2.2.2.1) (.slice none 0 0)
                            rw [hv] at hu
                            injection hu with hu
                            subst hu
                            have hcl : (cnt s i).length = lnr s i + 70 := by unfold cnt lnr; rw [List.length_append, List.length_replicate, List.length_replicate]
                            have hR : RdB wr (.slice a5 (lnr s i + 70) c5) (cnt s i) := how.rb (Lst.src (A := cnt s i) (by rw [hcl]; exact hLv) (fun p hp => List.mem_append_right _ (List.mem_cons_of_mem _ (hsub p hp))))
                            rw [HG.out.2.2.2.1, HG.out.2.2.2.2.2.1] at hR c2
                            obtain ⟨_, _, hrd⟩ := rdb_at rfl hR
                            have hrow := how.row (List.mem_append_left _ (memr1 (List.mem_append_left _ (bxB_mem HG.out.1))))
                            have H9 := how.hid
                            obtain ⟨x, hx⟩ : ∃ x : Int, ((10 + i : Nat) : Int) = x := ⟨_, rfl⟩
                            obtain ⟨y, hy⟩ : ∃ y : Int, ((100 + i : Nat) : Int) = y := ⟨_, rfl⟩
                            have HX1 : Hid (x = 10 + (i : Int)) := by show x = _; rw [← hx]; rfl
                            have HY1 : Hid (y = 100 + (i : Int)) := by show y = _; rw [← hy]; rfl
                            clear how hLv hv hsub hcl hR
                            by_cases hkt : k < n5
                            · have b7 : (k : Int) < (n5 : Int) := by omega
                              obtain ⟨b5', o5, rfl, _, c3⟩ := hrd k hkt
                              have c3 := c3 wr (Below.refl _ _)
                              have HKN : Hid (k < n5 ∧ n5 ≤ 102) := ⟨hkt, by have h1 := HG.out.2.2.2.2.2; clear b6 b7 c1 c2 c3; omega⟩
                              clear hrd
                              by_cases hkl : k < ln
                              · have b8 : (k : Int) < (ln : Int) := by omega
                                have b9 : ¬ (ln : Int) ≤ (k : Int) := by omega
                                rw [cnt_lo HG.out.2.2.2.1 hkl hx] at c3
                                have c4 : wr.cell? ⟨g, k, none⟩ = some (.int .u8 x) := by
                                  have r := row_range hrow k (.int .u8 x) (by rw [HG.out.2.2.1, List.getElem?_map, List.getElem?_replicate, if_pos hkl, hx]; rfl)
                                  rw [Nat.zero_add] at r
                                  exact r
                                clear hrow hx hy hk hkt hkl
                                obtain rfl := HX1.out
                                have b10 : (k : Int) ≤ 102 := by have := HKN.out; omega
                                go_wp2
                                go_roundw
                                case rel => exact ⟨k + 1, HKN.out.1, by go_num, H9.out⟩
                                case measure => have := HKN.out; simp [intOf]; omega
                              · have b8 : ¬ (k : Int) < (ln : Int) := by omega
                                have b9 : (ln : Int) ≤ (k : Int) := by omega
                                rw [cnt_hi HG.out.2.2.2.1 hkl (by rw [HG.out.2.2.2.2.2.1]; exact hkt) hy] at c3
                                clear hrow hx hy hk hkt hkl
                                obtain rfl := HY1.out
                                have b10 : (k : Int) ≤ 102 := by have := HKN.out; omega
                                go_wp2
                                go_roundw
                                case rel => exact ⟨k + 1, HKN.out.1, by go_num, H9.out⟩
                                case measure => have := HKN.out; simp [intOf]; omega
                            · have b7 : ¬ (k : Int) < (n5 : Int) := by omega
                              clear hrd hrow hx hy hk hkt
                              go_wp2
                              go_roundw
                              case rel => exact ⟨i + 1, HG.out.2.2.2.2.1, by go_num, H9.out⟩
                              case measure => have := HG.out.2.2.2.2.1; simp [intOf]; omega
                        · have b6 : ¬ (i : Int) < 8 := by omega
                          have CS : Hid _ := how.sumH HOK.out HBE.out.1 HBE.out.2.1
                          have e1 : (dig s key D).length = s := dig_len _ _ _
                          have e2 : (dig 32 [] oth).length = 32 := dig_len _ _ _
                          have HSS : Hid ((dig s key D).length = s ∧ (dig 32 [] oth).length = 32 ∧ ∀ X : List (Nat × Obj), Src q W ((((p11, arr8 K) :: (K.map bxB ++ (lw ++ lo))) ++ (p20, arrV vs) :: LB) ++ X) (.slice aw s cw) (dig s key D) ∧ Src q W ((((p11, arr8 K) :: (K.map bxB ++ (lw ++ lo))) ++ (p20, arrV vs) :: LB) ++ X) (.slice aq 32 cq) (dig 32 [] oth)) :=
                            ⟨e1, e2, fun X => ⟨Lst.src (A := dig s key D) (by rw [e1]; exact HLW.out) (fun p hp => List.mem_append_left _ (List.mem_append_left _ (memr1 (List.mem_append_right _ (List.mem_append_left _ hp))))), Lst.src (A := dig 32 [] oth) (by rw [e2]; exact HLO.out) (fun p hp => List.mem_append_left _ (List.mem_append_left _ (memr1 (List.mem_append_right _ (List.mem_append_right _ hp)))))⟩⟩
                          clear how hi hlt e1 e2
                          go_wp2_with (first | (go_at_call 9; first | (refine Calls.mono CS.out ?_; rintro e w2 ⟨g2, rfl, h2⟩; have CQ : Hid _ := same_any (.slice (some ⟨g2, 0, none⟩) s s) (.slice aw s cw) (dig s key D) (by rw [HSS.out.1]; have := HOK.out.1.2; omega) w2 (row_rd (h2.row (List.mem_append_right _ mem0)) HSS.out.1 (Nat.le_refl _)) (h2.rb (HSS.out.2.2 _).1); have HX := OW.hid h2; clear h2 CS) | (refine Calls.mono CG.out ?_; rintro e w4 ⟨g4, rfl, h4⟩; have CQ2 : Hid _ := same_any (.slice (some ⟨g4, 0, none⟩) 32 32) (.slice aq 32 cq) (dig 32 [] oth) (by rw [HSS.out.2.1]; decide) w4 (row_rd (h4.row (List.mem_append_right _ mem0)) HSS.out.2.1 (Nat.le_refl _)) (h4.rb (by rw [List.append_assoc]; exact (HSS.out.2.2 _).2)); have HY := OW.hid h4; clear h4 CG)) | (go_at_call 10; first | (refine Calls.mono CQ.out ?_; rintro e w3 ⟨rfl, hb3⟩; have CG : Hid _ := (HX.out.below hb3).sumG HOK.out HBE.out.1 HBE.out.2.1; clear hb3 CQ HX) | (refine Calls.mono CQ2.out ?_; rintro e w5 ⟨rfl, hb5⟩; have CK : Hid (Calls Tryd.prog 7 #[] w5 fun e w' => e = .returned (.bool true) ∧ Below q W w') := known_at (HY.out.below hb5).old HBE.out.1 HBE.out.2.1 HBE.out.2.2 (HY.out.below hb5).le; clear hb5 CQ2 HY)) | (go_at_call 7; refine Calls.mono CK.out ?_; rintro e w6 ⟨rfl, h6⟩; have H6 : Hid _ := h6; clear h6 CK))
                          go_ret
                          exact ⟨rfl, H6.out⟩
end Go.Proofs.YtfkbgodfcnmepabDoor
