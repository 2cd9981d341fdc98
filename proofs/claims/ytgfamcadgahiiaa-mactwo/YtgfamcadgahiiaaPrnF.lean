import Derived.Test.YtgfamcadgahiiaaPrnE
namespace Go.Proofs.Ytgfamcadgahiiaa
set_option linter.unusedSimpArgs false
open Go.ChangeShapes Go.WideShapes Go.ChangeAt Go.RowKit Go.Pin Go.Prm
def bit : Value → Nat
  | .bool true => 1
  | _ => 0
theorem own_below' {n : Nat} {w w1 w2 : World} (h : Below n w w1) (hn : n ≤ w1.heap.size) (h2 : Below w1.heap.size w1 w2) : Below n w w2 := h.trans (h2.mono hn)
set_option maxRecDepth 100000 in
set_option maxHeartbeats 8000000 in
theorem rleast_any (v : Value) (d : List Int) (w : World) (h : Rd w v d) (hl : d.length ≤ 40) (hb : ∀ x ∈ d, 0 ≤ x ∧ x < 1099511627776) :
    Calls Try.prog 56 #[v] w fun e w' => e = .returned (.agg (VI .i64 (bts ((VB d).toNat % P)))) ∧ Below w.heap.size w w' := by
  have hV0 : 0 ≤ VB d := VB_nonneg d (fun x hx => (hb x hx).1)
  obtain ⟨c1, c2, c3, _, _⟩ := crd_facts hb
  have hbz : Below w.heap.size w (w.alloc (.cells (VI .i64 (List.replicate 17 0)) 91)) := (Below.refl _ _).alloc (Nat.le_refl _) _
  have hrz : rowI (w.alloc (.cells (VI .i64 (List.replicate 17 0)) 91)) w.heap.size (List.replicate 17 0) 91 := by simp only [rowI, heap_alloc_any, if_true]
  have hsz : (w.alloc (.cells (VI .i64 (List.replicate 17 0)) 91)).heap.size = w.heap.size + 1 := by simp
  obtain ⟨W0, hW0⟩ : ∃ W, w.alloc (.cells (VI .i64 (List.replicate 17 0)) 91) = W := ⟨_, rfl⟩
  have hW0' : w.alloc (.cells #[.int .i64 0, .int .i64 0, .int .i64 0, .int .i64 0, .int .i64 0, .int .i64 0, .int .i64 0, .int .i64 0, .int .i64 0, .int .i64 0, .int .i64 0, .int .i64 0, .int .i64 0, .int .i64 0, .int .i64 0, .int .i64 0, .int .i64 0] 91) = W0 := hW0
  rw [hW0] at hbz hrz hsz
  have hv : ∃ a n c, v = .slice a n c := by obtain ⟨a, c, e, _⟩ := h; exact ⟨a, _, c, e⟩
  have HCAR : Hid (Calls Try.prog 64 #[v] W0 fun e w' => (∃ v', e = .returned v' ∧ Own W0.heap.size w' v' (crd d)) ∧ Below W0.heap.size W0 w') := carried_any v d W0 (h.below hbz) (by omega) hb
  have HC1 : Hid (VB (crd d) = VB d) := c1
  have HC2 : Hid (∀ x ∈ crd d, 0 ≤ x ∧ x < 256) := c2
  have HC3 : Hid ((crd d).length ≤ 50) := by show _ ≤ _; omega
  have HBZ : Hid (Below w.heap.size w W0) := hbz
  have HRZ : Hid (rowI W0 w.heap.size (List.replicate 17 0) 91) := hrz
  have HSZ : Hid (W0.heap.size = w.heap.size + 1) := hsz
  have HV0 : Hid (0 ≤ VB d) := hV0
  clear hbz hrz hsz hW0 c1 c2 c3 h hb hV0
  obtain ⟨a, n, c, rfl⟩ := hv
  go_enter Try.func56, Try.ntmps56
  go_wp2_with (go_at_call 64; refine HCAR.out.mono ?_; rintro e w1 ⟨⟨v1, rfl, hO1⟩, hb1⟩)
  have HO1 : Hid (Own W0.heap.size w1 v1 (crd d)) := hO1
  have HB1 : Hid (Below W0.heap.size W0 w1) := hb1
  clear hO1 hb1 HCAR hW0'
  go_loopw [0, 3] (fun dv ag w' => ∃ (D : List Int) (again : Bool), ag = .bool again ∧ D.length ≤ 50 ∧ (∀ x ∈ D, 0 ≤ x ∧ x < 256) ∧ VB D % 1361129467683753853853498429727072845819 = VB d % 1361129467683753853853498429727072845819 ∧ (again = false → VB D < 1361129467683753853853498429727072845824) ∧ Rd w' dv D ∧ Below W0.heap.size W0 w') (fun dv ag w' => (VB (rdl w' dv)).toNat + bit ag)
  case atStart => exact ⟨crd d, true, rfl, HC3.out, HC2.out, by rw [HC1.out], (fun h => nomatch h), HO1.out.rd, HB1.out⟩
  case round =>
    clear HO1 HB1 HC1 HC2 HC3
    obtain ⟨D, again, rfl, hDl, hDb, hDv, hDa, hrd, hbel⟩ := hrel
    have hD0 := (VB_bd D hDb).1
    have HRD : Hid (Rd wr u0 D) := hrd
    have HBL : Hid (Below W0.heap.size W0 wr) := hbel
    cases again with
    | true =>
      obtain ⟨m1, m2, m3, m4⟩ := fold_math (VB D) hD0
      have HFO : Hid (Calls Try.prog 65 #[u0] wr fun e w' => (∃ v' d', e = .returned (.tuple #[v', .bool (decide (1361129467683753853853498429727072845824 ≤ VB D))]) ∧ Own wr.heap.size w' v' d' ∧ (∀ x ∈ d', 0 ≤ x ∧ x < 256) ∧ VB d' = VB D % 1361129467683753853853498429727072845824 + 5 * (VB D / 1361129467683753853853498429727072845824) ∧ d'.length ≤ max 17 (D.length - 16) + 5) ∧ Below wr.heap.size wr w') := fold_any u0 D wr hrd (by omega) hDb
      have HM : Hid ((VB D % 1361129467683753853853498429727072845824 + 5 * (VB D / 1361129467683753853853498429727072845824)) % 1361129467683753853853498429727072845819 = VB d % 1361129467683753853853498429727072845819) := m1.trans hDv
      have H3 : Hid (∀ x, x = VB D % 1361129467683753853853498429727072845824 + 5 * (VB D / 1361129467683753853853498429727072845824) → (decide (1361129467683753853853498429727072845824 ≤ VB D) = false → x < 1361129467683753853853498429727072845824) ∧ (x.toNat + bit (.bool (decide (1361129467683753853853498429727072845824 ≤ VB D))) < (VB D).toNat + 1)) := fun x hx => by
        by_cases hg : 1361129467683753853853498429727072845824 ≤ VB D
        · have := m3 hg
          simp only [hg, decide_true, bit]
          exact ⟨(fun h => nomatch h), by omega⟩
        · have := m4 hg
          simp only [hg, decide_false, bit]
          exact ⟨fun _ => by omega, by omega⟩
      have HRL : Hid (rdl wr u0 = D) := hrd.rdl
      clear hDv hDa hrd hbel m1 m2 m3 m4 hDb
      generalize decide (1361129467683753853853498429727072845824 ≤ VB D) = ag at *
      go_wp2_with (go_at_call 65; refine HFO.out.mono ?_; rintro e w2 ⟨⟨v2, d2, rfl, hO2, hb2, hv2, hl2⟩, hbw⟩)
      have HO2 : Hid (Own wr.heap.size w2 v2 d2) := hO2
      have HX : Hid ((∀ x ∈ d2, 0 ≤ x ∧ x < 256) ∧ d2.length ≤ 50) := ⟨hb2, by omega⟩
      have HV2 : Hid (VB d2 = VB D % 1361129467683753853853498429727072845824 + 5 * (VB D / 1361129467683753853853498429727072845824)) := hv2
      have HB2 : Hid (Below wr.heap.size wr w2) := hbw
      clear hO2 hb2 hv2 hl2 hbw
      go_roundw
      case rel =>
        have := H3.out _ HV2.out
        exact ⟨d2, ag, rfl, HX.out.2, HX.out.1, by rw [HV2.out]; exact HM.out, this.1, HO2.out.rd, own_below' HBL.out HBL.out.size HB2.out⟩
      case measure =>
        have := (H3.out _ HV2.out).2
        have e1 := HO2.out.rd.rdl
        have e2 := HRL.out
        show (VB (rdl w2 v2)).toNat + bit (.bool ag) < (VB (rdl wr u0)).toNat + bit (.bool true)
        rw [e1, e2]
        exact this
    | false =>
      have hD1 := hDa rfl
      obtain ⟨N, hN⟩ : ∃ N : Nat, (VB D).toNat = N := ⟨_, rfl⟩
      have hN1 : N < 1361129467683753853853498429727072845824 := by omega
      have hNP : N % P = (VB d).toNat % P := by
        have h0 := HV0.out
        unfold P
        omega
      have HNP : Hid (N % P = (VB d).toNat % P) := hNP
      have HN1 : Hid (N < 1361129467683753853853498429727072845824) := hN1
      have HDG : Hid (∀ W i, i < 17 → Below wr.heap.size wr W → Calls Try.prog 66 #[u0, .int .i64 ((i : Nat) : Int)] W fun e w' => e = .returned (.int .i64 ((bts N).getD i 0)) ∧ w' = W) := fun W i hi hW => by
        have := digit_any u0 D i W (hrd.below hW) (by omega)
        rw [VB_bts hDb i hi, hN] at this
        exact this
      have HLT : Hid (W0.heap.size ≤ wr.heap.size) := hbel.size
      have hu0 : ∃ a n c, u0 = .slice a n c := by obtain ⟨a, c, e, _⟩ := hrd; exact ⟨a, _, c, e⟩
      obtain ⟨a9, n9, c9, rfl⟩ := hu0
      clear hDv hDa hrd hbel hDb hD0 hD1 hN hNP hN1 hDl HRD
      go_wp2
      go_loopw [4, 5] (fun hv i w' => ∃ (k : Nat) (hb : Bool), 1 ≤ k ∧ k ≤ 17 ∧ i = .int .i64 (k : Int) ∧ hv = .bool hb ∧ (hb = true ↔ ∀ j, 1 ≤ j → j < k → (bts N).getD j 0 = mm j) ∧ w' = wr) (fun _ i _ => 17 - (intOf i).toNat)
      case atStart => exact ⟨1, true, by decide, by decide, rfl, rfl, ⟨fun _ j h1 h2 => by omega, fun _ => rfl⟩, rfl⟩
      case round =>
        obtain ⟨k, hb, hk1, hk2, rfl, rfl, hiff, rfl⟩ := hrel
        have HIF : Hid (hb = true ↔ ∀ j, 1 ≤ j → j < k → (bts N).getD j 0 = mm j) := hiff
        clear hiff
        by_cases hlt : k < 17
        · have hlt' : (k : Int) < 17 := by omega
          cases hb with
          | true =>
            obtain ⟨x, hx⟩ : ∃ x, (bts N).getD k 0 = x := ⟨_, rfl⟩
            have HC : Hid (Calls Try.prog 66 #[.slice a9 n9 c9, .int .i64 (k : Int)] wr fun e w' => e = .returned (.int .i64 x) ∧ w' = wr) := by
              have := HDG.out wr k hlt (Below.refl _ _)
              rw [hx] at this
              exact this
            have HX : Hid ((bts N).getD k 0 = x) := hx
            clear hx
            have HST : Hid (∀ b : Bool, (b = true ↔ x = mm k) → (b = true ↔ ∀ j, 1 ≤ j → j < k + 1 → (bts N).getD j 0 = mm j)) := fun b hbx => by
              rw [hbx]
              constructor
              · intro e j h1 h2
                by_cases hj : j = k
                · rw [hj, HX.out, e]
                · exact HIF.out.1 rfl j h1 (by omega)
              · intro hall
                rw [← HX.out]; exact hall k hk1 (by omega)
            by_cases h16 : k = 16
            · subst h16
              by_cases hx3 : x = 3
              · subst hx3
                rw [show ((16 : Nat) : Int) = 16 from rfl] at *
                go_wp2_with (go_at_call 66; refine HC.out.mono ?_; rintro e w2 ⟨rfl, rfl⟩)
                go_roundw
                case rel => exact ⟨17, true, by decide, by decide, rfl, rfl, HST.out true (by decide), by first | trivial | rfl⟩
                case measure => simp [intOf]
              · rw [show ((16 : Nat) : Int) = 16 from rfl] at *
                go_wp2_with (go_at_call 66; refine HC.out.mono ?_; rintro e w2 ⟨rfl, rfl⟩)
                go_roundw
                case rel => exact ⟨17, false, by decide, by decide, rfl, by simp [hx3], HST.out false ⟨(fun h => nomatch h), fun h => absurd h hx3⟩, by first | trivial | rfl⟩
                case measure => simp [intOf]
            · have h16' : ¬ (k : Int) = 16 := by omega
              have hmk : mm k = 255 := by rw [mm, if_neg h16]
              have HMK : Hid (mm k = 255) := hmk
              clear hmk
              by_cases hx3 : x = 255
              · subst hx3
                go_wp2_with (go_at_call 66; refine HC.out.mono ?_; rintro e w2 ⟨rfl, rfl⟩)
                go_roundw
                case rel => exact ⟨k + 1, true, by omega, by omega, by go_num, rfl, HST.out true (by rw [HMK.out]; exact ⟨fun _ => rfl, fun _ => rfl⟩), by first | trivial | rfl⟩
                case measure => simp [intOf]; omega
              · go_wp2_with (go_at_call 66; refine HC.out.mono ?_; rintro e w2 ⟨rfl, rfl⟩)
                go_roundw
                case rel => exact ⟨k + 1, false, by omega, by omega, by go_num, by simp [hx3], HST.out false (by rw [HMK.out]; exact ⟨(fun h => nomatch h), fun h => absurd h hx3⟩), by first | trivial | rfl⟩
                case measure => simp [intOf]; omega
          | false =>
            have HST : Hid ((false = true) ↔ ∀ j, 1 ≤ j → j < k + 1 → (bts N).getD j 0 = mm j) := ⟨(fun h => nomatch h), fun hall => HIF.out.2 (fun j h1 h2 => hall j h1 (by omega))⟩
            by_cases h16 : k = 16
            · subst h16
              rw [show ((16 : Nat) : Int) = 16 from rfl] at *
              go_wp2_with (fail)
              go_roundw
              case rel => exact ⟨17, false, by decide, by decide, rfl, rfl, HST.out, by first | trivial | rfl⟩
              case measure => simp [intOf]
            · have h16' : ¬ (k : Int) = 16 := by omega
              go_wp2_with (fail)
              go_roundw
              case rel => exact ⟨k + 1, false, by omega, by omega, by go_num, rfl, HST.out, by first | trivial | rfl⟩
              case measure => simp [intOf]; omega
        · have hk' : k = 17 := by omega
          subst hk'
          obtain ⟨hm1, hm2, hm3⟩ := high_math HN1.out HIF.out
          rw [HNP.out] at hm1 hm2 hm3
          have H1 : Hid (hb = true → 251 ≤ (bts N).getD 0 0 → (VB d).toNat % P = N - P ∧ bts (N - P) = (List.replicate 17 (0 : Int)).set 0 ((bts N).getD 0 0 - 251)) := hm1
          have H2 : Hid (hb = false → (VB d).toNat % P = N) := hm2
          have H3 : Hid (hb = true → ¬ 251 ≤ (bts N).getD 0 0 → (VB d).toNat % P = N) := hm3
          clear hm1 hm2 hm3 HIF hlt hk1 hk2
          obtain ⟨V9, hV9⟩ : ∃ V, V = wr := ⟨_, rfl⟩
          subst hV9
          obtain ⟨G, hG⟩ : ∃ G, V9.heap.size = G := ⟨_, rfl⟩
          have hrG : rowI (V9.alloc (.cells (VI .i64 (List.replicate 17 0)) 91)) G (List.replicate 17 0) 91 := by simp only [rowI, heap_alloc_any, hG, if_true]
          have hbG : Below V9.heap.size V9 (V9.alloc (.cells (VI .i64 (List.replicate 17 0)) 91)) := (Below.refl _ _).alloc (Nat.le_refl _) _
          obtain ⟨W4, hW4⟩ : ∃ W, V9.alloc (.cells (VI .i64 (List.replicate 17 0)) 91) = W := ⟨_, rfl⟩
          have hW4' : V9.alloc (.cells #[.int .i64 0, .int .i64 0, .int .i64 0, .int .i64 0, .int .i64 0, .int .i64 0, .int .i64 0, .int .i64 0, .int .i64 0, .int .i64 0, .int .i64 0, .int .i64 0, .int .i64 0, .int .i64 0, .int .i64 0, .int .i64 0, .int .i64 0] 91) = W4 := hW4
          rw [hW4] at hrG hbG
          have HRG : Hid (rowI W4 G (List.replicate 17 0) 91) := hrG
          have HBG : Hid (Below V9.heap.size V9 W4) := hbG
          clear hrG hbG hW4
          rw [show ((17 : Nat) : Int) = 17 from rfl]
          go_wp2
          go_loopw [8] (fun i w' => ∃ k : Nat, k ≤ 17 ∧ i = .int .i64 k ∧ rowI w' G ((bts N).take k ++ (List.replicate 17 (0 : Int)).drop k) 91 ∧ Below V9.heap.size V9 w') (fun i _ => 17 - (intOf i).toNat)
          case atStart => exact ⟨0, Nat.zero_le _, rfl, HRG.out, HBG.out⟩
          case round =>
            clear HRG HBG hW4'
            obtain ⟨k, hk, rfl, hrow, hbel⟩ := hrel
            have HBL2 : Hid (Below V9.heap.size V9 wr) := hbel
            have hG' : V9.heap.size ≤ G := by omega
            by_cases hlt : k < 17
            · have hlt' : (k : Int) < 17 := by omega
              have hcell := rowI_cell hrow (i := k) (by simp; omega)
              have hfz : wr.frozen? ⟨G, k, none⟩ = false := frozen_of_row wr _ _ _ _ hrow
              have hst := rowI_set hrow k ((bts N)[k]'(by simpa using hlt))
              rw [set_step _ _ _ (by simpa using hlt) (by simpa using hlt)] at hst
              have hge : (bts N).getD k 0 = (bts N)[k]'(by simpa using hlt) := by rw [List.getD_eq_getElem?_getD, List.getElem?_eq_getElem (by simpa using hlt)]; rfl
              have HC : Hid (Calls Try.prog 66 #[.slice a9 n9 c9, .int .i64 (k : Int)] wr fun e w' => e = .returned (.int .i64 ((bts N)[k]'(by simpa using hlt))) ∧ w' = wr) := by
                have := HDG.out wr k hlt hbel
                rw [hge] at this
                exact this
              have HST : Hid (rowI (wr.setCell ⟨G, k, none⟩ (.int .i64 ((bts N)[k]'(by simpa using hlt)))) G ((bts N).take (k + 1) ++ (List.replicate 17 (0 : Int)).drop (k + 1)) 91) := hst
              clear hrow hbel hst hge
              generalize (bts N)[k]'(by simpa using hlt) = x at *
              generalize List.getD _ k 0 = z at hcell
              go_wp2_with (go_at_call 66; refine HC.out.mono ?_; rintro e w2 ⟨rfl, rfl⟩)
              go_roundw
              case rel => exact ⟨k + 1, by omega, by go_num, HST.out, HBL2.out.setCell hG' _⟩
              case measure => simp [intOf]; omega
            · have hk' : k = 17 := by omega
              subst hk'
              rw [List.take_of_length_le (by simp), List.drop_of_length_le (by simp), List.append_nil] at hrow
              have hbw : Below W0.heap.size W0 wr := HBL.out.trans (hbel.mono HLT.out)
              have hres : rowI wr w.heap.size (List.replicate 17 0) 91 := (hbw.block _ (by rw [HSZ.out]; omega)).trans HRZ.out
              have hwn : Below w.heap.size w wr := HBZ.out.trans (hbw.mono (by rw [HSZ.out]; omega))
              have hGn : w.heap.size < G := by have := HLT.out; have := HSZ.out; omega
              have hcell := rowI_cell hrow (i := 0) (by simp)
              have hfz : wr.frozen? ⟨G, 0, none⟩ = false := frozen_of_row wr _ _ _ _ hrow
              have hby := byte_at (bts_bd N) 0
              have HROW : Hid (rowI wr G (bts N) 91) := hrow
              have HRES : Hid (rowI wr w.heap.size (List.replicate 17 0) 91) := hres
              have HWN : Hid (Below w.heap.size w wr) := hwn
              have HJ : Hid ((Try.prog.info? 91).map (·.size) = some (VI .i64 (bts N)).size) := by rw [VI_size, bts_len]; exact infoNum
              obtain ⟨x, hx⟩ : ∃ x, (bts N).getD 0 0 = x := ⟨_, rfl⟩
              rw [hx] at hcell hby H1 H3
              obtain ⟨x0, x1⟩ := hby
              clear hrow hbel hbw hres hwn hlt hk hx
              rw [show ((17 : Nat) : Int) = 17 from rfl]
              cases hb with
              | false =>
                have hfin := H2.out rfl
                have HFIN : Hid ((VB d).toNat % P = N) := hfin
                clear hfin
                go_wp2_with (with_reducible refine at_list ?_; first | (refine wpList_load_row rfl 91 (.tmp 7) rfl G rfl 91 (VI .i64 (bts N)) (0, 0) _ HROW.out Try.underlying91 rfl HJ.out ?_) | (refine wpList_store_row rfl 91 (.tmp 2) (.tmp 53) rfl w.heap.size (VI .i64 (bts N)) rfl rfl 91 (VI .i64 (List.replicate 17 0)) HRES.out HJ.out (by simp) (VI_one _ _) ?_))
                refine bodyPost_ret (v := .agg (VI .i64 (bts N))) ?_ rfl ⟨by rw [HFIN.out], below_setRow HWN.out _ (Nat.le_refl _) _⟩
                exact results_cell_row (P := Try.prog) (fn := Try.f56) (p := 2) (ty := 91) rfl _ _ w.heap.size 91 (VI .i64 (bts N)) (0, 0) _ rfl (setRow_heap wr _ _ _ 91 _ HRES.out) Try.underlying91 rfl HJ.out
              | true =>
                by_cases h251 : 251 ≤ x
                · obtain ⟨hf1, hf2⟩ := H1.out rfl h251
                  have HF1 : Hid ((VB d).toNat % P = N - P) := hf1
                  have HF2 : Hid (bts (N - P) = (List.replicate 17 (0 : Int)).set 0 (x - 251)) := hf2
                  have hr5 : rowI (wr.setRow G (VI .i64 (List.replicate 17 0))) G (List.replicate 17 0) 91 := setRow_heap wr _ _ _ 91 _ HROW.out
                  have hr6 : rowI (wr.setRow G (VI .i64 (List.replicate 17 0))) w.heap.size (List.replicate 17 0) 91 := (setRow_other wr G w.heap.size _ (by omega)).trans HRES.out
                  have hb5 : Below w.heap.size w (wr.setRow G (VI .i64 (List.replicate 17 0))) := below_setRow HWN.out _ (by omega) _
                  obtain ⟨W5, hW5⟩ : ∃ W, wr.setRow G (VI .i64 (List.replicate 17 0)) = W := ⟨_, rfl⟩
                  rw [hW5] at hr5 hr6 hb5
                  have hc5 := rowI_cell hr5 (i := 0) (by simp)
                  have hf5 : W5.frozen? ⟨G, 0, none⟩ = false := frozen_of_row W5 _ _ _ _ hr5
                  have HR7 : Hid (rowI (W5.setCell ⟨G, 0, none⟩ (.int .i64 (x - 251))) G ((List.replicate 17 (0 : Int)).set 0 (x - 251)) 91) := rowI_set hr5 0 _
                  have HR8 : Hid (rowI (W5.setCell ⟨G, 0, none⟩ (.int .i64 (x - 251))) w.heap.size (List.replicate 17 0) 91) := row_other hr6 (by simp; omega) _
                  have HB8 : Hid (Below w.heap.size w (W5.setCell ⟨G, 0, none⟩ (.int .i64 (x - 251)))) := hb5.setCell (by simp; omega) _
                  have HJ2 : Hid ((Try.prog.info? 91).map (·.size) = some (VI .i64 ((List.replicate 17 (0 : Int)).set 0 (x - 251))).size) := infoNum
                  have HJ3 : Hid ((Try.prog.info? 91).map (·.size) = some (VI .i64 (List.replicate 17 (0 : Int))).size) := infoNum
                  clear hf1 hf2 hr5 hr6 hb5
                  go_wp2_with (with_reducible refine at_list ?_; first | (refine wpList_store_row rfl 91 (.tmp 7) (.tmp 50) rfl G (VI .i64 (List.replicate 17 0)) rfl rfl 91 (VI .i64 (bts N)) HROW.out HJ3.out (by simp) (VI_one _ _) ?_; rw [hW5]) | (refine wpList_load_row rfl 91 (.tmp 7) rfl G rfl 91 (VI .i64 ((List.replicate 17 (0 : Int)).set 0 (x - 251))) (0, 0) _ HR7.out Try.underlying91 rfl HJ2.out ?_) | (refine wpList_store_row rfl 91 (.tmp 2) (.tmp 53) rfl w.heap.size (VI .i64 ((List.replicate 17 (0 : Int)).set 0 (x - 251))) rfl rfl 91 (VI .i64 (List.replicate 17 0)) HR8.out HJ2.out (by simp) (VI_one _ _) ?_))
                  refine bodyPost_ret (v := .agg (VI .i64 ((List.replicate 17 (0 : Int)).set 0 (x - 251)))) ?_ rfl ⟨by rw [HF1.out, HF2.out], below_setRow HB8.out _ (Nat.le_refl _) _⟩
                  exact results_cell_row (P := Try.prog) (fn := Try.f56) (p := 2) (ty := 91) rfl _ _ w.heap.size 91 (VI .i64 ((List.replicate 17 (0 : Int)).set 0 (x - 251))) (0, 0) _ rfl (setRow_heap _ _ _ _ 91 _ HR8.out) Try.underlying91 rfl HJ2.out
                · have hfin := H3.out rfl (by omega)
                  have HFIN : Hid ((VB d).toNat % P = N) := hfin
                  clear hfin
                  go_wp2_with (with_reducible refine at_list ?_; first | (refine wpList_load_row rfl 91 (.tmp 7) rfl G rfl 91 (VI .i64 (bts N)) (0, 0) _ HROW.out Try.underlying91 rfl HJ.out ?_) | (refine wpList_store_row rfl 91 (.tmp 2) (.tmp 53) rfl w.heap.size (VI .i64 (bts N)) rfl rfl 91 (VI .i64 (List.replicate 17 0)) HRES.out HJ.out (by simp) (VI_one _ _) ?_))
                  refine bodyPost_ret (v := .agg (VI .i64 (bts N))) ?_ rfl ⟨by rw [HFIN.out], below_setRow HWN.out _ (Nat.le_refl _) _⟩
                  exact results_cell_row (P := Try.prog) (fn := Try.f56) (p := 2) (ty := 91) rfl _ _ w.heap.size 91 (VI .i64 (bts N)) (0, 0) _ rfl (setRow_heap wr _ _ _ 91 _ HRES.out) Try.underlying91 rfl HJ.out
end Go.Proofs.Ytgfamcadgahiiaa
