import Derived.Test.YtjhleocpipmklaaDoorMibb
namespace Go.Proofs.YtjhleocpipmklaaDoor
set_option linter.unusedSimpArgs false
set_option linter.unusedVariables false
open Go.ChangeShapes Go.WideShapes Go.ChangeAt Go.RowKit Go.Pin Go.Pat Go.Deep
set_option maxRecDepth 100000 in
set_option maxHeartbeats 8000000 in
theorem own_walk {ea : Int → Addr} (v : Value) (p : Pt) (more : Int) (W : World) (hE : Errs ea W) (hR : RdP W v p) (hm1 : -9223372036854775808 ≤ more) (hm2 : more < 9223372036854775808) :
    Calls Tryd.prog 7 #[v, .int .i64 more] W fun e w' => e = .returned (.bool true) ∧ Below W.heap.size W w' := by
  have hrd := hR
  have HKN : Hid (∀ W, Errs ea W → _) := known_any plevels_any (find_kk pfindA) (find_nx1 pfindA)
  obtain ⟨v0, v1, vl, rfl, h0, h1, hl⟩ := hR
  obtain ⟨a0, p0, rfl, -, -, -⟩ := id h0
  obtain ⟨a1, p1, rfl, -, -, -⟩ := id h1
  obtain ⟨al, cl, rfl, -, -, -⟩ := id hl
  have hst := pb_start W p.nm (.slice a0 p.b0.length p0) (.slice a1 p.b1.length p1) (.slice al p.ln.length cl)
  obtain ⟨q, hq⟩ : ∃ q, W.heap.size = q := ⟨_, rfl⟩
  obtain ⟨nm, hnm⟩ : ∃ nm, p.nm = nm := ⟨_, rfl⟩
  obtain ⟨n0, hn0⟩ : ∃ n0, p.b0.length = n0 := ⟨_, rfl⟩
  obtain ⟨n1, hn1⟩ : ∃ n1, p.b1.length = n1 := ⟨_, rfl⟩
  obtain ⟨L, hLn⟩ : ∃ L, p.ln.length = L := ⟨_, rfl⟩
  simp only [hq, hnm, hn0, hn1, hLn] at hst hrd ⊢
  obtain ⟨W1, hW1⟩ : ∃ W1, W.alloc (.cells #[.string nm, (.slice a0 n0 p0), (.slice a1 n1 p1), (.slice al L cl)] 26) = W1 := ⟨_, rfl⟩
  rw [hW1] at hst
  have HP : Hid (PB q W nm (.slice a0 n0 p0) (.slice a1 n1 p1) (.slice al L cl) W1) := hst
  have HRD : Hid (∀ Y, Below q W Y → RdP Y (.agg #[.string nm, (.slice a0 n0 p0), (.slice a1 n1 p1), (.slice al L cl)]) p) := fun Y hY => hrd.below (by rw [hq]; exact hY)
  have HER : Hid (∀ Y, Below q W Y → Errs ea Y) := fun Y hY => hE.below (by rw [hq]; exact hY)
  have HLV : Hid (∀ Y, Below q W Y → Calls Tryd.prog 11 #[.agg #[.string nm, (.slice a0 n0 p0), (.slice a1 n1 p1), (.slice al L cl)], .int .i64 more] Y _) := fun Y hY => plevels_own (ea := ea) _ p Y more (HER.out Y hY) (HRD.out Y hY) hm1 hm2
  have c0 := hst.c0
  have c1 := hst.c1
  have c2 := hst.c2
  have c3 := hst.c3
  have CLo := long_any _ p W1 (HRD.out W1 hst.old)
  clear hst hrd hE h0 h1 hl hm1 hm2 hn0 hn1 hLn hnm
  rcases e1 : lng p with _ | _
  case true =>
    rw [e1] at CLo
    clear e1
    go_enter Tryd.func7, Tryd.ntmps7
    go_wp2_with (go_at_call 9; refine Calls.mono CLo ?_; rintro e w2 ⟨rfl, hb⟩; have HB2 : Hid (PB q W nm (.slice a0 n0 p0) (.slice a1 n1 p1) (.slice al L cl) w2) := HP.out.below hb; clear hb)
    go_ret
    exact ⟨rfl, HB2.out.old⟩
  rw [e1] at CLo
  clear e1
  go_enter Tryd.func7, Tryd.ntmps7
  go_upto_region 4 with (go_at_call 9; refine Calls.mono CLo ?_; clear CLo; rintro e w2 ⟨rfl, hb⟩; have HB2 : Hid (PB q W nm (.slice a0 n0 p0) (.slice a1 n1 p1) (.slice al L cl) w2) := HP.out.below hb; clear hb c0 c1 c2 c3)
  obtain ⟨R, hRe⟩ : ∃ R, w2.heap.size = R := ⟨_, rfl⟩
  have hb3 : Below w2.heap.size w2 (w2.alloc (.cells #[.slice none 0 0, .slice none 0 0, .slice none 0 0, .slice none 0 0] 55)) := (Below.refl _ _).alloc (Nat.le_refl _) _
  have hbx : (w2.alloc (.cells #[.slice none 0 0, .slice none 0 0, .slice none 0 0, .slice none 0 0] 55)).heap[R]? = some (.cells #[.slice none 0 0, .slice none 0 0, .slice none 0 0, .slice none 0 0] 55) := by rw [← hRe]; exact heap_alloc_new _ _
  have hp3 := HB2.out.below hb3
  have hqR : q < R := by rw [← hRe]; exact HB2.out.lt
  obtain ⟨W3, hW3⟩ : ∃ W3, w2.alloc (.cells #[.slice none 0 0, .slice none 0 0, .slice none 0 0, .slice none 0 0] 55) = W3 := ⟨_, rfl⟩
  rw [hW3] at hp3 hbx
  simp only [hW3, hRe]
  have HP3 : Hid (PB q W nm (.slice a0 n0 p0) (.slice a1 n1 p1) (.slice al L cl) W3) := hp3
  have HBX : Hid (W3.heap[R]? = some (.cells #[.slice none 0 0, .slice none 0 0, .slice none 0 0, .slice none 0 0] 55) ∧ q < R) := ⟨hbx, hqR⟩
  have CL := HLV.out W3 hp3.old
  have c0 := hp3.c0
  have c1 := hp3.c1
  have c2 := hp3.c2
  have c3 := hp3.c3
  clear hb3 hbx hp3 hqR hW3 hRe HB2
  by_cases hz : lvE p more = 0
  case neg =>
    have hll : lvL p more = [] := by unfold lvL; rw [if_neg hz]
    have e0 : EV ea (lvE p more) = .iface 173 (.pointer (some (ea (lvE p more)))) := by unfold EV; rw [if_neg hz]
    rw [hll, e0] at CL
    clear hll e0 hz
    go_wp2_with (first
      | (go_at_call 11; refine Calls.mono CL ?_; clear CL; rintro e w4 ⟨u1, rfl, ho, hb, _⟩; have HP4 : Hid (PB q W nm (.slice a0 n0 p0) (.slice a1 n1 p1) (.slice al L cl) w4) := HP3.out.below hb; have CK := HKN.out w4 (HER.out w4 HP4.out.old); (obtain ⟨a9, c9, rfl⟩ : ∃ a9 c9, u1 = .slice a9 0 c9 := by (rcases ho.2 with ⟨e, _⟩ | ⟨_, _, _, e, _⟩; exact ⟨_, _, e⟩; exact ⟨_, _, e⟩)); clear hb ho c0 c1 c2 c3)
      | (go_at_call 16; refine Calls.mono CK ?_; clear CK; rintro e w9 ⟨rfl, hb⟩; have HP9 : Hid (Below q W w9) := HP4.out.old.trans (hb.mono (by have := HP4.out.lt; omega)); clear hb))
    go_ret
    exact ⟨rfl, HP9.out⟩
  have hlv := lvE_zero hz
  have hsm := (lv_small hz).1
  obtain ⟨gs, hgs⟩ : ∃ gs, lvL p more = gs := ⟨_, rfl⟩
  obtain ⟨n, hn⟩ : ∃ n, gs.length = n := ⟨_, rfl⟩
  have hn1 : 0 < n := by
    obtain ⟨hc, mo, _, _, hl⟩ := hlv
    rw [hgs] at hl
    rw [← hn, hl]
    have := chk_lines hc
    simp
    omega
  rw [hgs, hn] at hsm
  have HN : Hid (0 < n ∧ n ≤ 100 ∧ gs.length = n) := ⟨hn1, hsm, hn⟩
  have HLW : Hid (∀ Y, Below q W Y → Calls Tryd.prog 11 #[.agg #[.string nm, (.slice a0 n0 p0), (.slice a1 n1 p1), (.slice al L cl)], .int .i64 more] Y fun e w' => ∃ g, e = .returned (.tuple #[.slice (some ⟨g, 0, none⟩) n n, .nilIface]) ∧ Below Y.heap.size Y w' ∧ Y.heap.size ≤ g ∧ LvR g n n gs w') := fun Y hY => (HLV.out Y hY).mono fun e w' ⟨u, he, _, hb, hg⟩ => by
    obtain ⟨g, h1, h2, h3⟩ := hg hz
    rw [hgs, hn] at h1 h3
    subst h1
    rw [hz] at he
    exact ⟨g, he, hb, h2, LvR.ofG h3 hn⟩
  clear CL
  have CL := HLW.out W3 HP3.out.old
  have bn : (0 : Int) ≤ (n : Int) := by omega
  clear hlv hsm hgs hn hn1 hz HLV
  go_upto_region 8 with (first
    | (go_at_call 11; refine Calls.mono CL ?_; clear CL; rintro e w4 ⟨g0, rfl, hb, hg0, hr⟩; have HP4 : Hid (PB q W nm (.slice a0 n0 p0) (.slice a1 n1 p1) (.slice al L cl) w4) := HP3.out.below hb; have HX4 : Hid (w4.heap[R]? = some (.cells #[.slice none 0 0, .slice none 0 0, .slice none 0 0, .slice none 0 0] 55) ∧ w4.heap.size ≤ w4.heap.size) := ⟨(hb.block _ (Array.getElem?_eq_some_iff.1 HBX.out.1).1).trans HBX.out.1, Nat.le_refl _⟩; have HG4 : Hid (LvR g0 n n gs w4) := hr; have HQ4 : Hid (q ≤ g0) := Nat.le_trans (Nat.le_of_lt HP3.out.lt) hg0; clear hb hg0 hr c0 c1 c2 c3)
    | (at_builtin; go_loud (refine wpList_app _ rfl _ _ 30 30 rfl _ _ rfl rfl (HG4.out.copy (by have := HN.out; omega)) ?_; rintro uw w5 ⟨hb5, ho5⟩; obtain ⟨gw, cw, rfl, hgw, hcw, hw5⟩ := LvR.ofOwn ho5 HN.out.1)))
  have HS5 : Hid (GS q R W nm (.slice a0 n0 p0) (.slice a1 n1 p1) (.slice al L cl) gw cw n gs 0 (fun _ => 0) (fun _ => []) [.slice none 0 0, .slice none 0 0, .slice none 0 0, .slice none 0 0] w5) :=
    ⟨HP4.out.below hb5, HBX.out.2, (hb5.block _ (Array.getElem?_eq_some_iff.1 HX4.out.1).1).trans HX4.out.1, rfl, fun i hi => by omega, hw5, fun i hi => by omega, fun i hi => by omega, fun i j hi => by omega, fun i hi => by omega⟩
  have hs6 := HS5.out.put (g := g0) (m := gs) (by decide) (HG4.out.below hb5) (by have := HG4.out.lt; omega) (fun i hi => by omega) HQ4.out
  have HCW : Hid (cw ≤ maxLen) := hcw
  have tc : w5.cell? ⟨R, 0, none⟩ = some (.slice none 0 0) := by rw [cell_of_row _ _ _ _ _ _ HS5.out.bx]; rfl
  have tf : w5.frozen? ⟨R, 0, none⟩ = false := frozen_of_row _ _ _ _ _ HS5.out.bx
  have HS6 : Hid (GS q R W nm (.slice a0 n0 p0) (.slice a1 n1 p1) (.slice al L cl) gw cw n gs 1 (upd (fun _ => 0) 0 g0) (upd (fun _ => []) 0 gs) [.slice (some ⟨g0, 0, none⟩) n n, .slice none 0 0, .slice none 0 0, .slice none 0 0] (w5.setCell ⟨R, 0, none⟩ (.slice (some ⟨g0, 0, none⟩) n n))) := hs6
  clear hb5 ho5 hgw hcw hw5 hs6 HS5 HP4 HX4 HG4
  go_upto_region 10 with (fail)
  obtain ⟨W6, hW6⟩ : ∃ W6, w5.setCell ⟨R, 0, none⟩ (.slice (some ⟨g0, 0, none⟩) n n) = W6 := ⟨_, rfl⟩
  rw [hW6] at HS6
  simp only [hW6]
  clear tc tf hW6
  go_loopw [9] (fun v9 wr => ∃ (i : Nat) (b : Nat → Nat) (l : Nat → List Gd) (cs : List Value), i ≤ 4 ∧ v9 = .int .i64 i ∧ GS q R W nm (.slice a0 n0 p0) (.slice a1 n1 p1) (.slice al L cl) gw cw n gs i b l cs wr ∧ ∀ j, j < i → l j = gs) (fun v _ => 4 - (intOf v).toNat)
  case atStart =>
    refine ⟨1, _, _, _, by decide, rfl, HS6.out, fun j hj => ?_⟩
    obtain rfl : j = 0 := by omega
    rw [upd_same]
  case round =>
    obtain ⟨i, b, l, cs, hi, rfl, hs, hlj⟩ := hrel
    have HS : Hid (GS q R W nm (.slice a0 n0 p0) (.slice a1 n1 p1) (.slice al L cl) gw cw n gs i b l cs wr) := hs
    have HLJ : Hid (∀ j, j < i → l j = gs) := hlj
    by_cases hlt : i < 4
    · have b1 : (i : Int) < 4 := by omega
      have b2 : (0 : Int) ≤ (i : Int) := by omega
      have c0 := hs.pb.c0
      have c1 := hs.pb.c1
      have c2 := hs.pb.c2
      have c3 := hs.pb.c3
      have CL := HLW.out wr hs.pb.old
      clear hs hlj hi
      go_wp2_with (go_at_call 11; refine Calls.mono CL ?_; clear CL; rintro e w7 ⟨g, rfl, hb, hg, hr⟩; have HS7 : Hid (GS q R W nm (.slice a0 n0 p0) (.slice a1 n1 p1) (.slice al L cl) gw cw n gs i b l cs w7) := HS.out.below hb; have HR7 : Hid (LvR g n n gs w7 ∧ g ≠ gw ∧ (∀ j, j < i → b j ≠ g) ∧ q ≤ g) := ⟨hr, by (have := HS.out.wt.lt; omega), fun j hj => by (have := (HS.out.gr j hj).lt; omega), by (have := HS.out.pb.lt; omega)⟩; (obtain ⟨⟨x7, t7⟩, f7⟩ := HS7.out.there hlt); clear hb hg hr c0 c1 c2 c3)
      refine ⟨⟨i + 1, _, _, _, by omega, congrArg (Value.int .i64) (by omega), HS7.out.put hlt HR7.out.1 HR7.out.2.1 HR7.out.2.2.1 HR7.out.2.2.2, fun j hj => ?_⟩, by show 4 - ((i : Int) + 1).toNat < 4 - ((i : Int)).toNat; omega⟩
      by_cases e : j = i
      · subst e; rw [upd_same]
      · rw [upd_other _ _ e]; exact HLJ.out j (by omega)
    · obtain rfl : i = 4 := by omega
      clear hs hlj hi hlt
      have e4 : ((4 : Nat) : Int) = 4 := rfl
      simp only [e4]
      clear e4
      go_wp2
      go_loopw [10] (fun v10 wy => ∃ i : Nat, i ≤ 4 ∧ v10 = .int .i64 i ∧ GS q R W nm (.slice a0 n0 p0) (.slice a1 n1 p1) (.slice al L cl) gw cw n gs 4 b l cs wy) (fun v _ => 4 - (intOf v).toNat)
      case atStart => exact ⟨0, by decide, rfl, HS.out⟩
      case round =>
        obtain ⟨i, hi, rfl, hs⟩ := hrel
        have HSy : Hid (GS q R W nm (.slice a0 n0 p0) (.slice a1 n1 p1) (.slice al L cl) gw cw n gs 4 b l cs wr) := hs
        by_cases hlt : i < 4
        · have b1 : (i : Int) < 4 := by omega
          have b2 : (0 : Int) ≤ (i : Int) := by omega
          have t0 := hs.cell hlt
          have hgr := hs.gr i hlt
          rw [HLJ.out i hlt] at hgr
          have CG := grades_any (hgr.rd (by have := HN.out; omega) (by have := HN.out; unfold maxLen; omega)) (hs.wt.rd (by have := HN.out; omega) HCW.out)
          have hdd : decide (gs = gs) = true := by simp
          rw [hdd] at CG
          clear hs hi hgr hdd
          go_wp2_with (go_at_call 14; refine Calls.mono CG ?_; clear CG; rintro e w7 ⟨rfl, hb⟩; have HS7 : Hid (GS q R W nm (.slice a0 n0 p0) (.slice a1 n1 p1) (.slice al L cl) gw cw n gs 4 b l cs w7) := HSy.out.below hb; clear hb t0)
          exact ⟨⟨i + 1, by omega, congrArg (Value.int .i64) (by omega), HS7.out⟩, by show 4 - ((i : Int) + 1).toNat < 4 - ((i : Int)).toNat; omega⟩
        · obtain rfl : i = 4 := by omega
          clear hs hi hlt
          have e4 : ((4 : Nat) : Int) = 4 := rfl
          simp only [e4]
          clear e4
          go_wp2
          go_loopw [11] (fun v11 wy => ∃ (i : Nat) (l : Nat → List Gd), i ≤ 4 ∧ v11 = .int .i64 i ∧ GS q R W nm (.slice a0 n0 p0) (.slice a1 n1 p1) (.slice al L cl) gw cw n gs 4 b l cs wy ∧ ∀ j, j < i → l j = List.replicate n (mk1 j)) (fun v _ => 4 - (intOf v).toNat)
          case atStart => exact ⟨0, _, by decide, rfl, HSy.out, fun j hj => by omega⟩
          case round =>
            clear HSy HLJ HS
            obtain ⟨i, l, hi, rfl, hs, hlj⟩ := hrel
            have HS : Hid (GS q R W nm (.slice a0 n0 p0) (.slice a1 n1 p1) (.slice al L cl) gw cw n gs 4 b l cs wr) := hs
            have HLJ : Hid (∀ j, j < i → l j = List.replicate n (mk1 j)) := hlj
            by_cases hlt : i < 4
            · have b1 : (i : Int) < 4 := by omega
              have b2 : (0 : Int) ≤ (i : Int) := by omega
              have HI : Hid (i < 4) := hlt
              clear hs hlj hi
              go_upto_region 22 with (fail)
              go_loopw [12] (fun v12 wy => ∃ (j : Nat) (l' : Nat → List Gd), j ≤ n ∧ v12 = .int .i64 j ∧ GS q R W nm (.slice a0 n0 p0) (.slice a1 n1 p1) (.slice al L cl) gw cw n gs 4 b l' cs wy ∧ (∀ x, x < i → l' x = List.replicate n (mk1 x)) ∧ (l' i).take j = List.replicate j (mk1 i)) (fun v _ => n - (intOf v).toNat)
              case atStart => exact ⟨0, l, Nat.zero_le _, rfl, HS.out, HLJ.out, by simp⟩
              case round =>
                obtain ⟨j, l', hj, rfl, hs, hlx, hlt'⟩ := hrel
                have HSj : Hid (GS q R W nm (.slice a0 n0 p0) (.slice a1 n1 p1) (.slice al L cl) gw cw n gs 4 b l' cs wr) := hs
                have HLX : Hid ((∀ x, x < i → l' x = List.replicate n (mk1 x)) ∧ (l' i).take j = List.replicate j (mk1 i)) := ⟨hlx, hlt'⟩
                have t0 := hs.cell HI.out
                by_cases hjn : j < n
                · have b3 : (j : Int) < (n : Int) := by omega
                  have b4 : (0 : Int) ≤ (j : Int) := by omega
                  have hw : wrap64 (100 + (i : Int)) = 100 + (i : Int) := IntWalk.wrap64_in _ ⟨by omega, by omega⟩
                  have HJ : Hid (j < n) := hjn
                  have hth := (hs.gr i HI.out).there hjn
                  have HTH : Hid (wr.there (b i) (j * 3) 3) := hth
                  have hmk := hs.mark HI.out hjn (mk1 i)
                  have HM : Hid (GS q R W nm (.slice a0 n0 p0) (.slice a1 n1 p1) (.slice al L cl) gw cw n gs 4 b (upd l' i ((l' i).set j (mk1 i))) cs (wr.setCells (b i) (j * 3) [.int .i64 (100 + (i : Int)), .int .i64 0, .int .i64 0])) := hmk
                  obtain ⟨bi, hbi⟩ : ∃ bi, b i = bi := ⟨_, rfl⟩
                  rw [hbi] at t0 HTH HM
                  clear hs hlx hlt' hj hth hmk hbi
                  go_wp2_with (with_reducible refine at_list ?_; refine hold_store 48 (.tmp 82) (.tmp 81) rfl ?_)
                  refine wpList_store_mid rfl 48 (.tmp 82) (.tmp 81) rfl bi (j * 3) #[.int .i64 (100 + (i : Int)), .int .i64 0, .int .i64 0] rfl rfl HTH.out (by kernel_rfl) (by simp [Value.oneCell']) ?_
                  go_wp2
                  refine ⟨⟨j + 1, _, HJ.out, congrArg (Value.int .i64) (wrapS HJ.out (by have := HN.out; omega)), HM.out, fun x hx => ?_, ?_⟩, measS HJ.out (by have := HN.out; omega)⟩
                  · rw [upd_other _ _ (by omega)]; exact HLX.out.1 x hx
                  · have hlen : (l' i).length = n := by (obtain ⟨_, _, _, _, h4, _⟩ := HSj.out.gr i HI.out; exact h4)
                    have hj' := HJ.out
                    rw [upd_same, List.replicate_succ', ← HLX.out.2]
                    rw [List.take_add_one, List.take_set_of_le (Nat.le_refl _), List.getElem?_set_self (by omega)]
                    rfl
                · obtain rfl : j = n := by omega
                  have b3 : ¬ (j : Int) < (j : Int) := by omega
                  clear hs hlx hlt' hj hjn
                  go_wp2
                  refine ⟨⟨i + 1, l', by have := HI.out; omega, congrArg (Value.int .i64) (by omega), HSj.out, fun x hx => ?_⟩, by show 4 - ((i : Int) + 1).toNat < 4 - ((i : Int)).toNat; have := HI.out; omega⟩
                  by_cases e : x = i
                  · subst e
                    have hlen : (l' x).length = j := by (obtain ⟨_, _, _, _, h4, _⟩ := HSj.out.gr x HI.out; exact h4)
                    rw [← HLX.out.2, List.take_of_length_le (by omega)]
                  · exact HLX.out.1 x (by omega)
            · obtain rfl : i = 4 := by omega
              clear hs hlj hi hlt
              have e4 : ((4 : Nat) : Int) = 4 := rfl
              simp only [e4]
              clear e4
              go_upto_region 27 with (fail)
              obtain ⟨R2, hR2⟩ : ∃ R2, wr.heap.size = R2 := ⟨_, rfl⟩
              have hb8 : Below wr.heap.size wr (wr.alloc (.cells #[.slice none 0 0, .slice none 0 0, .slice none 0 0, .slice none 0 0] 55)) := (Below.refl _ _).alloc (Nat.le_refl _) _
              have hs8 := HS.out.below hb8
              have ht8 : GT q R2 n gw b 0 (fun _ => 0) (fun _ => 0) [.slice none 0 0, .slice none 0 0, .slice none 0 0, .slice none 0 0] (wr.alloc (.cells #[.slice none 0 0, .slice none 0 0, .slice none 0 0, .slice none 0 0] 55)) :=
                ⟨by rw [← hR2]; exact heap_alloc_new _ _, rfl, fun i hi => by omega, fun i hi => by omega, fun i hi => by omega, fun i j hi => by omega, fun i j hi => by omega⟩
              have hRR : R < R2 := by rw [← hR2]; exact (Array.getElem?_eq_some_iff.1 HS.out.bx).1
              obtain ⟨W8, hW8⟩ : ∃ W8, wr.alloc (.cells #[.slice none 0 0, .slice none 0 0, .slice none 0 0, .slice none 0 0] 55) = W8 := ⟨_, rfl⟩
              rw [hW8] at hs8 ht8
              simp only [hW8, hR2]
              have HS8 : Hid (GS q R W nm (.slice a0 n0 p0) (.slice a1 n1 p1) (.slice al L cl) gw cw n gs 4 b l cs W8) := hs8
              have HT8 : Hid (GT q R2 n gw b 0 (fun _ => 0) (fun _ => 0) [.slice none 0 0, .slice none 0 0, .slice none 0 0, .slice none 0 0] W8) := ht8
              have HRR : Hid (R < R2) := hRR
              clear hb8 hs8 ht8 hRR hW8 hR2 HS
              go_loopw [14] (fun v14 wy => ∃ (i : Nat) (h c : Nat → Nat) (ds : List Value), i ≤ 4 ∧ v14 = .int .i64 i ∧ GS q R W nm (.slice a0 n0 p0) (.slice a1 n1 p1) (.slice al L cl) gw cw n gs 4 b l cs wy ∧ GT q R2 n gw b i h c ds wy) (fun v _ => 4 - (intOf v).toNat)
              case atStart => exact ⟨0, _, _, _, by decide, rfl, HS8.out, HT8.out⟩
              case round =>
                obtain ⟨i, h, c, ds, hi, rfl, hs, ht⟩ := hrel
                have HS : Hid (GS q R W nm (.slice a0 n0 p0) (.slice a1 n1 p1) (.slice al L cl) gw cw n gs 4 b l cs wr) := hs
                have HT : Hid (GT q R2 n gw b i h c ds wr) := ht
                by_cases hlt : i < 4
                · have b1 : (i : Int) < 4 := by omega
                  have b2 : (0 : Int) ≤ (i : Int) := by omega
                  have HI : Hid (i < 4) := hlt
                  have t0 := hs.cell hlt
                  obtain ⟨⟨x1, t1, _⟩, f1⟩ := ht.cell hlt
                  have hs9 := hs.box ht.bx HRR.out i (.slice (some ⟨b i, 0, none⟩) n n)
                  have ht9 := ht.box (.slice (some ⟨b i, 0, none⟩) n n)
                  have HD9 : Hid ((ds.set i (.slice (some ⟨b i, 0, none⟩) n n))[i]? = some (.slice (some ⟨b i, 0, none⟩) n n)) := List.getElem?_set_self (by rw [ht.cl]; exact hlt)
                  have HS9 : Hid (GS q R W nm (.slice a0 n0 p0) (.slice a1 n1 p1) (.slice al L cl) gw cw n gs 4 b l cs (wr.setCell ⟨R2, i, none⟩ (.slice (some ⟨b i, 0, none⟩) n n))) := hs9
                  have HT9 : Hid (GT q R2 n gw b i h c (ds.set i (.slice (some ⟨b i, 0, none⟩) n n)) (wr.setCell ⟨R2, i, none⟩ (.slice (some ⟨b i, 0, none⟩) n n))) := ht9
                  clear hs ht hi hs9 ht9
                  go_upto_region 31 with (fail)
                  obtain ⟨W9, hW9⟩ : ∃ W9, wr.setCell ⟨R2, i, none⟩ (.slice (some ⟨b i, 0, none⟩) n n) = W9 := ⟨_, rfl⟩
                  rw [hW9] at HS9 HT9
                  simp only [hW9]
                  clear hW9 t0 t1 f1
                  go_loopw [15] (fun v15 wy => ∃ (j : Nat) (ds : List Value) (v : Value), j ≤ 70 ∧ v15 = .int .i64 j ∧ GS q R W nm (.slice a0 n0 p0) (.slice a1 n1 p1) (.slice al L cl) gw cw n gs 4 b l cs wy ∧ GT q R2 n gw b i h c ds wy ∧ GC q gw n b h i j v wy ∧ ds[i]? = some v) (fun v _ => 70 - (intOf v).toNat)
                  case atStart => exact ⟨0, _, _, Nat.zero_le _, rfl, HS9.out, HT9.out, .inl ⟨rfl, rfl⟩, HD9.out⟩
                  case round =>
                    clear HS9 HT9 HD9
                    obtain ⟨j, ds', v, hj, rfl, hs, ht, hc, hd⟩ := hrel
                    have HSj : Hid (GS q R W nm (.slice a0 n0 p0) (.slice a1 n1 p1) (.slice al L cl) gw cw n gs 4 b l cs wr) := hs
                    have HTj : Hid (GT q R2 n gw b i h c ds' wr) := ht
                    have HCj : Hid (GC q gw n b h i j v wr) := hc
                    have HDj : Hid (ds'[i]? = some v) := hd
                    by_cases hj70 : j < 70
                    · have b3 : (j : Int) < 70 := by omega
                      have HJ : Hid (j < 70) := hj70
                      obtain ⟨av, kv, rfl⟩ := hc.sl
                      have t0 := ht.at hd
                      have hw : wrap64 (200 + (i : Int)) = 200 + (i : Int) := IntWalk.wrap64_in _ ⟨by omega, by omega⟩
                      clear hs ht hc hd hj
                      go_wp2_with (at_builtin; go_loud (refine wpList_app _ rfl _ _ 30 30 rfl _ _ rfl rfl (HCj.out.app HSj.out (HLJ.out i HI.out) HTj.out HI.out HN.out.2.1 HJ.out) ?_; rintro v7 w7 ⟨hs7, ht7, hc7⟩; (obtain ⟨a7, k7, rfl⟩ := hc7.sl); have HS7 : Hid (GS q R W nm (.slice a0 n0 p0) (.slice a1 n1 p1) (.slice al L cl) gw cw n gs 4 b l cs w7) := hs7; have HT7 : Hid (GT q R2 n gw b i h c ds' w7) := ht7; have HC7 : Hid (GC q gw n b h i (j + 1) (.slice (some a7) (n + (j + 1)) k7) w7) := hc7; (obtain ⟨⟨x7, t7, _⟩, f7⟩ := ht7.cell HI.out); clear hs7 ht7 hc7 t0))
                      exact ⟨⟨j + 1, _, _, HJ.out, congrArg (Value.int .i64) (by omega), HS7.out.box HT7.out.bx HRR.out i _, HT7.out.box _, HC7.out.box HT7.out.bx i _, List.getElem?_set_self (by rw [HT7.out.cl]; exact HI.out)⟩, by show 70 - ((j : Int) + 1).toNat < 70 - ((j : Int)).toNat; have := HJ.out; omega⟩
                    · obtain rfl : j = 70 := by omega
                      have e7 : ((70 : Nat) : Int) = 70 := rfl
                      simp only [e7]
                      clear hs ht hc hd hj hj70 e7
                      go_wp2
                      obtain ⟨h', c', hnx⟩ := HTj.out.next HCj.out HDj.out
                      exact ⟨⟨i + 1, h', c', ds', by have := HI.out; omega, congrArg (Value.int .i64) (by omega), HSj.out, hnx⟩, by show 4 - ((i : Int) + 1).toNat < 4 - ((i : Int)).toNat; have := HI.out; omega⟩
                · obtain rfl : i = 4 := by omega
                  have e4 : ((4 : Nat) : Int) = 4 := rfl
                  simp only [e4]
                  clear hs ht hi hlt e4 HS8 HT8
                  go_upto_region 35 with (fail)
                  go_loopw [16] (fun v16 wy => ∃ i : Nat, i ≤ 4 ∧ v16 = .int .i64 i ∧ GS q R W nm (.slice a0 n0 p0) (.slice a1 n1 p1) (.slice al L cl) gw cw n gs 4 b l cs wy ∧ GT q R2 n gw b 4 h c ds wy) (fun v _ => 4 - (intOf v).toNat)
                  case atStart => exact ⟨0, by decide, rfl, HS.out, HT.out⟩
                  case round =>
                    clear HS HT
                    obtain ⟨i, hi, rfl, hs, ht⟩ := hrel
                    have HS : Hid (GS q R W nm (.slice a0 n0 p0) (.slice a1 n1 p1) (.slice al L cl) gw cw n gs 4 b l cs wr) := hs
                    have HT : Hid (GT q R2 n gw b 4 h c ds wr) := ht
                    by_cases hlt : i < 4
                    · have b1 : (i : Int) < 4 := by omega
                      have b2 : (0 : Int) ≤ (i : Int) := by omega
                      have HI : Hid (i < 4) := hlt
                      clear hs ht hi
                      go_upto_region 38 with (fail)
                      go_loopw [17] (fun v17 wy => ∃ j : Nat, j ≤ n + 70 ∧ v17 = .int .i64 j ∧ GS q R W nm (.slice a0 n0 p0) (.slice a1 n1 p1) (.slice al L cl) gw cw n gs 4 b l cs wy ∧ GT q R2 n gw b 4 h c ds wy) (fun v _ => n + 70 - (intOf v).toNat)
                      case atStart => exact ⟨0, Nat.zero_le _, rfl, HS.out, HT.out⟩
                      case round =>
                        obtain ⟨j, hj, rfl, hs, ht⟩ := hrel
                        have HSj : Hid (GS q R W nm (.slice a0 n0 p0) (.slice a1 n1 p1) (.slice al L cl) gw cw n gs 4 b l cs wr) := hs
                        have HTj : Hid (GT q R2 n gw b 4 h c ds wr) := ht
                        have t0 := hs.cell HI.out
                        have t1 := ht.at (ht.cv i HI.out)
                        by_cases hjl : j < n + 70
                        · have HJ : Hid (j < n + 70) := hjl
                          have b3 : (j : Int) < ((n + 70 : Nat) : Int) := by omega
                          have hw1 : wrap64 (100 + (i : Int)) = 100 + (i : Int) := IntWalk.wrap64_in _ ⟨by omega, by omega⟩
                          have hw2 : wrap64 (200 + (i : Int)) = 200 + (i : Int) := IntWalk.wrap64_in _ ⟨by omega, by omega⟩
                          have hgr := hs.gr i HI.out
                          rw [HLJ.out i HI.out] at hgr
                          have hwr := ht.hr i HI.out
                          obtain ⟨H, hH⟩ : ∃ H, h i = H := ⟨_, rfl⟩
                          obtain ⟨C, hC⟩ : ∃ C, c i = C := ⟨_, rfl⟩
                          obtain ⟨B, hB⟩ : ∃ B, b i = B := ⟨_, rfl⟩
                          rw [hB] at t0 hgr
                          rw [hH, hC] at t1 hwr
                          have HH : Hid (h i = H) := hH
                          have HC : Hid (c i = C) := hC
                          have HB : Hid (b i = B) := hB
                          have HGR : Hid (LvR B n n (List.replicate n (mk1 i)) wr) := hgr
                          have HWR : Hid (LvR H C (n + 70) (List.replicate n (mk1 i) ++ List.replicate 70 (mk2 i)) wr) := hwr
                          have HGV : Hid (j < n → (List.replicate n (mk1 i)).getD j (0, 0, 0) = (100 + (i : Int), 0, 0)) := fun h => by simp [List.getD, h, mk1]
                          clear hs ht hj hgr hwr hH hC hB
                          by_cases hjn : j < n
                          · have b4 : ¬ (n : Int) ≤ (j : Int) := by omega
                            have b5 : (j : Int) < (n : Int) := by omega
                            have HWV : Hid ((List.replicate n (mk1 i) ++ List.replicate 70 (mk2 i)).getD j (0, 0, 0) = (100 + (i : Int), 0, 0)) := by
                              show _ = _
                              simp [List.getD, List.getElem?_append, hjn, mk1]
                            go_upto_region 41 with (fail)
                            have hbY : Below wr.heap.size wr (wr.alloc (.cells #[.int .i64 (100 + (i : Int)), .int .i64 0, .int .i64 0] 48)) := (Below.refl _ _).alloc (Nat.le_refl _) _
                            have hmY : (wr.alloc (.cells #[.int .i64 (100 + (i : Int)), .int .i64 0, .int .i64 0] 48)).heap[wr.heap.size]? = some (.cells #[.int .i64 (100 + (i : Int)), .int .i64 0, .int .i64 0] 48) := heap_alloc_new _ _
                            obtain ⟨M, hM⟩ : ∃ M, wr.heap.size = M := ⟨_, rfl⟩
                            rw [hM] at hmY
                            have s0 := (HSj.out.below hbY).cell HI.out
                            rw [HB.out] at s0
                            obtain ⟨Y, hY⟩ : ∃ Y, wr.alloc (.cells #[.int .i64 (100 + (i : Int)), .int .i64 0, .int .i64 0] 48) = Y := ⟨_, rfl⟩
                            rw [hY] at hbY hmY s0
                            simp only [hY, hM]
                            have HBY : Hid (Below wr.heap.size wr Y) := hbY
                            have HMY : Hid (Y.heap[M]? = some (.cells #[.int .i64 (100 + (i : Int)), .int .i64 0, .int .i64 0] 48)) := hmY
                            have HMW : Hid (wr.heap.size = M) := hM
                            clear hbY hmY hY hM t0 t1
                            go_upto_region 43 with (fail)
                            have HZ : Hid (Below wr.heap.size wr Y ∧ Y.heap[M]? = some (.cells #[.int .i64 (100 + (i : Int)), .int .i64 0, .int .i64 0] 48)) := ⟨HBY.out, HMY.out⟩
                            obtain ⟨x0, x1, x2⟩ := (HWR.out.below HZ.out.1).cells HJ.out
                            rw [HWV.out] at x0 x1 x2
                            obtain ⟨z0, z1, z2⟩ := (HGR.out.below HZ.out.1).cells hjn
                            rw [HGV.out hjn] at z0 z1 z2
                            have HSY : Hid (GS q R W nm (.slice a0 n0 p0) (.slice a1 n1 p1) (.slice al L cl) gw cw n gs 4 b l cs Y) := HSj.out.below HZ.out.1
                            have HTY : Hid (GT q R2 n gw b 4 h c ds Y) := HTj.out.below HZ.out.1
                            have s1 := HTY.out.at (HTY.out.cv i HI.out)
                            rw [HH.out, HC.out] at s1
                            have y0 : Y.cell? ⟨M, 0, none⟩ = some (.int .i64 (100 + (i : Int))) := by rw [cell_of_row _ _ _ _ _ _ HZ.out.2]; rfl
                            have y1 : Y.cell? ⟨M, 1, none⟩ = some (.int .i64 0) := by rw [cell_of_row _ _ _ _ _ _ HZ.out.2]; rfl
                            have y2 : Y.cell? ⟨M, 2, none⟩ = some (.int .i64 0) := by rw [cell_of_row _ _ _ _ _ _ HZ.out.2]; rfl
                            have eq1 := eqG (100 + (i : Int)) 0 0 (100 + (i : Int)) 0 0
                            simp only [beq_self_eq_true, Bool.and_self] at eq1
                            have gt := fieldsG.2.2
                            have b6 : (j : Int) < (n : Int) + 70 := by have := HJ.out; omega
                            go_wp2
                            go_quiet (fail)
                            go_wp2
                            exact ⟨⟨j + 1, HJ.out, congrArg (Value.int .i64) (wrapS HJ.out (by have := HN.out; omega)), HSY.out.below (drewN_below (Below.refl _ _) _), HTY.out.below (drewN_below (Below.refl _ _) _)⟩, measS HJ.out (by have := HN.out; omega)⟩
                          · have b4 : (n : Int) ≤ (j : Int) := by omega
                            have b5 : ¬ (j : Int) < (n : Int) := by omega
                            have HWV : Hid ((List.replicate n (mk1 i) ++ List.replicate 70 (mk2 i)).getD j (0, 0, 0) = (200 + (i : Int), 0, 0)) := by
                              show _ = _
                              have : j - n < 70 := by have := HJ.out; omega
                              rw [List.getD, List.getElem?_append_right (by simp; omega), List.length_replicate, List.getElem?_replicate, if_pos this]; rfl
                            go_upto_region 41 with (fail)
                            have hbY : Below wr.heap.size wr (wr.alloc (.cells #[.int .i64 (100 + (i : Int)), .int .i64 0, .int .i64 0] 48)) := (Below.refl _ _).alloc (Nat.le_refl _) _
                            have hmY : (wr.alloc (.cells #[.int .i64 (100 + (i : Int)), .int .i64 0, .int .i64 0] 48)).heap[wr.heap.size]? = some (.cells #[.int .i64 (100 + (i : Int)), .int .i64 0, .int .i64 0] 48) := heap_alloc_new _ _
                            obtain ⟨M, hM⟩ : ∃ M, wr.heap.size = M := ⟨_, rfl⟩
                            rw [hM] at hmY
                            have s0 := (HSj.out.below hbY).cell HI.out
                            rw [HB.out] at s0
                            obtain ⟨Y, hY⟩ : ∃ Y, wr.alloc (.cells #[.int .i64 (100 + (i : Int)), .int .i64 0, .int .i64 0] 48) = Y := ⟨_, rfl⟩
                            rw [hY] at hbY hmY s0
                            simp only [hY, hM]
                            have HBY : Hid (Below wr.heap.size wr Y) := hbY
                            have HMY : Hid (Y.heap[M]? = some (.cells #[.int .i64 (100 + (i : Int)), .int .i64 0, .int .i64 0] 48)) := hmY
                            have HMW : Hid (wr.heap.size = M) := hM
                            clear hbY hmY hY hM t0 t1
                            go_upto_region 43 with (with_reducible refine at_list ?_; refine wpList_store_row rfl 48 (.tmp 18) (.tmp 129) rfl M #[.int .i64 (200 + (i : Int)), .int .i64 0, .int .i64 0] rfl rfl 48 #[.int .i64 (100 + (i : Int)), .int .i64 0, .int .i64 0] HMY.out (by kernel_rfl) rfl (by simp [Value.oneCell']) ?_)
                            have HZ : Hid (Below wr.heap.size wr (Y.setRow M #[.int .i64 (200 + (i : Int)), .int .i64 0, .int .i64 0]) ∧ (Y.setRow M #[.int .i64 (200 + (i : Int)), .int .i64 0, .int .i64 0]).heap[M]? = some (.cells #[.int .i64 (200 + (i : Int)), .int .i64 0, .int .i64 0] 48)) := ⟨below_setRow HBY.out _ (by rw [HMW.out]; exact Nat.le_refl _) _, setRow_heap _ _ _ _ _ _ HMY.out⟩
                            obtain ⟨Z, hZ⟩ : ∃ Z, Y.setRow M #[.int .i64 (200 + (i : Int)), .int .i64 0, .int .i64 0] = Z := ⟨_, rfl⟩
                            rw [hZ] at HZ
                            simp only [hZ]
                            clear hZ s0
                            obtain ⟨x0, x1, x2⟩ := (HWR.out.below HZ.out.1).cells HJ.out
                            rw [HWV.out] at x0 x1 x2
                            have s0 := (HSj.out.below HZ.out.1).cell HI.out
                            rw [HB.out] at s0
                            have HSY : Hid (GS q R W nm (.slice a0 n0 p0) (.slice a1 n1 p1) (.slice al L cl) gw cw n gs 4 b l cs Z) := HSj.out.below HZ.out.1
                            have HTY : Hid (GT q R2 n gw b 4 h c ds Z) := HTj.out.below HZ.out.1
                            have s1 := HTY.out.at (HTY.out.cv i HI.out)
                            rw [HH.out, HC.out] at s1
                            have y0 : Z.cell? ⟨M, 0, none⟩ = some (.int .i64 (200 + (i : Int))) := by rw [cell_of_row _ _ _ _ _ _ HZ.out.2]; rfl
                            have y1 : Z.cell? ⟨M, 1, none⟩ = some (.int .i64 0) := by rw [cell_of_row _ _ _ _ _ _ HZ.out.2]; rfl
                            have y2 : Z.cell? ⟨M, 2, none⟩ = some (.int .i64 0) := by rw [cell_of_row _ _ _ _ _ _ HZ.out.2]; rfl
                            have eq1 := eqG (200 + (i : Int)) 0 0 (200 + (i : Int)) 0 0
                            simp only [beq_self_eq_true, Bool.and_self] at eq1
                            have gt := fieldsG.2.2
                            have b6 : (j : Int) < (n : Int) + 70 := by have := HJ.out; omega
                            go_wp2
                            go_quiet (fail)
                            go_wp2
                            exact ⟨⟨j + 1, HJ.out, congrArg (Value.int .i64) (wrapS HJ.out (by have := HN.out; omega)), HSY.out.below (drewN_below (Below.refl _ _) _), HTY.out.below (drewN_below (Below.refl _ _) _)⟩, measS HJ.out (by have := HN.out; omega)⟩
                        · obtain rfl : j = n + 70 := by omega
                          have b3 : ¬ ((n + 70 : Nat) : Int) < ((n + 70 : Nat) : Int) := by omega
                          clear hs ht hj hjl
                          go_wp2
                          exact ⟨⟨i + 1, by have := HI.out; omega, congrArg (Value.int .i64) (by omega), HSj.out, HTj.out⟩, by show 4 - ((i : Int) + 1).toNat < 4 - ((i : Int)).toNat; have := HI.out; omega⟩
                    · obtain rfl : i = 4 := by omega
                      have e4 : ((4 : Nat) : Int) = 4 := rfl
                      simp only [e4]
                      clear hs ht hi hlt e4
                      go_upto_region 45 with (fail)
                      have c0 := HS.out.pb.c0
                      have c1 := HS.out.pb.c1
                      have c2 := HS.out.pb.c2
                      have c3 := HS.out.pb.c3
                      have CL := HLW.out wr HS.out.pb.old
                      have hdd : decide (gs = gs) = true := by simp
                      go_wp2_with (first
                        | (go_at_call 11; refine Calls.mono CL ?_; clear CL; rintro e w7 ⟨g, rfl, hb, hg, hr⟩; have HS7 : Hid (GS q R W nm (.slice a0 n0 p0) (.slice a1 n1 p1) (.slice al L cl) gw cw n gs 4 b l cs w7) := HS.out.below hb; have CG := grades_any (hr.rd (by have := HN.out; omega) (by have := HN.out; unfold maxLen; omega)) (HS7.out.wt.rd (by have := HN.out; omega) HCW.out); rw [hdd] at CG; clear hb hg hr c0 c1 c2 c3)
                        | (go_at_call 14; refine Calls.mono CG ?_; clear CG; rintro e w9 ⟨rfl, hb⟩; have HS9 : Hid (GS q R W nm (.slice a0 n0 p0) (.slice a1 n1 p1) (.slice al L cl) gw cw n gs 4 b l cs w9) := HS7.out.below hb; have CK := HKN.out w9 (HER.out w9 HS9.out.pb.old); clear hb)
                        | (go_at_call 16; refine Calls.mono CK ?_; clear CK; rintro e w11 ⟨rfl, hb⟩; have HP11 : Hid (Below q W w11) := HS9.out.pb.old.trans (hb.mono (by have := HS9.out.pb.lt; omega)); clear hb))
                      go_ret
                      exact ⟨rfl, HP11.out⟩
end Go.Proofs.YtjhleocpipmklaaDoor
