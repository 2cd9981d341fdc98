import Derived.Test.YtjhleocpipmklaaDoorMjar
import Derived.Test.YtjhleocpipmklaaDoorMjag
namespace Go.Proofs.YtjhleocpipmklaaDoor
set_option linter.unusedSimpArgs false
set_option linter.unusedVariables false
open Go.ChangeShapes Go.WideShapes Go.ChangeAt Go.RowKit Go.Pin Go.Pat Go.Deep
theorem chk_shp {p : Pt} (h : chk p = 0) : shaped p = true := by
  rcases e : shaped p with _ | _
  · simp [chk, e] at h
  · rfl
theorem snd_in {p : Pt} (h : chk p = 0) (k : Nat) : sender p k = 0 ∨ sender p k = 1 := sender_in p (chk_valid h).1 k
theorem src_prv {p : Pt} {k : Nat} : (if fl p k &&& prv (sender p k) ≠ 0 then (2 : Int) else if fl p k &&& 8 ≠ 0 then 1 else 0) = src p k := by rw [src_fl]; rfl
theorem prv_other {s : Int} (h : s = 0 ∨ s = 1) : prv (1 - s) = if s = 0 then 2 else 4 := by rcases h with rfl | rfl <;> rfl
theorem dst_dfl {p : Pt} (hc : chk p = 0) {k : Nat} : dfl (fl p k) (prv (1 - sender p k)) (shw p (1 - sender p k) k) = dst p k := by
  rw [dst_fl (snd_in hc k), prv_other (snd_in hc k), shw_bst (snd_in hc) (snd_in hc k)]
  rfl
theorem shw_012 (p : Pt) (f : Int) (k : Nat) : shw p f k = 0 ∨ shw p f k = 1 ∨ shw p f k = 2 := by have := shw_in p f k; omega
/-- LevC, and that the grades fill a block of their own -/
def LevS (ea : Int → Addr) : Prop := ∀ (v : Value) (p : Pt) (W : World) (more : Int), Errs ea W → RdP W v p → -9223372036854775808 ≤ more → more < 9223372036854775808 →
  Calls Tryd.prog 11 #[v, .int .i64 more] W fun e w' => ∃ u, e = .returned (.tuple #[u, EV ea (lvE p more)]) ∧ w'.ownsRow W.heap.size 48 3 u (lvL p more).length (gcs (lvL p more)) ∧ Below W.heap.size W w' ∧
    (lvE p more = 0 → ∃ g, u = .slice (some ⟨g, 0, none⟩) (lvL p more).length (lvL p more).length ∧ W.heap.size ≤ g ∧ LvG g (lvL p more).length (lvL p more) w')
set_option maxRecDepth 100000 in
set_option maxHeartbeats 8000000 in
theorem plevels_own {ea : Int → Addr} : LevS ea := by
  intro v p w more hE h hm1 hm2
  have hck := fun (W : World) (hW : Below w.heap.size w W) => pcheck_any v p W (hE.below hW) (h.below hW)
  have hrd := h
  obtain ⟨v0, v1, vl, rfl, h0, h1, hl⟩ := h
  obtain ⟨al, cl, rfl, -, hm, -⟩ := id hl
  have hst := pb_start w p.nm v0 v1 (.slice al p.ln.length cl)
  obtain ⟨q, hq⟩ : ∃ q, w.heap.size = q := ⟨_, rfl⟩
  obtain ⟨n, hn⟩ : ∃ n, p.ln.length = n := ⟨_, rfl⟩
  obtain ⟨nm, hnm⟩ : ∃ nm, p.nm = nm := ⟨_, rfl⟩
  simp only [hn, hq, hnm] at hst hck hrd ⊢
  obtain ⟨W, hW⟩ : ∃ W, w.alloc (.cells #[.string nm, v0, v1, .slice al n cl] 26) = W := ⟨_, rfl⟩
  rw [hW] at hst
  have HP : Hid (PB q w nm v0 v1 (.slice al n cl) W) := hst
  have CK0 := hck W hst.old
  have HN : Hid (p.ln.length = n) := hn
  have HE : Hid (∀ y, Below q w y → Errs ea y) := fun y hy => hE.below (by rw [hq]; exact hy)
  have HRD : Hid (∀ y, Below q w y → RdP y (.agg #[.string nm, v0, v1, .slice al n cl]) p) := fun y hy => hrd.below (by rw [hq]; exact hy)
  have HLN : Hid (∀ y, Below q w y → RdL y (.slice al n cl) p.ln) := fun y hy => by have := hl.below (by rw [hq]; exact hy); rw [hn] at this; exact this
  have c0 := hst.c0
  have c1 := hst.c1
  have c2 := hst.c2
  have c3 := hst.c3
  clear hst hck hrd h0 h1 hl hE
  by_cases hz : chk p = 0
  · rw [hz] at CK0
    simp only [EV, if_true] at CK0
    by_cases hmo : more < 0 ∨ 64 < more
    · have HV : Hid (lvE p more = 1) := by show lvE p more = 1; simp [lvE, hz, hmo]
      have HL : Hid (lvL p more = []) := by show lvL p more = []; simp [lvL, HV.out]
      by_cases hlt : more < 0
      · go_enter Tryd.func11, Tryd.ntmps11
        go_upto_region 5 with (go_at_call 17; refine Calls.mono CK0 ?_; rintro e w1 ⟨rfl, hw⟩; have HW1 : Hid (PB q w nm v0 v1 (.slice al n cl) w1) := HP.out.below hw; clear hw)
        have e0 := ((HE.out _ HW1.out.old).1 1 (by decide)).1
        simp only [eblk] at e0
        go_wp2
        go_quiet (fail)
        go_wp2
        go_ret2
        rw [HV.out, HL.out]
        exact ⟨_, rfl, own_nil _ _, drewN_below HW1.out.old _, fun h => absurd h (by decide)⟩
      · have hgt : 64 < more := by omega
        go_enter Tryd.func11, Tryd.ntmps11
        go_upto_region 5 with (go_at_call 17; refine Calls.mono CK0 ?_; rintro e w1 ⟨rfl, hw⟩; have HW1 : Hid (PB q w nm v0 v1 (.slice al n cl) w1) := HP.out.below hw; clear hw)
        have e0 := ((HE.out _ HW1.out.old).1 1 (by decide)).1
        simp only [eblk] at e0
        go_wp2
        go_quiet (fail)
        go_wp2
        go_ret2
        rw [HV.out, HL.out]
        exact ⟨_, rfl, own_nil _ _, drewN_below HW1.out.old _, fun h => absurd h (by decide)⟩
    · obtain ⟨N0, hN0⟩ : ∃ N0, n + more.toNat = N0 := ⟨_, rfl⟩
      obtain ⟨mo, rfl⟩ : ∃ mo : Nat, more = (mo : Int) := ⟨more.toNat, by omega⟩
      simp only [Int.toNat_natCast] at hN0
      obtain ⟨hv, h24⟩ := chk_valid hz
      rw [hn] at h24
      have hn0 : 0 < n := by
        have := chk_shp hz
        unfold shaped at this
        simp only [Bool.and_eq_true, Bool.not_eq_true', List.isEmpty_eq_false_iff] at this
        rw [← hn]
        exact List.length_pos_iff.2 this.1.2
      have HV : Hid (lvE p (mo : Int) = 0) := by show lvE p (mo : Int) = 0; simp [lvE, hz]; omega
      have HL : Hid (lvL p (mo : Int) = (List.range N0).map (gd p)) := by show lvL p (mo : Int) = _; simp [lvL, HV.out, hn, hN0]
      have b0 : ¬ (mo : Int) < 0 := by omega
      have b1 : ¬ 64 < (mo : Int) := by omega
      have HB : Hid (n + mo = N0 ∧ mo ≤ 64 ∧ n ≤ 24 ∧ 0 < n ∧ chk p = 0) := ⟨hN0, by omega, h24, hn0, hz⟩
      have hw : wrap64 ((n : Int) + (mo : Int)) = (N0 : Int) := by rw [IntWalk.wrap64_in _ ⟨by omega, by omega⟩]; omega
      obtain ⟨i0, hi, hz0, hz1, hz2⟩ := info_parts parts_g
      clear hv h24 hn0 hmo hN0 hz hm1 hm2 hm
      go_enter Tryd.func11, Tryd.ntmps11
      go_upto_region 8 with (go_at_call 17; refine Calls.mono CK0 ?_; clear CK0; rintro e w1 ⟨rfl, hw1⟩; have HW1 : Hid (PB q w nm v0 v1 (.slice al n cl) w1) := HP.out.below hw1; clear hw1)
      obtain ⟨s, hs⟩ : ∃ s, w1.heap.size = s := ⟨_, rfl⟩
      have hb2 : Below w1.heap.size w1 (w1.alloc (.cells #[.int .i64 0, .int .i64 0] 59)) := (Below.refl _ _).alloc (Nat.le_refl _) _
      have hp2 := HW1.out.below hb2
      have hs2 : (w1.alloc (.cells #[.int .i64 0, .int .i64 0] 59)).heap[s]? = some (.cells #[.int .i64 0, .int .i64 0] 59) := by rw [← hs]; exact heap_alloc_new _ _
      have hz2' : (w1.alloc (.cells #[.int .i64 0, .int .i64 0] 59)).heap.size = s + 1 := by rw [size_alloc, hs]
      rw [hs]
      obtain ⟨W2, hW2⟩ : ∃ W2, w1.alloc (.cells #[.int .i64 0, .int .i64 0] 59) = W2 := ⟨_, rfl⟩
      rw [hW2] at hp2 hs2 hz2' ⊢
      have HS : Hid (q < s) := by show q < s; rw [← hs]; exact HW1.out.lt
      have CT := turns_any _ p W2 (HRD.out W2 hp2.old) (by rw [HN.out]; exact HB.out.2.2.2.1)
      unfold TnP at CT
      rw [hz2'] at CT
      simp only [Nat.add_assoc, Nat.reduceAdd] at CT
      have HP2 : Hid (PB q w nm v0 v1 (.slice al n cl) W2) := hp2
      have HS2 : Hid (W2.heap[s]? = some (.cells #[.int .i64 0, .int .i64 0] 59)) := hs2
      have HZ2 : Hid (W2.heap.size = s + 1) := hz2'
      clear c0 c1 c2 c3
      have c0 := hp2.c0
      have c1 := hp2.c1
      have c2 := hp2.c2
      have c3 := hp2.c3
      clear hb2 hp2 hs2 hW2 hs HW1 hz2'
      go_upto_region 10 with (first
        | (go_at_call 23; refine Calls.mono CT ?_; clear CT; rintro e w3 ⟨rfl, hb3, hz3, ht3, ha3⟩; have HP3 : Hid (PB q w nm v0 v1 (.slice al n cl) w3) := HP2.out.below (by rw [HZ2.out]; exact hb3); have HS3 : Hid (w3.heap[s]? = some (.cells #[.int .i64 0, .int .i64 0] 59)) := (hb3.block s (by omega)).trans HS2.out; have HT3 : Hid (w3.heap[s + 2]? = some (.cells #[.int .i64 (p.ln.getD 0 (0, [])).1] 3)) := ht3; have HA3 : Hid (w3.heap[s + 3]? = some (.cells #[.bool (oneWay p)] 4)) := ha3; have HZ3 : Hid (w3.heap.size = s + 4) := hz3; clear hb3 hz3 ht3 ha3 c0 c1 c2 c3; have c3 := HP3.out.c3)
        | (at_make; go_loud (refine wpList_make_full _ rfl _ _ 30 rfl q 48 i0 (.agg #[.int .i64 0, .int .i64 0, .int .i64 0]) 3 Tryd.underlying30 hi hz0 hz1 _ _ _ _ N0 rfl rfl hw hw (by rw [hz2]; have := HB.out; omega) (by have := HB.out; unfold maxLen; omega) (by rw [HZ3.out]; have := HS.out; omega) ?_; rw [HZ3.out]; intro w4 ho4 hg4)))
      have hB4 : Below w3.heap.size w3 w4 := (Below.refl _ _).grown hg4 (Nat.le_refl _) (fun k hk => nomatch hk)
      have hG4 : ∃ cur : Array Value, w4.heap[s + 4]? = some (.cells cur 48) ∧ cur.size = N0 * 3 := by
        rcases ho4.2 with ⟨e, _⟩ | ⟨g', cap, cur, e, _, hgg, _, _, hcs, _⟩
        · cases e
        · injection e with e1 e2 e3
          injection e1 with e1
          injection e1 with e1
          subst e1 e3
          exact ⟨cur, hgg, hcs⟩
      have hlt4 : s + 4 < w4.heap.size := by
        obtain ⟨cur, h, _⟩ := hG4
        exact (Array.getElem?_eq_some_iff.1 h).1
      have hz3 := HZ3.out
      have HLB : Hid (LvB q s n w nm v0 v1 (.slice al n cl) (shw p 0 0) (shw p 1 0) (sender p 0) (oneWay p) w4) :=
        ⟨HP3.out.below hB4, HS.out, hlt4, (hB4.block s (by omega)).trans HS3.out, by rw [snd_zero (by rw [HN.out]; exact HB.out.2.2.2.1)]; exact (hB4.block (s + 2) (by omega)).trans HT3.out, (hB4.block (s + 3) (by omega)).trans HA3.out⟩
      have HLG : Hid (LvG (s + 4) N0 ((List.range 0).map (gd p)) w4) := by
        obtain ⟨cur, h1, h2⟩ := hG4
        exact ⟨cur, h1, h2, by simp [gcs]⟩
      clear ho4 hg4 hB4 hG4 hlt4 hz3 c3 HT3 HA3 HS3 HZ3 HP3 hw
      go_wp2
      go_loopw [7, 35] (fun v7 v35 wr => ∃ i : Nat, i ≤ N0 ∧ v35 = .int .i64 i ∧ v7 = .int .u8 (fb0 p i : Int) ∧ LvB q s n w nm v0 v1 (.slice al n cl) (shw p 0 i) (shw p 1 i) (sender p i) (oneWay p) wr ∧ LvG (s + 4) N0 ((List.range i).map (gd p)) wr) (fun _ v _ => N0 - (intOf v).toNat)
      case atStart => exact ⟨0, Nat.zero_le _, rfl, rfl, HLB.out, HLG.out⟩
      case round =>
        obtain ⟨i, hi', rfl, rfl, hlb, hlg⟩ := hrel
        have HLR : Hid (LvB q s n w nm v0 v1 (.slice al n cl) (shw p 0 i) (shw p 1 i) (sender p i) (oneWay p) wr) := hlb
        have HGR : Hid (LvG (s + 4) N0 ((List.range i).map (gd p)) wr) := hlg
        by_cases hlt : i < N0
        · have hc := HB.out.2.2.2.2
          have hnx := snd_succ (chk_shp hc) i
          have hf := snd_in hc i
          have hsp := src_prv (p := p) (k := i)
          have hdd := dst_dfl hc (k := i)
          have h16 : fl p i < 16 := fb_lt _ _ _ _
          have h160 := fb0_lt p i
          have hx3 := shw_012 p 0 i
          have hy3 := shw_012 p 1 i
          have hgd : gd p i = (sender p i, src p i, dst p i) := rfl
          have hX : shw p 0 (i + 1) = if sender p i = 0 then src p i else shw p 0 i := rfl
          have hY : shw p 1 (i + 1) = if sender p i = 1 then src p i else shw p 1 i := rfl
          have hfs : n ≤ i → fb0 p i = fl p i := fun h => fl_stay (by rw [HN.out]; exact h) (by rw [HN.out]; exact HB.out.2.2.2.1)
          have hfm : i < n → bits .or .u8 (fb0 p i : Int) (mix (p.ln.getD i (0, [])).2 : Int) = (fl p i : Int) := fun h => by
            rw [← fl_mix (by rw [HN.out]; exact h)]
            exact u8_or ⟨fb0 p i, h160⟩ ⟨mix (p.ln.getD i (0, [])).2, fb_lt _ _ _ _⟩
          have b5 : (i : Int) < (N0 : Int) := by omega
          obtain ⟨F0, hF0⟩ : ∃ F0, fb0 p i = F0 := ⟨_, rfl⟩
          obtain ⟨F, hF⟩ : ∃ F, fl p i = F := ⟨_, rfl⟩
          obtain ⟨S0, hS0⟩ : ∃ S0, src p i = S0 := ⟨_, rfl⟩
          obtain ⟨D0, hD0⟩ : ∃ D0, dst p i = D0 := ⟨_, rfl⟩
          obtain ⟨f, hf0⟩ : ∃ f, sender p i = f := ⟨_, rfl⟩
          obtain ⟨f1, hf1⟩ : ∃ f1, sender p (i + 1) = f1 := ⟨_, rfl⟩
          obtain ⟨x, hx0⟩ : ∃ x, shw p 0 i = x := ⟨_, rfl⟩
          obtain ⟨y, hy0⟩ : ∃ y, shw p 1 i = y := ⟨_, rfl⟩
          rw [hx0, hy0, hf0] at HLR
          rw [hF0] at hfs hfm ⊢
          rw [hF] at hsp hdd h16 hfs hfm
          rw [hS0] at hsp
          rw [hf0] at hf hsp hdd hnx hgd hX hY
          rw [hD0] at hdd hgd
          rw [hS0] at hgd hX hY
          rw [hx0] at hX hx3
          rw [hy0] at hY hy3
          rw [hf1] at hnx
          have HTU : Hid (∀ Y, (Y = if oneWay p = true then wr else wr.setCell ⟨s + 2, 0, none⟩ (.int .i64 (1 - f))) → LvB q s n w nm v0 v1 (.slice al n cl) x y f1 (oneWay p) Y) := fun Y hY => by
            rw [hY, hnx]
            split
            · exact HLR.out
            · exact HLR.out.turn _
          have HTG : Hid (∀ Y, (Y = if oneWay p = true then wr else wr.setCell ⟨s + 2, 0, none⟩ (.int .i64 (1 - f))) → LvG (s + 4) N0 ((List.range i).map (gd p)) Y) := fun Y hY => by
            rw [hY]
            split
            · exact HGR.out
            · exact HGR.out.set (heap_setCell_other _ _ _ _ (by show s + 4 ≠ s + 2; omega))
          have HSRC : Hid (∀ Y, Calls Tryd.prog 25 #[.int .u8 (F : Int), .int .i64 f] Y fun e w' => e = .returned (.int .i64 S0) ∧ w' = Y) := fun Y => by
            have := gsource_any F h16 f hf Y
            rw [hsp] at this
            exact this
          have HDST : Hid (∀ Y, Calls Tryd.prog 26 #[.int .u8 (F : Int), .int .i64 f, .int .i64 (shw p (1 - f) i)] Y fun e w' => e = .returned (.int .i64 D0) ∧ w' = Y) := fun Y => by
            have := gdest_any F h16 f hf (shw p (1 - f) i) (shw_012 p _ i) Y
            rw [hdd] at this
            exact this
          have HOTH : Hid (∀ Y, Calls Tryd.prog 27 #[.int .i64 f] Y fun e w' => e = .returned (.int .i64 (1 - f)) ∧ w' = Y) := fun Y => gother_any f hf Y
          have HI : Hid (i < N0 ∧ gd p i = (f, S0, D0) ∧ shw p 0 (i + 1) = (if f = 0 then S0 else x) ∧ shw p 1 (i + 1) = (if f = 1 then S0 else y) ∧ sender p (i + 1) = f1 ∧ fl p i = F) := ⟨hlt, hgd, hX, hY, hf1, hF⟩
          have c3 := hlb.pb.c3
          have HHF : Hid (f = 0 ∨ f = 1) := hf
          clear hlb hlg hnx hsp hdd h16 h160 hx3 hy3 hgd hX hY hlt hf hc hS0 hD0 hf0 hf1 hF0 hF
          by_cases hin : i < n
          · have b6 : (i : Int) < (n : Int) := by omega
            have hor := hfm hin
            obtain ⟨b, o, a2, n2, c2, rfl, hcl, hrn, hn2⟩ := (HLN.out wr HLR.out.pb.old).at hin
            have x1 := (hcl _ (Below.refl _ _)).2
            have CM := mixed_any wr hrn
            obtain ⟨M, hM⟩ : ∃ M, mix (p.ln.getD i (0, [])).2 = M := ⟨_, rfl⟩
            rw [hM] at CM hor
            clear hfm hfs hcl hrn hM hn2
            go_upto_region 15 with (go_at_call 24; refine Calls.mono CM ?_; clear CM; rintro e wm ⟨rfl, hwm⟩; have hwn := hwm.symm; subst hwn)
            clear x1 c3 hor b6
            rcases HHF.out with rfl | rfl
            · rw [show (1 : Int) - 0 = 1 by decide, hy0] at HDST
              have CT := turn1_any (s + 2) 0 (oneWay p) wr (by decide) HLR.out.tn HLR.out.al
              go_upto_region 17 with (first
                | (go_at_call 45; refine Calls.mono CT ?_; clear CT; rintro e w5 ⟨rfl, hw5⟩; have HL5 : Hid (LvB q s n w nm v0 v1 (.slice (some ⟨b, o, none⟩) n cl) x y f1 (oneWay p) w5) := HTU.out w5 hw5; have HG5 : Hid (LvG (s + 4) N0 ((List.range i).map (gd p)) w5) := HTG.out w5 hw5; have s0 := HL5.out.s0; have s1 := HL5.out.s1; have fz0 := HL5.out.fz 0; have fz1 := HL5.out.fz 1; have CS := HSRC.out w5; clear hw5)
                | (go_at_call 25; refine Calls.mono CS ?_; clear CS; rintro e w6 ⟨rfl, hw6⟩; have hw7 := hw6.symm; subst hw7))
              have HL7 : Hid (LvB q s n w nm v0 v1 (.slice (some ⟨b, o, none⟩) n cl) S0 y f1 (oneWay p) (w5.setCell ⟨s, 0, none⟩ (.int .i64 S0))) := (HL5.out.shown S0).1
              have HG7 : Hid (LvG (s + 4) N0 ((List.range i).map (gd p)) (w5.setCell ⟨s, 0, none⟩ (.int .i64 S0))) := HG5.out.set (heap_setCell_other _ _ _ _ (by show s + 4 ≠ s; omega))
              obtain ⟨W7, hW7⟩ : ∃ W7, w5.setCell ⟨s, 0, none⟩ (.int .i64 S0) = W7 := ⟨_, rfl⟩
              rw [hW7] at HL7 HG7
              simp only [hW7]
              have hln : ((List.range i).map (gd p)).length = i := by simp
              have hth := HG7.out.drew.there (by rw [hln]; exact HI.out.1)
              have hsn := HG7.out.drew.snoc (by rw [hln]; exact HI.out.1) (gd p i)
              rw [hln] at hth hsn
              rw [HI.out.2.1] at hsn
              have HTH : Hid (W7.drew.there (s + 4) (i * 3) 3) := hth
              have HSN : Hid (LvG (s + 4) N0 ((List.range i).map (gd p) ++ [(0, S0, D0)]) (W7.drew.setCells (s + 4) (i * 3) [.int .i64 0, .int .i64 S0, .int .i64 D0])) := hsn
              have st0 : LvB q s n w nm v0 v1 (.slice (some ⟨b, o, none⟩) n cl) S0 y f1 (oneWay p) W7.drew := HL7.out.drew
              clear hW7 s0 s1 fz0 fz1 HL5 HG5 HTU HTG HSRC hln hth hsn
              refine Go.Pin.wp_region_hcls (fun Y => LvB q s n w nm v0 v1 (.slice (some ⟨b, o, none⟩) n cl) S0 y f1 (oneWay p) Y) 16 (by rfl) (by kernel_rfl) st0 ?_
              intro Sq fq hNq hRq hSq
              have y0 := fun x => (hRq x).s0
              have y1 := fun x => (hRq x).s1
              obtain ⟨wd, hwd⟩ : ∃ wd, W7.drew = wd := ⟨_, rfl⟩
              rw [hwd] at HTH HSN st0 ⊢
              clear hwd
              refine Go.Pin.takeQ 0 (by simp only [List.getElem?_toArray, List.getElem?_cons_zero, List.getElem?_cons_succ]; exact rfl) (by kernel_rfl) (by kernel_rfl) (by kernel_rfl) (by rfl) (fun _ _ d _ _ h => by cases d <;> exact h) (st0) (hSq).out (by kernel_rfl) ?_
              intro Kq hKq
              go_big_quiet_op
              go_big_quiet_on
              refine Go.Pin.takeQ 1 (by simp only [List.getElem?_toArray, List.getElem?_cons_zero, List.getElem?_cons_succ]; exact rfl) (by kernel_rfl) (by kernel_rfl) (by kernel_rfl) (by rfl) (fun _ _ d _ _ h => by cases d <;> exact h) (st0) (hSq).out (by kernel_rfl) ?_
              intro Kq hKq
              go_big_quiet_op
              go_big_quiet_on
              refine Go.Pin.takeQ 2 (by simp only [List.getElem?_toArray, List.getElem?_cons_zero, List.getElem?_cons_succ]; exact rfl) (by kernel_rfl) (by kernel_rfl) (by kernel_rfl) (by rfl) (fun _ _ d _ _ h => by cases d <;> exact h) (st0) (hSq).out (by kernel_rfl) ?_
              intro Kq hKq
              go_big_quiet_op
              go_big_quiet_on
              refine Go.Pin.takeQ 3 (by simp only [List.getElem?_toArray, List.getElem?_cons_zero, List.getElem?_cons_succ]; exact rfl) (by kernel_rfl) (by kernel_rfl) (by kernel_rfl) (by rfl) (fun _ _ d _ _ h => by cases d <;> exact h) (st0) (hSq).out (by kernel_rfl) ?_
              intro Kq hKq
              go_big_quiet_op
              go_big_quiet_on
              refine Go.Pin.takeQ 4 (by simp only [List.getElem?_toArray, List.getElem?_cons_zero, List.getElem?_cons_succ]; exact rfl) (by kernel_rfl) (by kernel_rfl) (by kernel_rfl) (by rfl) (fun _ _ d _ _ h => by cases d <;> exact h) (st0) (hSq).out (by kernel_rfl) ?_
              intro Kq hKq
              go_big_quiet_op
              go_big_quiet_on
              refine Go.Pin.takeQ 5 (by simp only [List.getElem?_toArray, List.getElem?_cons_zero, List.getElem?_cons_succ]; exact rfl) (by kernel_rfl) (by kernel_rfl) (by kernel_rfl) (by rfl) (fun _ _ d _ _ h => by cases d <;> exact h) (st0) (hSq).out (by kernel_rfl) ?_
              intro Kq hKq
              go_big_quiet_op
              go_big_quiet_on
              refine Go.Pin.takeQ 6 (by simp only [List.getElem?_toArray, List.getElem?_cons_zero, List.getElem?_cons_succ]; exact rfl) (by kernel_rfl) (by kernel_rfl) (by kernel_rfl) (by rfl) (fun _ _ d _ _ h => by cases d <;> exact h) (st0) (hSq).out (by kernel_rfl) ?_
              intro Kq hKq
              go_big_quiet_op
              go_big_quiet_on
              refine Go.Pin.takeQ 7 (by simp only [List.getElem?_toArray, List.getElem?_cons_zero, List.getElem?_cons_succ]; exact rfl) (by kernel_rfl) (by kernel_rfl) (by kernel_rfl) (by rfl) (fun _ _ d _ _ h => by cases d <;> exact h) (st0) (hSq).out (by kernel_rfl) ?_
              intro Kq hKq
              go_big_quiet_op
              go_big_quiet_on
              refine Go.Pin.takeQ 8 (by simp only [List.getElem?_toArray, List.getElem?_cons_zero, List.getElem?_cons_succ]; exact rfl) (by kernel_rfl) (by kernel_rfl) (by kernel_rfl) (by rfl) (fun _ _ d _ _ h => by cases d <;> exact h) (st0) (hSq).out (by kernel_rfl) ?_
              intro Kq hKq
              go_big_quiet_op
              go_big_quiet_on
              refine Go.Pin.readyQ 9 (by simp only [List.getElem?_toArray, List.getElem?_cons_zero, List.getElem?_cons_succ]; exact rfl) (by kernel_rfl) (by kernel_rfl) ?_
              intro K hK
              refine wpCallU (d := some 68) (f := 27) (R := fun x w8 => x = .int .i64 1 ∧ w8 = wd) rfl rfl (args := #[.int .i64 0]) (by simp only [List.map_toArray, List.map_cons, List.map_nil]; rfl) (fun _ => rfl) ((HOTH.out wd).mono (fun e w8 ⟨h1, h2⟩ => ⟨_, h1, rfl, h2⟩)) ?_
              rintro x8 w8 ⟨rfl, hw8⟩
              rw [hw8]
              refine hK _ _ st0 ?_
              simp only [Act.put, List.setIfInBounds_toArray, List.set_cons_zero, List.set_cons_succ]
              clear hK K hw8 w8
              refine Go.Pin.takeQ 10 (by simp only [List.getElem?_toArray, List.getElem?_cons_zero, List.getElem?_cons_succ]; exact rfl) (by kernel_rfl) (by kernel_rfl) (by kernel_rfl) (by rfl) (fun _ _ d _ _ h => by cases d <;> exact h) (st0) (hSq).out (by kernel_rfl) ?_
              intro Kq hKq
              go_big_quiet_op
              go_big_quiet_on
              refine Go.Pin.takeQ 11 (by simp only [List.getElem?_toArray, List.getElem?_cons_zero, List.getElem?_cons_succ]; exact rfl) (by kernel_rfl) (by kernel_rfl) (by kernel_rfl) (by rfl) (fun _ _ d _ _ h => by cases d <;> exact h) (st0) (hSq).out (by kernel_rfl) ?_
              intro Kq hKq
              go_big_quiet_op
              go_big_quiet_on
              refine Go.Pin.readyQ 12 (by simp only [List.getElem?_toArray, List.getElem?_cons_zero, List.getElem?_cons_succ]; exact rfl) (by kernel_rfl) (by kernel_rfl) ?_
              intro K hK
              refine wpCallU (d := some 71) (f := 26) (R := fun x w8 => x = .int .i64 D0 ∧ w8 = wd) rfl rfl (args := #[.int .u8 (F : Int), .int .i64 0, .int .i64 y]) (by simp only [List.map_toArray, List.map_cons, List.map_nil]; rfl) (fun _ => rfl) ((HDST.out wd).mono (fun e w8 ⟨h1, h2⟩ => ⟨_, h1, rfl, h2⟩)) ?_
              rintro x8 w8 ⟨rfl, hw8⟩
              rw [hw8]
              refine hK _ _ st0 ?_
              simp only [Act.put, List.setIfInBounds_toArray, List.set_cons_zero, List.set_cons_succ]
              clear hK K hw8 w8
              refine Go.Pin.takeQ 13 (by simp only [List.getElem?_toArray, List.getElem?_cons_zero, List.getElem?_cons_succ]; exact rfl) (by kernel_rfl) (by kernel_rfl) (by kernel_rfl) (by rfl) (fun _ _ d _ _ h => by cases d <;> exact h) (st0) (hSq).out (by kernel_rfl) ?_
              intro Kq hKq
              go_big_quiet_op
              go_big_quiet_on
              refine Go.Pin.takeQ 14 (by simp only [List.getElem?_toArray, List.getElem?_cons_zero, List.getElem?_cons_succ]; exact rfl) (by kernel_rfl) (by kernel_rfl) (by kernel_rfl) (by rfl) (fun _ _ d _ _ h => by cases d <;> exact h) (st0) (hSq).out (by kernel_rfl) ?_
              intro Kq hKq
              go_big_quiet_op
              go_big_quiet_on
              refine Go.Pin.readyQ 15 (by simp only [List.getElem?_toArray, List.getElem?_cons_zero, List.getElem?_cons_succ]; exact rfl) (by kernel_rfl) (by kernel_rfl) ?_
              intro K hK
              refine wp_store_mid 48 (.tmp 73) (.tmp 72) rfl (s + 4) (i * 3) #[.int .i64 0, .int .i64 S0, .int .i64 D0] rfl rfl HTH.out (by kernel_rfl) (by simp [Value.oneCell']) (hK _ _ (st0.grade _ _ _ _) ?_)
              simp only [Act.put, List.setIfInBounds_toArray, List.set_cons_zero, List.set_cons_succ]
              clear hK K
              refine wpAnyH_done (by kernel_rfl) ?_ _
              have HL9 : Hid (LvB q s n w nm v0 v1 (.slice (some ⟨b, o, none⟩) n cl) S0 y f1 (oneWay p) (wd.setCells (s + 4) (i * 3) [.int .i64 0, .int .i64 S0, .int .i64 D0])) := st0.grade _ _ _ _
              obtain ⟨W9, hW9⟩ : ∃ W9, wd.setCells (s + 4) (i * 3) [.int .i64 0, .int .i64 S0, .int .i64 D0] = W9 := ⟨_, rfl⟩
              rw [hW9] at HL9 HSN
              simp only [hW9]
              clear hW9 st0 y0 y1 hRq hSq hNq
              go_wp2
              refine ⟨⟨i + 1, HI.out.1, congrArg (Value.int .i64) (wrapS HI.out.1 (by have := HB.out; omega)), congrArg (fun z : Nat => Value.int .u8 (z : Int)) HI.out.2.2.2.2.2.symm, ?_, ?_⟩, measS HI.out.1 (by have := HB.out; omega)⟩
              · rw [HI.out.2.2.1, HI.out.2.2.2.1, HI.out.2.2.2.2.1]
                exact HL9.out
              · rw [List.range_succ, List.map_append, List.map_cons, List.map_nil, HI.out.2.1]
                exact HSN.out
            · rw [show (1 : Int) - 1 = 0 by decide, hx0] at HDST
              have CT := turn1_any (s + 2) 1 (oneWay p) wr (by decide) HLR.out.tn HLR.out.al
              go_upto_region 17 with (first
                | (go_at_call 45; refine Calls.mono CT ?_; clear CT; rintro e w5 ⟨rfl, hw5⟩; have HL5 : Hid (LvB q s n w nm v0 v1 (.slice (some ⟨b, o, none⟩) n cl) x y f1 (oneWay p) w5) := HTU.out w5 hw5; have HG5 : Hid (LvG (s + 4) N0 ((List.range i).map (gd p)) w5) := HTG.out w5 hw5; have s0 := HL5.out.s0; have s1 := HL5.out.s1; have fz0 := HL5.out.fz 0; have fz1 := HL5.out.fz 1; have CS := HSRC.out w5; clear hw5)
                | (go_at_call 25; refine Calls.mono CS ?_; clear CS; rintro e w6 ⟨rfl, hw6⟩; have hw7 := hw6.symm; subst hw7))
              have HL7 : Hid (LvB q s n w nm v0 v1 (.slice (some ⟨b, o, none⟩) n cl) x S0 f1 (oneWay p) (w5.setCell ⟨s, 1, none⟩ (.int .i64 S0))) := (HL5.out.shown S0).2
              have HG7 : Hid (LvG (s + 4) N0 ((List.range i).map (gd p)) (w5.setCell ⟨s, 1, none⟩ (.int .i64 S0))) := HG5.out.set (heap_setCell_other _ _ _ _ (by show s + 4 ≠ s; omega))
              obtain ⟨W7, hW7⟩ : ∃ W7, w5.setCell ⟨s, 1, none⟩ (.int .i64 S0) = W7 := ⟨_, rfl⟩
              rw [hW7] at HL7 HG7
              simp only [hW7]
              have hln : ((List.range i).map (gd p)).length = i := by simp
              have hth := HG7.out.drew.there (by rw [hln]; exact HI.out.1)
              have hsn := HG7.out.drew.snoc (by rw [hln]; exact HI.out.1) (gd p i)
              rw [hln] at hth hsn
              rw [HI.out.2.1] at hsn
              have HTH : Hid (W7.drew.there (s + 4) (i * 3) 3) := hth
              have HSN : Hid (LvG (s + 4) N0 ((List.range i).map (gd p) ++ [(1, S0, D0)]) (W7.drew.setCells (s + 4) (i * 3) [.int .i64 1, .int .i64 S0, .int .i64 D0])) := hsn
              have st0 : LvB q s n w nm v0 v1 (.slice (some ⟨b, o, none⟩) n cl) x S0 f1 (oneWay p) W7.drew := HL7.out.drew
              clear hW7 s0 s1 fz0 fz1 HL5 HG5 HTU HTG HSRC hln hth hsn
              refine Go.Pin.wp_region_hcls (fun Y => LvB q s n w nm v0 v1 (.slice (some ⟨b, o, none⟩) n cl) x S0 f1 (oneWay p) Y) 16 (by rfl) (by kernel_rfl) st0 ?_
              intro Sq fq hNq hRq hSq
              have y0 := fun x => (hRq x).s0
              have y1 := fun x => (hRq x).s1
              obtain ⟨wd, hwd⟩ : ∃ wd, W7.drew = wd := ⟨_, rfl⟩
              rw [hwd] at HTH HSN st0 ⊢
              clear hwd
              refine Go.Pin.takeQ 0 (by simp only [List.getElem?_toArray, List.getElem?_cons_zero, List.getElem?_cons_succ]; exact rfl) (by kernel_rfl) (by kernel_rfl) (by kernel_rfl) (by rfl) (fun _ _ d _ _ h => by cases d <;> exact h) (st0) (hSq).out (by kernel_rfl) ?_
              intro Kq hKq
              go_big_quiet_op
              go_big_quiet_on
              refine Go.Pin.takeQ 1 (by simp only [List.getElem?_toArray, List.getElem?_cons_zero, List.getElem?_cons_succ]; exact rfl) (by kernel_rfl) (by kernel_rfl) (by kernel_rfl) (by rfl) (fun _ _ d _ _ h => by cases d <;> exact h) (st0) (hSq).out (by kernel_rfl) ?_
              intro Kq hKq
              go_big_quiet_op
              go_big_quiet_on
              refine Go.Pin.takeQ 2 (by simp only [List.getElem?_toArray, List.getElem?_cons_zero, List.getElem?_cons_succ]; exact rfl) (by kernel_rfl) (by kernel_rfl) (by kernel_rfl) (by rfl) (fun _ _ d _ _ h => by cases d <;> exact h) (st0) (hSq).out (by kernel_rfl) ?_
              intro Kq hKq
              go_big_quiet_op
              go_big_quiet_on
              refine Go.Pin.takeQ 3 (by simp only [List.getElem?_toArray, List.getElem?_cons_zero, List.getElem?_cons_succ]; exact rfl) (by kernel_rfl) (by kernel_rfl) (by kernel_rfl) (by rfl) (fun _ _ d _ _ h => by cases d <;> exact h) (st0) (hSq).out (by kernel_rfl) ?_
              intro Kq hKq
              go_big_quiet_op
              go_big_quiet_on
              refine Go.Pin.takeQ 4 (by simp only [List.getElem?_toArray, List.getElem?_cons_zero, List.getElem?_cons_succ]; exact rfl) (by kernel_rfl) (by kernel_rfl) (by kernel_rfl) (by rfl) (fun _ _ d _ _ h => by cases d <;> exact h) (st0) (hSq).out (by kernel_rfl) ?_
              intro Kq hKq
              go_big_quiet_op
              go_big_quiet_on
              refine Go.Pin.takeQ 5 (by simp only [List.getElem?_toArray, List.getElem?_cons_zero, List.getElem?_cons_succ]; exact rfl) (by kernel_rfl) (by kernel_rfl) (by kernel_rfl) (by rfl) (fun _ _ d _ _ h => by cases d <;> exact h) (st0) (hSq).out (by kernel_rfl) ?_
              intro Kq hKq
              go_big_quiet_op
              go_big_quiet_on
              refine Go.Pin.takeQ 6 (by simp only [List.getElem?_toArray, List.getElem?_cons_zero, List.getElem?_cons_succ]; exact rfl) (by kernel_rfl) (by kernel_rfl) (by kernel_rfl) (by rfl) (fun _ _ d _ _ h => by cases d <;> exact h) (st0) (hSq).out (by kernel_rfl) ?_
              intro Kq hKq
              go_big_quiet_op
              go_big_quiet_on
              refine Go.Pin.takeQ 7 (by simp only [List.getElem?_toArray, List.getElem?_cons_zero, List.getElem?_cons_succ]; exact rfl) (by kernel_rfl) (by kernel_rfl) (by kernel_rfl) (by rfl) (fun _ _ d _ _ h => by cases d <;> exact h) (st0) (hSq).out (by kernel_rfl) ?_
              intro Kq hKq
              go_big_quiet_op
              go_big_quiet_on
              refine Go.Pin.takeQ 8 (by simp only [List.getElem?_toArray, List.getElem?_cons_zero, List.getElem?_cons_succ]; exact rfl) (by kernel_rfl) (by kernel_rfl) (by kernel_rfl) (by rfl) (fun _ _ d _ _ h => by cases d <;> exact h) (st0) (hSq).out (by kernel_rfl) ?_
              intro Kq hKq
              go_big_quiet_op
              go_big_quiet_on
              refine Go.Pin.readyQ 9 (by simp only [List.getElem?_toArray, List.getElem?_cons_zero, List.getElem?_cons_succ]; exact rfl) (by kernel_rfl) (by kernel_rfl) ?_
              intro K hK
              refine wpCallU (d := some 68) (f := 27) (R := fun x w8 => x = .int .i64 0 ∧ w8 = wd) rfl rfl (args := #[.int .i64 1]) (by simp only [List.map_toArray, List.map_cons, List.map_nil]; rfl) (fun _ => rfl) ((HOTH.out wd).mono (fun e w8 ⟨h1, h2⟩ => ⟨_, h1, rfl, h2⟩)) ?_
              rintro x8 w8 ⟨rfl, hw8⟩
              rw [hw8]
              refine hK _ _ st0 ?_
              simp only [Act.put, List.setIfInBounds_toArray, List.set_cons_zero, List.set_cons_succ]
              clear hK K hw8 w8
              refine Go.Pin.takeQ 10 (by simp only [List.getElem?_toArray, List.getElem?_cons_zero, List.getElem?_cons_succ]; exact rfl) (by kernel_rfl) (by kernel_rfl) (by kernel_rfl) (by rfl) (fun _ _ d _ _ h => by cases d <;> exact h) (st0) (hSq).out (by kernel_rfl) ?_
              intro Kq hKq
              go_big_quiet_op
              go_big_quiet_on
              refine Go.Pin.takeQ 11 (by simp only [List.getElem?_toArray, List.getElem?_cons_zero, List.getElem?_cons_succ]; exact rfl) (by kernel_rfl) (by kernel_rfl) (by kernel_rfl) (by rfl) (fun _ _ d _ _ h => by cases d <;> exact h) (st0) (hSq).out (by kernel_rfl) ?_
              intro Kq hKq
              go_big_quiet_op
              go_big_quiet_on
              refine Go.Pin.readyQ 12 (by simp only [List.getElem?_toArray, List.getElem?_cons_zero, List.getElem?_cons_succ]; exact rfl) (by kernel_rfl) (by kernel_rfl) ?_
              intro K hK
              refine wpCallU (d := some 71) (f := 26) (R := fun x w8 => x = .int .i64 D0 ∧ w8 = wd) rfl rfl (args := #[.int .u8 (F : Int), .int .i64 1, .int .i64 x]) (by simp only [List.map_toArray, List.map_cons, List.map_nil]; rfl) (fun _ => rfl) ((HDST.out wd).mono (fun e w8 ⟨h1, h2⟩ => ⟨_, h1, rfl, h2⟩)) ?_
              rintro x8 w8 ⟨rfl, hw8⟩
              rw [hw8]
              refine hK _ _ st0 ?_
              simp only [Act.put, List.setIfInBounds_toArray, List.set_cons_zero, List.set_cons_succ]
              clear hK K hw8 w8
              refine Go.Pin.takeQ 13 (by simp only [List.getElem?_toArray, List.getElem?_cons_zero, List.getElem?_cons_succ]; exact rfl) (by kernel_rfl) (by kernel_rfl) (by kernel_rfl) (by rfl) (fun _ _ d _ _ h => by cases d <;> exact h) (st0) (hSq).out (by kernel_rfl) ?_
              intro Kq hKq
              go_big_quiet_op
              go_big_quiet_on
              refine Go.Pin.takeQ 14 (by simp only [List.getElem?_toArray, List.getElem?_cons_zero, List.getElem?_cons_succ]; exact rfl) (by kernel_rfl) (by kernel_rfl) (by kernel_rfl) (by rfl) (fun _ _ d _ _ h => by cases d <;> exact h) (st0) (hSq).out (by kernel_rfl) ?_
              intro Kq hKq
              go_big_quiet_op
              go_big_quiet_on
              refine Go.Pin.readyQ 15 (by simp only [List.getElem?_toArray, List.getElem?_cons_zero, List.getElem?_cons_succ]; exact rfl) (by kernel_rfl) (by kernel_rfl) ?_
              intro K hK
              refine wp_store_mid 48 (.tmp 73) (.tmp 72) rfl (s + 4) (i * 3) #[.int .i64 1, .int .i64 S0, .int .i64 D0] rfl rfl HTH.out (by kernel_rfl) (by simp [Value.oneCell']) (hK _ _ (st0.grade _ _ _ _) ?_)
              simp only [Act.put, List.setIfInBounds_toArray, List.set_cons_zero, List.set_cons_succ]
              clear hK K
              refine wpAnyH_done (by kernel_rfl) ?_ _
              have HL9 : Hid (LvB q s n w nm v0 v1 (.slice (some ⟨b, o, none⟩) n cl) x S0 f1 (oneWay p) (wd.setCells (s + 4) (i * 3) [.int .i64 1, .int .i64 S0, .int .i64 D0])) := st0.grade _ _ _ _
              obtain ⟨W9, hW9⟩ : ∃ W9, wd.setCells (s + 4) (i * 3) [.int .i64 1, .int .i64 S0, .int .i64 D0] = W9 := ⟨_, rfl⟩
              rw [hW9] at HL9 HSN
              simp only [hW9]
              clear hW9 st0 y0 y1 hRq hSq hNq
              go_wp2
              refine ⟨⟨i + 1, HI.out.1, congrArg (Value.int .i64) (wrapS HI.out.1 (by have := HB.out; omega)), congrArg (fun z : Nat => Value.int .u8 (z : Int)) HI.out.2.2.2.2.2.symm, ?_, ?_⟩, measS HI.out.1 (by have := HB.out; omega)⟩
              · rw [HI.out.2.2.1, HI.out.2.2.2.1, HI.out.2.2.2.2.1]
                exact HL9.out
              · rw [List.range_succ, List.map_append, List.map_cons, List.map_nil, HI.out.2.1]
                exact HSN.out
          · have b6 : ¬ (i : Int) < (n : Int) := by omega
            rw [hfs (by omega)]
            clear hfm hfs
            go_upto_region 15 with (fail)
            clear c3 b6
            rcases HHF.out with rfl | rfl
            · rw [show (1 : Int) - 0 = 1 by decide, hy0] at HDST
              have CT := turn1_any (s + 2) 0 (oneWay p) wr (by decide) HLR.out.tn HLR.out.al
              go_upto_region 17 with (first
                | (go_at_call 45; refine Calls.mono CT ?_; clear CT; rintro e w5 ⟨rfl, hw5⟩; have HL5 : Hid (LvB q s n w nm v0 v1 (.slice al n cl) x y f1 (oneWay p) w5) := HTU.out w5 hw5; have HG5 : Hid (LvG (s + 4) N0 ((List.range i).map (gd p)) w5) := HTG.out w5 hw5; have s0 := HL5.out.s0; have s1 := HL5.out.s1; have fz0 := HL5.out.fz 0; have fz1 := HL5.out.fz 1; have CS := HSRC.out w5; clear hw5)
                | (go_at_call 25; refine Calls.mono CS ?_; clear CS; rintro e w6 ⟨rfl, hw6⟩; have hw7 := hw6.symm; subst hw7))
              have HL7 : Hid (LvB q s n w nm v0 v1 (.slice al n cl) S0 y f1 (oneWay p) (w5.setCell ⟨s, 0, none⟩ (.int .i64 S0))) := (HL5.out.shown S0).1
              have HG7 : Hid (LvG (s + 4) N0 ((List.range i).map (gd p)) (w5.setCell ⟨s, 0, none⟩ (.int .i64 S0))) := HG5.out.set (heap_setCell_other _ _ _ _ (by show s + 4 ≠ s; omega))
              obtain ⟨W7, hW7⟩ : ∃ W7, w5.setCell ⟨s, 0, none⟩ (.int .i64 S0) = W7 := ⟨_, rfl⟩
              rw [hW7] at HL7 HG7
              simp only [hW7]
              have hln : ((List.range i).map (gd p)).length = i := by simp
              have hth := HG7.out.drew.there (by rw [hln]; exact HI.out.1)
              have hsn := HG7.out.drew.snoc (by rw [hln]; exact HI.out.1) (gd p i)
              rw [hln] at hth hsn
              rw [HI.out.2.1] at hsn
              have HTH : Hid (W7.drew.there (s + 4) (i * 3) 3) := hth
              have HSN : Hid (LvG (s + 4) N0 ((List.range i).map (gd p) ++ [(0, S0, D0)]) (W7.drew.setCells (s + 4) (i * 3) [.int .i64 0, .int .i64 S0, .int .i64 D0])) := hsn
              have st0 : LvB q s n w nm v0 v1 (.slice al n cl) S0 y f1 (oneWay p) W7.drew := HL7.out.drew
              clear hW7 s0 s1 fz0 fz1 HL5 HG5 HTU HTG HSRC hln hth hsn
              refine Go.Pin.wp_region_hcls (fun Y => LvB q s n w nm v0 v1 (.slice al n cl) S0 y f1 (oneWay p) Y) 16 (by rfl) (by kernel_rfl) st0 ?_
              intro Sq fq hNq hRq hSq
              have y0 := fun x => (hRq x).s0
              have y1 := fun x => (hRq x).s1
              obtain ⟨wd, hwd⟩ : ∃ wd, W7.drew = wd := ⟨_, rfl⟩
              rw [hwd] at HTH HSN st0 ⊢
              clear hwd
              refine Go.Pin.takeQ 0 (by simp only [List.getElem?_toArray, List.getElem?_cons_zero, List.getElem?_cons_succ]; exact rfl) (by kernel_rfl) (by kernel_rfl) (by kernel_rfl) (by rfl) (fun _ _ d _ _ h => by cases d <;> exact h) (st0) (hSq).out (by kernel_rfl) ?_
              intro Kq hKq
              go_big_quiet_op
              go_big_quiet_on
              refine Go.Pin.takeQ 1 (by simp only [List.getElem?_toArray, List.getElem?_cons_zero, List.getElem?_cons_succ]; exact rfl) (by kernel_rfl) (by kernel_rfl) (by kernel_rfl) (by rfl) (fun _ _ d _ _ h => by cases d <;> exact h) (st0) (hSq).out (by kernel_rfl) ?_
              intro Kq hKq
              go_big_quiet_op
              go_big_quiet_on
              refine Go.Pin.takeQ 2 (by simp only [List.getElem?_toArray, List.getElem?_cons_zero, List.getElem?_cons_succ]; exact rfl) (by kernel_rfl) (by kernel_rfl) (by kernel_rfl) (by rfl) (fun _ _ d _ _ h => by cases d <;> exact h) (st0) (hSq).out (by kernel_rfl) ?_
              intro Kq hKq
              go_big_quiet_op
              go_big_quiet_on
              refine Go.Pin.takeQ 3 (by simp only [List.getElem?_toArray, List.getElem?_cons_zero, List.getElem?_cons_succ]; exact rfl) (by kernel_rfl) (by kernel_rfl) (by kernel_rfl) (by rfl) (fun _ _ d _ _ h => by cases d <;> exact h) (st0) (hSq).out (by kernel_rfl) ?_
              intro Kq hKq
              go_big_quiet_op
              go_big_quiet_on
              refine Go.Pin.takeQ 4 (by simp only [List.getElem?_toArray, List.getElem?_cons_zero, List.getElem?_cons_succ]; exact rfl) (by kernel_rfl) (by kernel_rfl) (by kernel_rfl) (by rfl) (fun _ _ d _ _ h => by cases d <;> exact h) (st0) (hSq).out (by kernel_rfl) ?_
              intro Kq hKq
              go_big_quiet_op
              go_big_quiet_on
              refine Go.Pin.takeQ 5 (by simp only [List.getElem?_toArray, List.getElem?_cons_zero, List.getElem?_cons_succ]; exact rfl) (by kernel_rfl) (by kernel_rfl) (by kernel_rfl) (by rfl) (fun _ _ d _ _ h => by cases d <;> exact h) (st0) (hSq).out (by kernel_rfl) ?_
              intro Kq hKq
              go_big_quiet_op
              go_big_quiet_on
              refine Go.Pin.takeQ 6 (by simp only [List.getElem?_toArray, List.getElem?_cons_zero, List.getElem?_cons_succ]; exact rfl) (by kernel_rfl) (by kernel_rfl) (by kernel_rfl) (by rfl) (fun _ _ d _ _ h => by cases d <;> exact h) (st0) (hSq).out (by kernel_rfl) ?_
              intro Kq hKq
              go_big_quiet_op
              go_big_quiet_on
              refine Go.Pin.takeQ 7 (by simp only [List.getElem?_toArray, List.getElem?_cons_zero, List.getElem?_cons_succ]; exact rfl) (by kernel_rfl) (by kernel_rfl) (by kernel_rfl) (by rfl) (fun _ _ d _ _ h => by cases d <;> exact h) (st0) (hSq).out (by kernel_rfl) ?_
              intro Kq hKq
              go_big_quiet_op
              go_big_quiet_on
              refine Go.Pin.takeQ 8 (by simp only [List.getElem?_toArray, List.getElem?_cons_zero, List.getElem?_cons_succ]; exact rfl) (by kernel_rfl) (by kernel_rfl) (by kernel_rfl) (by rfl) (fun _ _ d _ _ h => by cases d <;> exact h) (st0) (hSq).out (by kernel_rfl) ?_
              intro Kq hKq
              go_big_quiet_op
              go_big_quiet_on
              refine Go.Pin.readyQ 9 (by simp only [List.getElem?_toArray, List.getElem?_cons_zero, List.getElem?_cons_succ]; exact rfl) (by kernel_rfl) (by kernel_rfl) ?_
              intro K hK
              refine wpCallU (d := some 68) (f := 27) (R := fun x w8 => x = .int .i64 1 ∧ w8 = wd) rfl rfl (args := #[.int .i64 0]) (by simp only [List.map_toArray, List.map_cons, List.map_nil]; rfl) (fun _ => rfl) ((HOTH.out wd).mono (fun e w8 ⟨h1, h2⟩ => ⟨_, h1, rfl, h2⟩)) ?_
              rintro x8 w8 ⟨rfl, hw8⟩
              rw [hw8]
              refine hK _ _ st0 ?_
              simp only [Act.put, List.setIfInBounds_toArray, List.set_cons_zero, List.set_cons_succ]
              clear hK K hw8 w8
              refine Go.Pin.takeQ 10 (by simp only [List.getElem?_toArray, List.getElem?_cons_zero, List.getElem?_cons_succ]; exact rfl) (by kernel_rfl) (by kernel_rfl) (by kernel_rfl) (by rfl) (fun _ _ d _ _ h => by cases d <;> exact h) (st0) (hSq).out (by kernel_rfl) ?_
              intro Kq hKq
              go_big_quiet_op
              go_big_quiet_on
              refine Go.Pin.takeQ 11 (by simp only [List.getElem?_toArray, List.getElem?_cons_zero, List.getElem?_cons_succ]; exact rfl) (by kernel_rfl) (by kernel_rfl) (by kernel_rfl) (by rfl) (fun _ _ d _ _ h => by cases d <;> exact h) (st0) (hSq).out (by kernel_rfl) ?_
              intro Kq hKq
              go_big_quiet_op
              go_big_quiet_on
              refine Go.Pin.readyQ 12 (by simp only [List.getElem?_toArray, List.getElem?_cons_zero, List.getElem?_cons_succ]; exact rfl) (by kernel_rfl) (by kernel_rfl) ?_
              intro K hK
              refine wpCallU (d := some 71) (f := 26) (R := fun x w8 => x = .int .i64 D0 ∧ w8 = wd) rfl rfl (args := #[.int .u8 (F : Int), .int .i64 0, .int .i64 y]) (by simp only [List.map_toArray, List.map_cons, List.map_nil]; rfl) (fun _ => rfl) ((HDST.out wd).mono (fun e w8 ⟨h1, h2⟩ => ⟨_, h1, rfl, h2⟩)) ?_
              rintro x8 w8 ⟨rfl, hw8⟩
              rw [hw8]
              refine hK _ _ st0 ?_
              simp only [Act.put, List.setIfInBounds_toArray, List.set_cons_zero, List.set_cons_succ]
              clear hK K hw8 w8
              refine Go.Pin.takeQ 13 (by simp only [List.getElem?_toArray, List.getElem?_cons_zero, List.getElem?_cons_succ]; exact rfl) (by kernel_rfl) (by kernel_rfl) (by kernel_rfl) (by rfl) (fun _ _ d _ _ h => by cases d <;> exact h) (st0) (hSq).out (by kernel_rfl) ?_
              intro Kq hKq
              go_big_quiet_op
              go_big_quiet_on
              refine Go.Pin.takeQ 14 (by simp only [List.getElem?_toArray, List.getElem?_cons_zero, List.getElem?_cons_succ]; exact rfl) (by kernel_rfl) (by kernel_rfl) (by kernel_rfl) (by rfl) (fun _ _ d _ _ h => by cases d <;> exact h) (st0) (hSq).out (by kernel_rfl) ?_
              intro Kq hKq
              go_big_quiet_op
              go_big_quiet_on
              refine Go.Pin.readyQ 15 (by simp only [List.getElem?_toArray, List.getElem?_cons_zero, List.getElem?_cons_succ]; exact rfl) (by kernel_rfl) (by kernel_rfl) ?_
              intro K hK
              refine wp_store_mid 48 (.tmp 73) (.tmp 72) rfl (s + 4) (i * 3) #[.int .i64 0, .int .i64 S0, .int .i64 D0] rfl rfl HTH.out (by kernel_rfl) (by simp [Value.oneCell']) (hK _ _ (st0.grade _ _ _ _) ?_)
              simp only [Act.put, List.setIfInBounds_toArray, List.set_cons_zero, List.set_cons_succ]
              clear hK K
              refine wpAnyH_done (by kernel_rfl) ?_ _
              have HL9 : Hid (LvB q s n w nm v0 v1 (.slice al n cl) S0 y f1 (oneWay p) (wd.setCells (s + 4) (i * 3) [.int .i64 0, .int .i64 S0, .int .i64 D0])) := st0.grade _ _ _ _
              obtain ⟨W9, hW9⟩ : ∃ W9, wd.setCells (s + 4) (i * 3) [.int .i64 0, .int .i64 S0, .int .i64 D0] = W9 := ⟨_, rfl⟩
              rw [hW9] at HL9 HSN
              simp only [hW9]
              clear hW9 st0 y0 y1 hRq hSq hNq
              go_wp2
              refine ⟨⟨i + 1, HI.out.1, congrArg (Value.int .i64) (wrapS HI.out.1 (by have := HB.out; omega)), congrArg (fun z : Nat => Value.int .u8 (z : Int)) HI.out.2.2.2.2.2.symm, ?_, ?_⟩, measS HI.out.1 (by have := HB.out; omega)⟩
              · rw [HI.out.2.2.1, HI.out.2.2.2.1, HI.out.2.2.2.2.1]
                exact HL9.out
              · rw [List.range_succ, List.map_append, List.map_cons, List.map_nil, HI.out.2.1]
                exact HSN.out
            · rw [show (1 : Int) - 1 = 0 by decide, hx0] at HDST
              have CT := turn1_any (s + 2) 1 (oneWay p) wr (by decide) HLR.out.tn HLR.out.al
              go_upto_region 17 with (first
                | (go_at_call 45; refine Calls.mono CT ?_; clear CT; rintro e w5 ⟨rfl, hw5⟩; have HL5 : Hid (LvB q s n w nm v0 v1 (.slice al n cl) x y f1 (oneWay p) w5) := HTU.out w5 hw5; have HG5 : Hid (LvG (s + 4) N0 ((List.range i).map (gd p)) w5) := HTG.out w5 hw5; have s0 := HL5.out.s0; have s1 := HL5.out.s1; have fz0 := HL5.out.fz 0; have fz1 := HL5.out.fz 1; have CS := HSRC.out w5; clear hw5)
                | (go_at_call 25; refine Calls.mono CS ?_; clear CS; rintro e w6 ⟨rfl, hw6⟩; have hw7 := hw6.symm; subst hw7))
              have HL7 : Hid (LvB q s n w nm v0 v1 (.slice al n cl) x S0 f1 (oneWay p) (w5.setCell ⟨s, 1, none⟩ (.int .i64 S0))) := (HL5.out.shown S0).2
              have HG7 : Hid (LvG (s + 4) N0 ((List.range i).map (gd p)) (w5.setCell ⟨s, 1, none⟩ (.int .i64 S0))) := HG5.out.set (heap_setCell_other _ _ _ _ (by show s + 4 ≠ s; omega))
              obtain ⟨W7, hW7⟩ : ∃ W7, w5.setCell ⟨s, 1, none⟩ (.int .i64 S0) = W7 := ⟨_, rfl⟩
              rw [hW7] at HL7 HG7
              simp only [hW7]
              have hln : ((List.range i).map (gd p)).length = i := by simp
              have hth := HG7.out.drew.there (by rw [hln]; exact HI.out.1)
              have hsn := HG7.out.drew.snoc (by rw [hln]; exact HI.out.1) (gd p i)
              rw [hln] at hth hsn
              rw [HI.out.2.1] at hsn
              have HTH : Hid (W7.drew.there (s + 4) (i * 3) 3) := hth
              have HSN : Hid (LvG (s + 4) N0 ((List.range i).map (gd p) ++ [(1, S0, D0)]) (W7.drew.setCells (s + 4) (i * 3) [.int .i64 1, .int .i64 S0, .int .i64 D0])) := hsn
              have st0 : LvB q s n w nm v0 v1 (.slice al n cl) x S0 f1 (oneWay p) W7.drew := HL7.out.drew
              clear hW7 s0 s1 fz0 fz1 HL5 HG5 HTU HTG HSRC hln hth hsn
              refine Go.Pin.wp_region_hcls (fun Y => LvB q s n w nm v0 v1 (.slice al n cl) x S0 f1 (oneWay p) Y) 16 (by rfl) (by kernel_rfl) st0 ?_
              intro Sq fq hNq hRq hSq
              have y0 := fun x => (hRq x).s0
              have y1 := fun x => (hRq x).s1
              obtain ⟨wd, hwd⟩ : ∃ wd, W7.drew = wd := ⟨_, rfl⟩
              rw [hwd] at HTH HSN st0 ⊢
              clear hwd
              refine Go.Pin.takeQ 0 (by simp only [List.getElem?_toArray, List.getElem?_cons_zero, List.getElem?_cons_succ]; exact rfl) (by kernel_rfl) (by kernel_rfl) (by kernel_rfl) (by rfl) (fun _ _ d _ _ h => by cases d <;> exact h) (st0) (hSq).out (by kernel_rfl) ?_
              intro Kq hKq
              go_big_quiet_op
              go_big_quiet_on
              refine Go.Pin.takeQ 1 (by simp only [List.getElem?_toArray, List.getElem?_cons_zero, List.getElem?_cons_succ]; exact rfl) (by kernel_rfl) (by kernel_rfl) (by kernel_rfl) (by rfl) (fun _ _ d _ _ h => by cases d <;> exact h) (st0) (hSq).out (by kernel_rfl) ?_
              intro Kq hKq
              go_big_quiet_op
              go_big_quiet_on
              refine Go.Pin.takeQ 2 (by simp only [List.getElem?_toArray, List.getElem?_cons_zero, List.getElem?_cons_succ]; exact rfl) (by kernel_rfl) (by kernel_rfl) (by kernel_rfl) (by rfl) (fun _ _ d _ _ h => by cases d <;> exact h) (st0) (hSq).out (by kernel_rfl) ?_
              intro Kq hKq
              go_big_quiet_op
              go_big_quiet_on
              refine Go.Pin.takeQ 3 (by simp only [List.getElem?_toArray, List.getElem?_cons_zero, List.getElem?_cons_succ]; exact rfl) (by kernel_rfl) (by kernel_rfl) (by kernel_rfl) (by rfl) (fun _ _ d _ _ h => by cases d <;> exact h) (st0) (hSq).out (by kernel_rfl) ?_
              intro Kq hKq
              go_big_quiet_op
              go_big_quiet_on
              refine Go.Pin.takeQ 4 (by simp only [List.getElem?_toArray, List.getElem?_cons_zero, List.getElem?_cons_succ]; exact rfl) (by kernel_rfl) (by kernel_rfl) (by kernel_rfl) (by rfl) (fun _ _ d _ _ h => by cases d <;> exact h) (st0) (hSq).out (by kernel_rfl) ?_
              intro Kq hKq
              go_big_quiet_op
              go_big_quiet_on
              refine Go.Pin.takeQ 5 (by simp only [List.getElem?_toArray, List.getElem?_cons_zero, List.getElem?_cons_succ]; exact rfl) (by kernel_rfl) (by kernel_rfl) (by kernel_rfl) (by rfl) (fun _ _ d _ _ h => by cases d <;> exact h) (st0) (hSq).out (by kernel_rfl) ?_
              intro Kq hKq
              go_big_quiet_op
              go_big_quiet_on
              refine Go.Pin.takeQ 6 (by simp only [List.getElem?_toArray, List.getElem?_cons_zero, List.getElem?_cons_succ]; exact rfl) (by kernel_rfl) (by kernel_rfl) (by kernel_rfl) (by rfl) (fun _ _ d _ _ h => by cases d <;> exact h) (st0) (hSq).out (by kernel_rfl) ?_
              intro Kq hKq
              go_big_quiet_op
              go_big_quiet_on
              refine Go.Pin.takeQ 7 (by simp only [List.getElem?_toArray, List.getElem?_cons_zero, List.getElem?_cons_succ]; exact rfl) (by kernel_rfl) (by kernel_rfl) (by kernel_rfl) (by rfl) (fun _ _ d _ _ h => by cases d <;> exact h) (st0) (hSq).out (by kernel_rfl) ?_
              intro Kq hKq
              go_big_quiet_op
              go_big_quiet_on
              refine Go.Pin.takeQ 8 (by simp only [List.getElem?_toArray, List.getElem?_cons_zero, List.getElem?_cons_succ]; exact rfl) (by kernel_rfl) (by kernel_rfl) (by kernel_rfl) (by rfl) (fun _ _ d _ _ h => by cases d <;> exact h) (st0) (hSq).out (by kernel_rfl) ?_
              intro Kq hKq
              go_big_quiet_op
              go_big_quiet_on
              refine Go.Pin.readyQ 9 (by simp only [List.getElem?_toArray, List.getElem?_cons_zero, List.getElem?_cons_succ]; exact rfl) (by kernel_rfl) (by kernel_rfl) ?_
              intro K hK
              refine wpCallU (d := some 68) (f := 27) (R := fun x w8 => x = .int .i64 0 ∧ w8 = wd) rfl rfl (args := #[.int .i64 1]) (by simp only [List.map_toArray, List.map_cons, List.map_nil]; rfl) (fun _ => rfl) ((HOTH.out wd).mono (fun e w8 ⟨h1, h2⟩ => ⟨_, h1, rfl, h2⟩)) ?_
              rintro x8 w8 ⟨rfl, hw8⟩
              rw [hw8]
              refine hK _ _ st0 ?_
              simp only [Act.put, List.setIfInBounds_toArray, List.set_cons_zero, List.set_cons_succ]
              clear hK K hw8 w8
              refine Go.Pin.takeQ 10 (by simp only [List.getElem?_toArray, List.getElem?_cons_zero, List.getElem?_cons_succ]; exact rfl) (by kernel_rfl) (by kernel_rfl) (by kernel_rfl) (by rfl) (fun _ _ d _ _ h => by cases d <;> exact h) (st0) (hSq).out (by kernel_rfl) ?_
              intro Kq hKq
              go_big_quiet_op
              go_big_quiet_on
              refine Go.Pin.takeQ 11 (by simp only [List.getElem?_toArray, List.getElem?_cons_zero, List.getElem?_cons_succ]; exact rfl) (by kernel_rfl) (by kernel_rfl) (by kernel_rfl) (by rfl) (fun _ _ d _ _ h => by cases d <;> exact h) (st0) (hSq).out (by kernel_rfl) ?_
              intro Kq hKq
              go_big_quiet_op
              go_big_quiet_on
              refine Go.Pin.readyQ 12 (by simp only [List.getElem?_toArray, List.getElem?_cons_zero, List.getElem?_cons_succ]; exact rfl) (by kernel_rfl) (by kernel_rfl) ?_
              intro K hK
              refine wpCallU (d := some 71) (f := 26) (R := fun x w8 => x = .int .i64 D0 ∧ w8 = wd) rfl rfl (args := #[.int .u8 (F : Int), .int .i64 1, .int .i64 x]) (by simp only [List.map_toArray, List.map_cons, List.map_nil]; rfl) (fun _ => rfl) ((HDST.out wd).mono (fun e w8 ⟨h1, h2⟩ => ⟨_, h1, rfl, h2⟩)) ?_
              rintro x8 w8 ⟨rfl, hw8⟩
              rw [hw8]
              refine hK _ _ st0 ?_
              simp only [Act.put, List.setIfInBounds_toArray, List.set_cons_zero, List.set_cons_succ]
              clear hK K hw8 w8
              refine Go.Pin.takeQ 13 (by simp only [List.getElem?_toArray, List.getElem?_cons_zero, List.getElem?_cons_succ]; exact rfl) (by kernel_rfl) (by kernel_rfl) (by kernel_rfl) (by rfl) (fun _ _ d _ _ h => by cases d <;> exact h) (st0) (hSq).out (by kernel_rfl) ?_
              intro Kq hKq
              go_big_quiet_op
              go_big_quiet_on
              refine Go.Pin.takeQ 14 (by simp only [List.getElem?_toArray, List.getElem?_cons_zero, List.getElem?_cons_succ]; exact rfl) (by kernel_rfl) (by kernel_rfl) (by kernel_rfl) (by rfl) (fun _ _ d _ _ h => by cases d <;> exact h) (st0) (hSq).out (by kernel_rfl) ?_
              intro Kq hKq
              go_big_quiet_op
              go_big_quiet_on
              refine Go.Pin.readyQ 15 (by simp only [List.getElem?_toArray, List.getElem?_cons_zero, List.getElem?_cons_succ]; exact rfl) (by kernel_rfl) (by kernel_rfl) ?_
              intro K hK
              refine wp_store_mid 48 (.tmp 73) (.tmp 72) rfl (s + 4) (i * 3) #[.int .i64 1, .int .i64 S0, .int .i64 D0] rfl rfl HTH.out (by kernel_rfl) (by simp [Value.oneCell']) (hK _ _ (st0.grade _ _ _ _) ?_)
              simp only [Act.put, List.setIfInBounds_toArray, List.set_cons_zero, List.set_cons_succ]
              clear hK K
              refine wpAnyH_done (by kernel_rfl) ?_ _
              have HL9 : Hid (LvB q s n w nm v0 v1 (.slice al n cl) x S0 f1 (oneWay p) (wd.setCells (s + 4) (i * 3) [.int .i64 1, .int .i64 S0, .int .i64 D0])) := st0.grade _ _ _ _
              obtain ⟨W9, hW9⟩ : ∃ W9, wd.setCells (s + 4) (i * 3) [.int .i64 1, .int .i64 S0, .int .i64 D0] = W9 := ⟨_, rfl⟩
              rw [hW9] at HL9 HSN
              simp only [hW9]
              clear hW9 st0 y0 y1 hRq hSq hNq
              go_wp2
              refine ⟨⟨i + 1, HI.out.1, congrArg (Value.int .i64) (wrapS HI.out.1 (by have := HB.out; omega)), congrArg (fun z : Nat => Value.int .u8 (z : Int)) HI.out.2.2.2.2.2.symm, ?_, ?_⟩, measS HI.out.1 (by have := HB.out; omega)⟩
              · rw [HI.out.2.2.1, HI.out.2.2.2.1, HI.out.2.2.2.2.1]
                exact HL9.out
              · rw [List.range_succ, List.map_append, List.map_cons, List.map_nil, HI.out.2.1]
                exact HSN.out
        · obtain rfl : i = N0 := by omega
          have b5 : ¬ (i : Int) < (i : Int) := by omega
          clear hlb hlg
          go_wp2
          go_ret2
          rw [HV.out, HL.out]
          refine ⟨_, rfl, ?_, HLR.out.pb.old, fun _ => ⟨s + 4, by simp, by have := HS.out; omega, by simpa using HGR.out⟩⟩
          have hln : ((List.range i).map (gd p)).length = i := by simp
          rw [hln]
          exact HGR.out.own hln (by have := HS.out; omega) (by have := HB.out; unfold maxLen; omega)
  · have hv : lvE p more = chk p := by simp [lvE, hz]
    have HL : Hid (lvL p more = []) := by show lvL p more = []; simp [lvL, hv, hz]
    have HV : Hid (lvE p more = chk p) := hv
    obtain ⟨c, hc⟩ : ∃ c, chk p = c := ⟨_, rfl⟩
    rw [hc] at CK0 hz
    have HC : Hid (chk p = c) := hc
    have e0 : EV ea c = .iface 173 (.pointer (some (ea c))) := by unfold EV; rw [if_neg hz]
    rw [e0] at CK0
    have HE0 : Hid (EV ea c = .iface 173 (.pointer (some (ea c)))) := e0
    clear hv hc e0
    go_enter Tryd.func11, Tryd.ntmps11
    go_wp2_with (go_at_call 17; refine Calls.mono CK0 ?_; rintro e w1 ⟨rfl, hw⟩; have HW1 : Hid (PB q w nm v0 v1 (.slice al n cl) w1) := HP.out.below hw; clear hw)
    go_ret2
    rw [HV.out, HL.out, HC.out, HE0.out]
    exact ⟨_, rfl, own_nil _ _, HW1.out.old, fun h => absurd h hz⟩
theorem plevels_any {ea : Int → Addr} : LevC ea := fun v p W more hE hR h1 h2 => (plevels_own v p W more hE hR h1 h2).mono fun e w' ⟨u, he, ho, hb, _⟩ => ⟨u, he, ho, hb⟩
end Go.Proofs.YtjhleocpipmklaaDoor
