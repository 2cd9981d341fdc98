import Derived.OwnWalk
import Derived.Test.YtjhleocpipmklaaDoorMjaj
import Derived.Test.YtjhleocpipmklaaDoorMjag
namespace Go.Proofs.YtjhleocpipmklaaDoor
set_option linter.unusedSimpArgs false
set_option linter.unusedVariables false
open Go.ChangeShapes Go.WideShapes Go.ChangeAt Go.RowKit Go.Pin Go.Pat Go.Deep
theorem src_has (p : Pt) (k : Nat) : h3 p k (stc (sender p k)) 6 (stc (sender p k)) = decide (0 < src p k) ∧ h3 p k (stc (sender p k)) (stc (sender p k)) (stc (sender p k)) = (src p k == 2) := by
  rw [h3_two, h3_one]
  unfold src
  rcases dn p k (stc (sender p k)) with _ | _ <;> rcases dn p k 6 with _ | _ <;> simp
theorem dst_has (p : Pt) (k : Nat) : (decide (2 ≤ dst p k) = dn p k (stc (1 - sender p k))) ∧ (decide (3 ≤ dst p k) = (dn p k 3 && dn p k (stc (1 - sender p k)))) ∧ ((dst p k == 1) = (dn p k 3 && !dn p k (stc (1 - sender p k)))) := by
  have hb := bst_in p (sender p k) k
  unfold dst
  rcases dn p k (stc (1 - sender p k)) with _ | _ <;> rcases dn p k 3 with _ | _ <;> simp <;> omega
theorem lvE_zero {p : Pt} {more : Int} (h : lvE p more = 0) : chk p = 0 ∧ ∃ mo : Nat, more = mo ∧ mo ≤ 64 ∧ lvL p more = (List.range (p.ln.length + mo)).map (gd p) := by
  have hc : chk p = 0 := by
    unfold lvE at h
    by_cases e : chk p = 0
    · exact e
    · simp [e] at h
  have hm : ¬ (more < 0 ∨ 64 < more) := by
    intro hm
    simp [lvE, hc, hm] at h
  refine ⟨hc, more.toNat, by omega, by omega, ?_⟩
  unfold lvL
  rw [if_pos h]
theorem chk_lines {p : Pt} (h : chk p = 0) : p.ln.length ≠ 0 := by
  intro e
  have : p.ln = [] := List.length_eq_zero_iff.1 e
  simp [chk, shaped, this] at h
set_option maxRecDepth 100000 in
set_option maxHeartbeats 8000000 in
theorem needs_walk {ea : Int → Addr} (hL : LevC ea) (hK : FindC ea ⟨#[75, 75]⟩ pKK) (hN : FindC ea ⟨#[78, 88, 49]⟩ pNX1) (v : Value) (p : Pt) (W : World) (hE : Errs ea W) (hR : RdP W v p) (more : Int) (hm1 : -9223372036854775808 ≤ more) (hm2 : more < 9223372036854775808) :
    Calls Tryd.prog 5 #[v, .int .i64 more] W fun e w' => e = .returned (.bool true) ∧ Below W.heap.size W w' := by
  have hrd := hR
  have HKN : Hid (∀ W, Errs ea W → _) := known_any hL hK hN
  obtain ⟨v0, v1, vl, rfl, h0, h1, hl⟩ := hR
  obtain ⟨a0, p0, rfl, -, -, -⟩ := id h0
  obtain ⟨a1, p1, rfl, -, -, -⟩ := id h1
  obtain ⟨al, cl, rfl, -, -, -⟩ := id hl
  have hst := pb_start W p.nm (.slice a0 p.b0.length p0) (.slice a1 p.b1.length p1) (.slice al p.ln.length cl)
  obtain ⟨q, hq⟩ : ∃ q, W.heap.size = q := ⟨_, rfl⟩
  obtain ⟨nm, hnm⟩ : ∃ nm, p.nm = nm := ⟨_, rfl⟩
  obtain ⟨x0, hx0⟩ : ∃ x0, Value.slice a0 p.b0.length p0 = x0 := ⟨_, rfl⟩
  obtain ⟨x1, hx1⟩ : ∃ x1, Value.slice a1 p.b1.length p1 = x1 := ⟨_, rfl⟩
  obtain ⟨xl, hxl⟩ : ∃ xl, Value.slice al p.ln.length cl = xl := ⟨_, rfl⟩
  simp only [hq, hnm, hx0, hx1, hxl] at hst hrd ⊢
  obtain ⟨W1, hW1⟩ : ∃ W1, W.alloc (.cells #[.string nm, x0, x1, xl] 26) = W1 := ⟨_, rfl⟩
  rw [hW1] at hst
  have HP : Hid (PB q W nm x0 x1 xl W1) := hst
  have HRD : Hid (∀ Y, Below q W Y → RdP Y (.agg #[.string nm, x0, x1, xl]) p) := fun Y hY => hrd.below (by rw [hq]; exact hY)
  have HER : Hid (∀ Y, Below q W Y → Errs ea Y) := fun Y hY => hE.below (by rw [hq]; exact hY)
  have HLC : Hid (LevC ea) := hL
  have HM : Hid (-9223372036854775808 ≤ more ∧ more < 9223372036854775808) := ⟨hm1, hm2⟩
  have c0 := hst.c0
  have c1 := hst.c1
  have c2 := hst.c2
  have c3 := hst.c3
  have CLo := long_any _ p W1 (HRD.out W1 hst.old)
  clear hst hrd hE hL hK hN h0 h1 hl hm1 hm2 hx0 hx1 hxl
  rcases e1 : lng p with _ | _
  · rw [e1] at CLo
    go_enter Tryd.func5, Tryd.ntmps5
    go_upto_region 3 with (go_at_call 9; refine Calls.mono CLo ?_; rintro e w1 ⟨rfl, hb⟩; have HP1 : Hid (PB q W nm x0 x1 xl w1) := HP.out.below hb; clear hb c0 c1 c2 c3)
    have c0 := HP1.out.c0
    have c1 := HP1.out.c1
    have c2 := HP1.out.c2
    have c3 := HP1.out.c3
    have CLv := HLC.out _ p w1 more (HER.out _ HP1.out.old) (HRD.out _ HP1.out.old) HM.out.1 HM.out.2
    clear CLo
    by_cases hz : lvE p more = 0
    · rw [hz] at CLv
      simp only [EV, if_true] at CLv
      obtain ⟨hc, mo, rfl, hmo, hlv⟩ := lvE_zero hz
      obtain ⟨hv, h24⟩ := chk_valid hc
      have hne := chk_lines hc
      rw [hlv] at CLv
      simp only [List.length_map, List.length_range] at CLv
      obtain ⟨n, hn⟩ : ∃ n, p.ln.length + mo = n := ⟨_, rfl⟩
      rw [hn] at CLv
      have HN : Hid (n ≤ 88) := by show n ≤ 88; omega
      have HV : Hid ((∀ l ∈ p.ln, l.1 = 0 ∨ l.1 = 1) ∧ p.ln.length ≠ 0) := ⟨hv, hne⟩
      clear hz hc hlv hv h24 hne hmo hn
      go_upto_region 6 with (go_at_call 11; refine Calls.mono CLv ?_; rintro e w2 ⟨u, rfl, ho, hb⟩; have HP2 : Hid (PB q W nm x0 x1 xl w2) := HP1.out.below hb; have HO : Hid _ := ho; clear hb ho c0 c1 c2 c3)
      obtain ⟨a, cap, rfl⟩ := own_slice HO.out
      clear CLv
      go_wp2
      go_loopw [7] (fun v7 wr => ∃ i : Nat, i ≤ n ∧ v7 = .int .i64 i ∧ PB q W nm x0 x1 xl wr ∧ Below w2.heap.size w2 wr) (fun v _ => n - (intOf v).toNat)
      case atStart => exact ⟨0, Nat.zero_le _, rfl, HP2.out, Below.refl _ _⟩
      case round =>
        obtain ⟨i, hi, rfl, hp, hb⟩ := hrel
        by_cases hlt : i < n
        · have b1 : (i : Int) < (n : Int) := by omega
          obtain ⟨-, g, rfl, -, hc⟩ := own_at HO.out hlt
          have hgi : ((List.range n).map (gd p)).getD i (0, 0, 0) = gd p i := by simp [List.getD, hlt]
          rw [hgi] at hc
          simp only [gd] at hc
          have HC : Hid _ := hc
          have HI : Hid (i < n ∧ i ≤ 1000) := ⟨hlt, by have := HN.out; omega⟩
          have HPR : Hid (PB q W nm x0 x1 xl wr) := hp
          have HBR : Hid (Below w2.heap.size w2 wr) := hb
          have CF := from_any _ p wr (HRD.out wr hp.old) HV.out.1 HV.out.2 i HI.out.2
          have c0 := hp.c0
          have c1 := hp.c1
          have c2 := hp.c2
          have c3 := hp.c3
          have hsi := sender_in p HV.out.1 i
          have hsh := src_has p i
          have hdh := dst_has p i
          have hin := src_in p i
          obtain ⟨f, hf⟩ : ∃ f, sender p i = f := ⟨_, rfl⟩
          obtain ⟨sr, hsr⟩ : ∃ sr, src p i = sr := ⟨_, rfl⟩
          obtain ⟨ds, hds⟩ : ∃ ds, dst p i = ds := ⟨_, rfl⟩
          obtain ⟨ee, hee⟩ : ∃ ee, dn p i 3 = ee := ⟨_, rfl⟩
          obtain ⟨th, hto⟩ : ∃ th, dn p i (stc (1 - f)) = th := ⟨_, rfl⟩
          rw [hf] at CF hsi hsh hdh
          rw [hsr] at hsh
          rw [hds, hee, hto] at hdh
          rw [hf, hsr, hds] at HC
          have HSH : Hid _ := hsh
          have HDH : Hid _ := hdh
          have HH3 : Hid (∀ Y, Below q W Y → ∀ ta tb tc, Calls Tryd.prog 19 #[.agg #[.string nm, x0, x1, xl], .int .i64 (i : Int), .int .i64 ta, .int .i64 tb, .int .i64 tc] Y fun e w' => e = .returned (.bool (h3 p i ta tb tc)) ∧ Below Y.heap.size Y w') := fun Y hY ta tb tc => has_any3 _ p Y (HRD.out Y hY) i HI.out.2 ta tb tc
          have HEE : Hid (h3 p i 3 3 3 = ee) := by show h3 p i 3 3 3 = ee; rw [h3_one]; exact hee
          have HTO : Hid (h3 p i (stc (1 - f)) (stc (1 - f)) (stc (1 - f)) = th) := by show h3 p i _ _ _ = th; rw [h3_one]; exact hto
          have HSF : Hid (f = 0 ∨ f = 1) := hsi
          clear hp hb hc hgi hsh hdh hf hsr hds hee hto hi hlt hsi hin
          rcases HSF.out with rfl | rfl
          · have hs1 : h3 p i 5 6 5 = decide (0 < sr) := by simpa [stc] using HSH.out.1
            have hs2 : h3 p i 5 5 5 = (sr == 2) := by simpa [stc] using HSH.out.2
            have ht1 : h3 p i 4 4 4 = th := by simpa [stc] using HTO.out
            have HQ0 : Hid (∀ Y, PB q W nm x0 x1 xl Y ∧ Below w2.heap.size w2 Y → Calls Tryd.prog 19 #[.agg #[.string nm, x0, x1, xl], .int .i64 (i : Int), .int .i64 5, .int .i64 6, .int .i64 5] Y fun e w' => e = .returned (.bool (decide (0 < sr))) ∧ PB q W nm x0 x1 xl w' ∧ Below w2.heap.size w2 w') := fun Y hY => by
              have h := HH3.out Y hY.1.old 5 6 5
              rw [hs1] at h
              exact h.mono (fun e w' he => ⟨he.1, hY.1.below he.2, hY.2.trans (he.2.mono hY.2.size)⟩)
            have HQ1 : Hid (∀ Y, PB q W nm x0 x1 xl Y ∧ Below w2.heap.size w2 Y → Calls Tryd.prog 19 #[.agg #[.string nm, x0, x1, xl], .int .i64 (i : Int), .int .i64 5, .int .i64 5, .int .i64 5] Y fun e w' => e = .returned (.bool (sr == 2)) ∧ PB q W nm x0 x1 xl w' ∧ Below w2.heap.size w2 w') := fun Y hY => by
              have h := HH3.out Y hY.1.old 5 5 5
              rw [hs2] at h
              exact h.mono (fun e w' he => ⟨he.1, hY.1.below he.2, hY.2.trans (he.2.mono hY.2.size)⟩)
            have HTH : Hid (h3 p i 4 4 4 = th) := ht1
            clear hs1 hs2 ht1 HSH HTO
            go_upto_region 14 with (go_at_call 18; refine Calls.mono CF ?_; rintro e w3 ⟨rfl, hb⟩; have HP3 : Hid (PB q W nm x0 x1 xl w3) := HPR.out.below hb; have HB3 : Hid (Below w2.heap.size w2 w3) := HBR.out.trans (hb.mono HBR.out.size); clear hb c0 c1 c2 c3 CF)
            refine wp_as (c' := rgGn14) (by kernel_rfl) ?_
            refine Gn14F (q := q) (g := g) (i := i) (n := n) (cap := cap) (w := W) (nm := nm) (v0 := x0) (v1 := x1) (vl := xl) (sr := sr) (mn := 5) (R := fun Y => PB q W nm x0 x1 xl Y ∧ Below w2.heap.size w2 Y) HI.out.1 ⟨⟨drew_below HP3.out.old, HP3.out.lt, HP3.out.row⟩, drew_below HB3.out⟩ (fun Y hY => ⟨hY.1, (HC.out Y hY.2).2.1⟩) HQ0 HQ1 (fun _ _ d _ _ h => by cases d <;> exact h) ?_
            intro Y hY
            have HY : Hid (PB q W nm x0 x1 xl Y ∧ Below w2.heap.size w2 Y) := hY
            have c0 := hY.1.c0
            have c1 := hY.1.c1
            have c2 := hY.1.c2
            have c3 := hY.1.c3
            have CE := HH3.out Y hY.1.old 3 3 3
            rw [HEE.out] at CE
            clear hY HQ0 HQ1
            go_upto_region 17 with (go_at_call 19; refine Calls.mono CE ?_; rintro e w4 ⟨rfl, hb⟩; have HY4 : Hid (PB q W nm x0 x1 xl w4 ∧ Below w2.heap.size w2 w4) := ⟨HY.out.1.below hb, HY.out.2.trans (hb.mono HY.out.2.size)⟩; clear hb c0 c1 c2 c3 CE)
            have c0 := HY4.out.1.c0
            have c1 := HY4.out.1.c1
            have c2 := HY4.out.1.c2
            have c3 := HY4.out.1.c3
            have CT := HH3.out w4 HY4.out.1.old 4 4 4
            rw [HTH.out] at CT
            go_upto_region 18 with (go_at_call 19; refine Calls.mono CT ?_; rintro e w5 ⟨rfl, hb⟩; have HY5 : Hid (PB q W nm x0 x1 xl w5 ∧ Below w2.heap.size w2 w5) := ⟨HY4.out.1.below hb, HY4.out.2.trans (hb.mono HY4.out.2.size)⟩; clear hb c0 c1 c2 c3 CT)
            have x2 := (HC.out w5 HY5.out.2).2.2
            have hdh := HDH.out
            rcases ee with _ | _ <;> rcases th with _ | _
            all_goals
              simp only [Bool.false_and, Bool.true_and, Bool.not_false, Bool.not_true, Bool.and_false, Bool.and_true, decide_eq_true_eq, decide_eq_false_iff_not] at hdh
              have g2 := hdh.1
              have g3 := hdh.2.1
              have g1 := hdh.2.2
              clear hdh
              go_wp2
              exact ⟨⟨i + 1, HI.out.1, congrArg (Value.int .i64) (wrapS HI.out.1 (by have := HN.out; omega)), HY5.out.1, HY5.out.2⟩, measS HI.out.1 (by have := HN.out; omega)⟩
          · have hs1 : h3 p i 4 6 4 = decide (0 < sr) := by simpa [stc] using HSH.out.1
            have hs2 : h3 p i 4 4 4 = (sr == 2) := by simpa [stc] using HSH.out.2
            have ht1 : h3 p i 5 5 5 = th := by simpa [stc] using HTO.out
            have HQ0 : Hid (∀ Y, PB q W nm x0 x1 xl Y ∧ Below w2.heap.size w2 Y → Calls Tryd.prog 19 #[.agg #[.string nm, x0, x1, xl], .int .i64 (i : Int), .int .i64 4, .int .i64 6, .int .i64 4] Y fun e w' => e = .returned (.bool (decide (0 < sr))) ∧ PB q W nm x0 x1 xl w' ∧ Below w2.heap.size w2 w') := fun Y hY => by
              have h := HH3.out Y hY.1.old 4 6 4
              rw [hs1] at h
              exact h.mono (fun e w' he => ⟨he.1, hY.1.below he.2, hY.2.trans (he.2.mono hY.2.size)⟩)
            have HQ1 : Hid (∀ Y, PB q W nm x0 x1 xl Y ∧ Below w2.heap.size w2 Y → Calls Tryd.prog 19 #[.agg #[.string nm, x0, x1, xl], .int .i64 (i : Int), .int .i64 4, .int .i64 4, .int .i64 4] Y fun e w' => e = .returned (.bool (sr == 2)) ∧ PB q W nm x0 x1 xl w' ∧ Below w2.heap.size w2 w') := fun Y hY => by
              have h := HH3.out Y hY.1.old 4 4 4
              rw [hs2] at h
              exact h.mono (fun e w' he => ⟨he.1, hY.1.below he.2, hY.2.trans (he.2.mono hY.2.size)⟩)
            have HTH : Hid (h3 p i 5 5 5 = th) := ht1
            clear hs1 hs2 ht1 HSH HTO
            go_upto_region 14 with (go_at_call 18; refine Calls.mono CF ?_; rintro e w3 ⟨rfl, hb⟩; have HP3 : Hid (PB q W nm x0 x1 xl w3) := HPR.out.below hb; have HB3 : Hid (Below w2.heap.size w2 w3) := HBR.out.trans (hb.mono HBR.out.size); clear hb c0 c1 c2 c3 CF)
            refine wp_as (c' := rgGn14) (by kernel_rfl) ?_
            refine Gn14F (q := q) (g := g) (i := i) (n := n) (cap := cap) (w := W) (nm := nm) (v0 := x0) (v1 := x1) (vl := xl) (sr := sr) (mn := 4) (R := fun Y => PB q W nm x0 x1 xl Y ∧ Below w2.heap.size w2 Y) HI.out.1 ⟨⟨drew_below HP3.out.old, HP3.out.lt, HP3.out.row⟩, drew_below HB3.out⟩ (fun Y hY => ⟨hY.1, (HC.out Y hY.2).2.1⟩) HQ0 HQ1 (fun _ _ d _ _ h => by cases d <;> exact h) ?_
            intro Y hY
            have HY : Hid (PB q W nm x0 x1 xl Y ∧ Below w2.heap.size w2 Y) := hY
            have c0 := hY.1.c0
            have c1 := hY.1.c1
            have c2 := hY.1.c2
            have c3 := hY.1.c3
            have CE := HH3.out Y hY.1.old 3 3 3
            rw [HEE.out] at CE
            clear hY HQ0 HQ1
            go_upto_region 17 with (go_at_call 19; refine Calls.mono CE ?_; rintro e w4 ⟨rfl, hb⟩; have HY4 : Hid (PB q W nm x0 x1 xl w4 ∧ Below w2.heap.size w2 w4) := ⟨HY.out.1.below hb, HY.out.2.trans (hb.mono HY.out.2.size)⟩; clear hb c0 c1 c2 c3 CE)
            have c0 := HY4.out.1.c0
            have c1 := HY4.out.1.c1
            have c2 := HY4.out.1.c2
            have c3 := HY4.out.1.c3
            have CT := HH3.out w4 HY4.out.1.old 5 5 5
            rw [HTH.out] at CT
            go_upto_region 18 with (go_at_call 19; refine Calls.mono CT ?_; rintro e w5 ⟨rfl, hb⟩; have HY5 : Hid (PB q W nm x0 x1 xl w5 ∧ Below w2.heap.size w2 w5) := ⟨HY4.out.1.below hb, HY4.out.2.trans (hb.mono HY4.out.2.size)⟩; clear hb c0 c1 c2 c3 CT)
            have x2 := (HC.out w5 HY5.out.2).2.2
            have hdh := HDH.out
            rcases ee with _ | _ <;> rcases th with _ | _
            all_goals
              simp only [Bool.false_and, Bool.true_and, Bool.not_false, Bool.not_true, Bool.and_false, Bool.and_true, decide_eq_true_eq, decide_eq_false_iff_not] at hdh
              have g2 := hdh.1
              have g3 := hdh.2.1
              have g1 := hdh.2.2
              clear hdh
              go_wp2
              exact ⟨⟨i + 1, HI.out.1, congrArg (Value.int .i64) (wrapS HI.out.1 (by have := HN.out; omega)), HY5.out.1, HY5.out.2⟩, measS HI.out.1 (by have := HN.out; omega)⟩
        · have b1 : ¬ (i : Int) < (n : Int) := by omega
          have CK := HKN.out wr (HER.out _ hp.old)
          have HPR : Hid (PB q W nm x0 x1 xl wr) := hp
          clear hp hb
          go_wp2_with (go_at_call 16; refine Calls.mono CK ?_; rintro e w3 ⟨rfl, hb⟩; have HP3 : Hid (PB q W nm x0 x1 xl w3) := HPR.out.below hb; clear hb)
          go_ret
          exact ⟨rfl, HP3.out.old⟩
    · have hl0 : lvL p more = [] := by unfold lvL; rw [if_neg hz]
      rw [hl0] at CLv
      simp only [EV, if_neg hz, List.length_nil] at CLv
      obtain ⟨ec, hec⟩ : ∃ ec, ea (lvE p more) = ec := ⟨_, rfl⟩
      rw [hec] at CLv
      clear hz hl0 hec
      go_upto_region 5 with (go_at_call 11; refine Calls.mono CLv ?_; rintro e w2 ⟨u, rfl, ho, hb⟩; have HP2 : Hid (PB q W nm x0 x1 xl w2) := HP1.out.below hb; obtain ⟨a, cap, rfl⟩ := own_slice ho; clear hb ho c0 c1 c2 c3)
      have CK := HKN.out w2 (HER.out _ HP2.out.old)
      clear CLv
      go_wp2_with (go_at_call 16; refine Calls.mono CK ?_; rintro e w3 ⟨rfl, hb⟩; have HP3 : Hid (PB q W nm x0 x1 xl w3) := HP2.out.below hb; clear hb)
      go_ret
      exact ⟨by simp, HP3.out.old⟩
  · rw [e1] at CLo
    go_enter Tryd.func5, Tryd.ntmps5
    go_wp2_with (go_at_call 9; refine Calls.mono CLo ?_; rintro e w1 ⟨rfl, hb⟩; have HP1 : Hid (PB q W nm x0 x1 xl w1) := HP.out.below hb; clear hb)
    go_ret
    exact ⟨rfl, HP1.out.old⟩
end Go.Proofs.YtjhleocpipmklaaDoor
namespace Go.Proofs.YtjhleocpipmklaaDoor
set_option linter.unusedSimpArgs false
set_option linter.unusedVariables false
open Go.ChangeShapes Go.WideShapes Go.ChangeAt Go.RowKit Go.Pin Go.Pat
/-- tokens, and nine marks behind them -/
def rm (C : List Int) : List Int := C ++ (List.range 9).map (fun i => 700 + ((C.length + i : Nat) : Int))
theorem rm_len (C : List Int) : (rm C).length = C.length + 9 := by simp [rm]
theorem rm_lo {C : List Int} {i : Nat} (h : i < C.length) : (rm C).getD i 0 = C.getD i 0 := by simp [rm, List.getD, List.getElem?_append, h]
theorem rm_hi {C : List Int} {i : Nat} (h : C.length ≤ i) (h2 : i < C.length + 9) : (rm C).getD i 0 = 700 + (i : Int) := by
  have e : i - C.length < 9 := by omega
  rw [rm, List.getD, List.getElem?_append_right h, List.getElem?_map, List.getElem?_range e]
  simp only [Option.map_some, Option.getD_some]
  congr 1
  omega
/-- a block of numbers -/
def RwB (g : Nat) (l : List Int) (w : World) : Prop := w.heap[g]? = some (.cells (l.map (Value.int .i64)).toArray 3)
section
variable {g : Nat} {l : List Int} {w w' : World}
theorem RwB.lt (h : RwB g l w) : g < w.heap.size := (Array.getElem?_eq_some_iff.1 h).1
theorem RwB.keep (h : RwB g l w) (ho : w'.heap[g]? = w.heap[g]?) : RwB g l w' := ho.trans h
theorem RwB.below (h : RwB g l w) (hb : Below w.heap.size w w') : RwB g l w' := h.keep (hb.block _ h.lt)
theorem RwB.cell (h : RwB g l w) {i : Nat} (hi : i < l.length) : w.cell? ⟨g, i, none⟩ = some (.int .i64 (l.getD i 0)) := by
  rw [cell_of_row _ _ _ _ _ _ h]; simp [List.getD, hi]
theorem RwB.fz (h : RwB g l w) (i : Nat) : w.frozen? ⟨g, i, none⟩ = false := frozen_of_row _ _ _ _ _ h
theorem RwB.set (h : RwB g l w) (i : Nat) (x : Int) : RwB g (l.set i x) (w.setCell ⟨g, i, none⟩ (.int .i64 x)) := by
  unfold RwB
  rw [heap_setCell_same _ _ _ _ _ _ h]
  simp [List.map_set]
theorem RwB.rd {C : List Int} (h : RwB g l w) (hC : ∀ i, i < C.length → l.getD i 0 = C.getD i 0) (hl : C.length ≤ l.length) (hm : C.length ≤ 140737488355328) {c : Nat} (hc : C.length ≤ c) : RdN w (.slice (some ⟨g, 0, none⟩) C.length c) C := by
  refine ⟨_, _, rfl, ⟨hc, fun h => nomatch h⟩, hm, .inr ⟨g, 0, rfl, fun j v hv => ?_⟩⟩
  have hj : j < C.length := by simpa using (List.getElem?_eq_some_iff.1 hv).1
  rw [Nat.zero_add, h.cell (by omega), hC j hj, ← hv]
  simp [List.getD, hj]
theorem RwB.ne (h : RwB g l w) {r : Nat} {cs : Array Value} {t : TypeId} (hr : w.heap[r]? = some (.cells cs t)) (ht : t ≠ 3) : g ≠ r := fun e => by
  unfold RwB at h
  rw [e, hr] at h
  injection h with h
  injection h with _ h
  exact ht h
end
theorem info_int9 : (Tryd.prog.info? 3).map (fun i => (i.zero, i.size, i.bytes)) = some (some (.int .i64 0), 1, 8) := by kernel_rfl
/-- room, so far -/
def rmz (C : List Int) (i : Nat) : List Int := (rm C).take i ++ List.replicate (C.length + 9 - i) 0
theorem rmz_len (C : List Int) {i : Nat} (h : i ≤ C.length + 9) : (rmz C i).length = C.length + 9 := by simp [rmz, rm_len]; omega
theorem rmz_set (C : List Int) {i : Nat} (h : i < C.length + 9) (x : Int) (hx : x = (rm C).getD i 0) (y : Int) : ((rmz C i).set i y).set i x = rmz C (i + 1) := by
  have hl := rm_len C
  have e : (rmz C i) = (rm C).take i ++ (0 :: List.replicate (C.length + 9 - (i + 1)) 0) := by
    rw [rmz, show C.length + 9 - i = C.length + 9 - (i + 1) + 1 by omega, List.replicate_succ]
  have ht : ((rm C).take i).length = i := by rw [List.length_take]; omega
  rw [List.set_set, e, List.set_append_right _ _ (by omega), ht, Nat.sub_self, List.set_cons_zero, rmz, hx, List.take_add_one, List.getElem?_eq_getElem (by omega), List.append_assoc]
  simp [List.getD, show i < (rm C).length by omega]
set_option maxRecDepth 100000 in
set_option maxHeartbeats 4000000 in
theorem room_any {W : World} {u : Value} {C : List Int} (hu : RdN W u C) (hC : C.length ≤ 200) :
    Calls Tryd.prog 22 #[u] W fun e w' => e = .returned (.slice (some ⟨W.heap.size, 0, none⟩) (C.length + 9) (C.length + 9)) ∧ RwB W.heap.size (rm C) w' ∧ Below W.heap.size W w' := by
  obtain ⟨a, cap, rfl, -, -, -⟩ := id hu
  obtain ⟨i0, hi, hz0, hz1, hz2⟩ := info_parts info_int9
  have hat := hu.at.2.2
  obtain ⟨q, hq⟩ : ∃ q, W.heap.size = q := ⟨_, rfl⟩
  obtain ⟨n, hn⟩ : ∃ n, C.length = n := ⟨_, rfl⟩
  obtain ⟨N, hN⟩ : ∃ N, n + 9 = N := ⟨_, rfl⟩
  rw [hn] at hat hC
  rw [hq] at hat
  simp only [hq, hn, hN]
  have HN : Hid (n + 9 = N ∧ n ≤ 200 ∧ C.length = n) := ⟨hN, hC, hn⟩
  have hw : wrap64 ((n : Int) + 9) = (N : Int) := by rw [IntWalk.wrap64_in _ ⟨by omega, by omega⟩]; omega
  have HAT : Hid _ := hat
  clear hu hat hN hn hC
  go_enter Tryd.func22, Tryd.ntmps22
  go_upto_region 2 with (at_make; go_loud (refine wpList_make_full _ rfl _ _ 22 rfl q 3 i0 (.int .i64 0) 1 Tryd.underlying22 hi hz0 hz1 _ _ _ _ N rfl rfl hw hw (by rw [hz2]; have := HN.out; omega) (by have := HN.out; unfold maxLen; omega) (by rw [hq]; exact Nat.le_refl _) ?_; rw [hq]; intro w1 ho1 hg1; have HB1 : Hid (Below q W w1) := (Below.refl q W).grown hg1 (by rw [hq]; exact Nat.le_refl _) (fun k hk => nomatch hk)))
  have HR1 : Hid (RwB q (rmz C 0) w1) := by
    rcases ho1.2 with ⟨e, _⟩ | ⟨g', cap', cur, e, _, hgg, _, _, hcs, htk⟩
    · cases e
    · injection e with e1 e2 e3
      injection e1 with e1
      injection e1 with e1
      subst e1 e3
      show RwB q (rmz C 0) w1
      unfold RwB
      rw [hgg]
      have hcur : cur.toList = (rmz C 0).map (Value.int .i64) := by
        have : cur.toList.take (N * 1) = cur.toList := List.take_of_length_le (by simp [hcs])
        rw [← this, htk, show (Value.int IntKind.i64 0).cells = #[.int .i64 0] from rfl, toList_madeCells_one]
        simp [rmz, HN.out.2.2, HN.out.1]
      rw [← hcur]
  clear ho1 hg1 hw
  go_upto_region 3 with (fail)
  go_loopw [4] (fun v4 wr => ∃ i : Nat, i ≤ N ∧ v4 = .int .i64 i ∧ RwB q (rmz C i) wr ∧ Below q W wr) (fun v _ => N - (intOf v).toNat)
  case atStart => exact ⟨0, Nat.zero_le _, rfl, HR1.out, HB1.out⟩
  case round =>
    obtain ⟨i, hi', rfl, hr, hb⟩ := hrel
    have HR : Hid (RwB q (rmz C i) wr) := hr
    have HB : Hid (Below q W wr) := hb
    by_cases hlt : i < N
    · have b1 : (i : Int) < (N : Int) := by omega
      have hw7 : wrap64 (700 + (i : Int)) = 700 + (i : Int) := IntWalk.wrap64_in _ ⟨by omega, by have := HN.out; omega⟩
      have hl9 : i < C.length + 9 := by have := HN.out; omega
      have t0 := hr.cell (i := i) (by rw [rmz_len C (by omega)]; exact hl9)
      have f0 := hr.fz i
      have HI : Hid (i < N ∧ N ≤ 140737488355328) := ⟨hlt, by have := HN.out; omega⟩
      by_cases hin : i < n
      · have b2 : (i : Int) < (n : Int) := by omega
        obtain ⟨b, o, rfl, hc⟩ := HAT.out i hin
        have hr7 := hr.set i (700 + (i : Int))
        have hb7 := hb.setCell (p := ⟨q, i, none⟩) (Nat.le_refl _) (.int .i64 (700 + (i : Int)))
        have c0 := hc _ hb7
        have t1 := hr7.cell (i := i) (by simp [rmz_len C (by omega : i ≤ C.length + 9)]; omega)
        have f1 := hr7.fz i
        have hr8 := hr7.set i (C.getD i 0)
        rw [rmz_set C hl9 _ (rm_lo (by have := HN.out; omega)).symm] at hr8
        have hb8 := hb7.setCell (p := ⟨q, i, none⟩) (Nat.le_refl _) (.int .i64 (C.getD i 0))
        have H8 : Hid (RwB q (rmz C (i + 1)) ((wr.setCell ⟨q, i, none⟩ (.int .i64 (700 + (i : Int)))).setCell ⟨q, i, none⟩ (.int .i64 (C.getD i 0))) ∧ Below q W ((wr.setCell ⟨q, i, none⟩ (.int .i64 (700 + (i : Int)))).setCell ⟨q, i, none⟩ (.int .i64 (C.getD i 0)))) := ⟨hr8, hb8⟩
        obtain ⟨x, hx⟩ : ∃ x, C.getD i 0 = x := ⟨_, rfl⟩
        rw [hx] at c0 H8
        clear hr hb hr7 hb7 hr8 hb8 hc hl9 hx
        go_upto_region 6 with (fail)
        obtain ⟨W7, hW7⟩ : ∃ W7, wr.setCell ⟨q, i, none⟩ (.int .i64 (700 + (i : Int))) = W7 := ⟨_, rfl⟩
        rw [hW7] at c0 t1 f1 H8
        simp only [hW7]
        clear hW7 t0 f0
        go_wp2
        exact ⟨⟨i + 1, HI.out.1, congrArg (Value.int .i64) (wrapS HI.out.1 HI.out.2), H8.out.1, H8.out.2⟩, measS HI.out.1 HI.out.2⟩
      · have b2 : ¬ (i : Int) < (n : Int) := by omega
        have hr7 := hr.set i (700 + (i : Int))
        have e7 : (rmz C i).set i (700 + (i : Int)) = rmz C (i + 1) := by
          have := rmz_set C hl9 (700 + (i : Int)) (rm_hi (by have := HN.out; omega) hl9).symm (700 + (i : Int))
          rwa [List.set_set] at this
        rw [e7] at hr7
        have H8 : Hid (RwB q (rmz C (i + 1)) (wr.setCell ⟨q, i, none⟩ (.int .i64 (700 + (i : Int)))) ∧ Below q W (wr.setCell ⟨q, i, none⟩ (.int .i64 (700 + (i : Int))))) := ⟨hr7, hb.setCell (p := ⟨q, i, none⟩) (Nat.le_refl _) _⟩
        clear hr hb hr7 hl9 e7
        go_wp2
        exact ⟨⟨i + 1, HI.out.1, congrArg (Value.int .i64) (wrapS HI.out.1 HI.out.2), H8.out.1, H8.out.2⟩, measS HI.out.1 HI.out.2⟩
    · obtain rfl : i = N := by omega
      have b1 : ¬ (i : Int) < (i : Int) := by omega
      clear hr hb
      go_wp2
      go_ret
      refine ⟨rfl, ?_, HB.out⟩
      have h := HR.out
      rw [rmz, List.take_of_length_le (by rw [rm_len]; have := HN.out; omega), show C.length + 9 - i = 0 by have := HN.out; omega] at h
      simpa using h
set_option maxRecDepth 100000 in
set_option maxHeartbeats 4000000 in
theorem stands_true {W : World} {g : Nat} {u : Value} {C : List Int} (hg : RwB g (rm C) W) (hu : RdN W u C) (hC : C.length ≤ 200) :
    Calls Tryd.prog 32 #[.slice (some ⟨g, 0, none⟩) (C.length + 9) (C.length + 9), u] W fun e w' => e = .returned (.bool true) ∧ Below W.heap.size W w' := by
  obtain ⟨a, cap, rfl, -, -, -⟩ := id hu
  have hat := hu.at.2.2
  obtain ⟨q, hq⟩ : ∃ q, W.heap.size = q := ⟨_, rfl⟩
  obtain ⟨n, hn⟩ : ∃ n, C.length = n := ⟨_, rfl⟩
  obtain ⟨N, hN⟩ : ∃ N, n + 9 = N := ⟨_, rfl⟩
  have HG : Hid (∀ Y, Below q W Y → RwB g (rm C) Y) := fun Y hY => hg.below (by rw [hq]; exact hY)
  rw [hn] at hat hC
  rw [hq] at hat
  simp only [hq, hn, hN]
  have HN : Hid (n + 9 = N ∧ n ≤ 200 ∧ C.length = n) := ⟨hN, hC, hn⟩
  have HAT : Hid _ := hat
  clear hu hat hN hn hC hg
  go_enter Tryd.func32, Tryd.ntmps32
  go_wp2
  go_loopw [5] (fun v5 wr => ∃ i : Nat, i ≤ N ∧ v5 = .int .i64 i ∧ Below q W wr) (fun v _ => N - (intOf v).toNat)
  case atStart => exact ⟨0, Nat.zero_le _, rfl, Below.refl _ _⟩
  case round =>
    obtain ⟨i, hi', rfl, hb⟩ := hrel
    have HB : Hid (Below q W wr) := hb
    by_cases hlt : i < N
    · have b1 : (i : Int) < (N : Int) := by omega
      have hw7 : wrap64 (700 + (i : Int)) = 700 + (i : Int) := IntWalk.wrap64_in _ ⟨by omega, by have := HN.out; omega⟩
      have HI : Hid (i < N ∧ N ≤ 140737488355328) := ⟨hlt, by have := HN.out; omega⟩
      have t0 := (HG.out wr hb).cell (i := i) (by rw [rm_len]; have := HN.out; omega)
      by_cases hin : i < n
      · have b2 : (i : Int) < (n : Int) := by omega
        have b3 : ¬ (n : Int) ≤ (i : Int) := by omega
        have d2 : decide ((i : Int) < (n : Int)) = true := decide_eq_true b2
        have d3 : decide ((n : Int) ≤ (i : Int)) = false := decide_eq_false b3
        have d4 : decide (n ≤ i) = false := decide_eq_false (by omega)
        obtain ⟨b, o, rfl, hc⟩ := HAT.out i hin
        have c0 := hc wr hb
        rw [rm_lo (by have := HN.out; omega)] at t0
        obtain ⟨x, hx⟩ : ∃ x, C.getD i 0 = x := ⟨_, rfl⟩
        rw [hx] at c0 t0
        have e1 : (x == x) = true := by simp
        have e2 : (x != x) = false := by simp
        clear hb hc hx
        go_wp2
        go_quiet (fail)
        go_wp2
        exact ⟨⟨i + 1, HI.out.1, congrArg (Value.int .i64) (wrapS HI.out.1 HI.out.2), drewN_below HB.out _⟩, measS HI.out.1 HI.out.2⟩
      · have b2 : ¬ (i : Int) < (n : Int) := by omega
        have b3 : (n : Int) ≤ (i : Int) := by omega
        have d2 : decide ((i : Int) < (n : Int)) = false := decide_eq_false b2
        have d3 : decide ((n : Int) ≤ (i : Int)) = true := decide_eq_true b3
        rw [rm_hi (by have := HN.out; omega) (by have := HN.out; omega)] at t0
        have e1 : ((700 + (i : Int)) == (700 + (i : Int))) = true := by simp
        clear hb
        go_wp2
        go_quiet (fail)
        go_wp2
        exact ⟨⟨i + 1, HI.out.1, congrArg (Value.int .i64) (wrapS HI.out.1 HI.out.2), drewN_below HB.out _⟩, measS HI.out.1 HI.out.2⟩
    · obtain rfl : i = N := by omega
      have b1 : ¬ (i : Int) < (i : Int) := by omega
      clear hb
      go_wp2
      go_ret
      exact ⟨rfl, HB.out⟩
end Go.Proofs.YtjhleocpipmklaaDoor
