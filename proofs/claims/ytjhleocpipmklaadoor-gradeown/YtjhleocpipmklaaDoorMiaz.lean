import Derived.Laws.StructEq
import Derived.Test.YtjhleocpipmklaaDoorMiay
import Derived.Test.YtjhleocpipmklaaDoorMiaj
namespace Go.Proofs.YtjhleocpipmklaaDoor
set_option linter.unusedSimpArgs false
set_option linter.unusedVariables false
open Go.ChangeShapes Go.WideShapes Go.ChangeAt Go.RowKit Go.Pin Go.Pat Go.Deep
theorem src_has (p : Pt) (k : Nat) : h3 p k (stc (sender p k)) 6 (stc (sender p k)) = decide (0 < src p k) ∧ h3 p k (stc (sender p k)) (stc (sender p k)) (stc (sender p k)) = (src p k == 2) := by
  rw [h3_two, h3_one]
  unfold src
  rcases dn p k (stc (sender p k)) with _ | _ <;> rcases dn p k 6 with _ | _ <;> simp
theorem dst_has (p : Pt) (k : Nat) : (decide (2 ≤ dst p k) = dn p k (stc (1 - sender p k))) ∧ (decide (3 ≤ dst p k) = (dn p k 3 && dn p k (stc (1 - sender p k)))) ∧ ((dst p k == 1) = (dn p k 3 && !dn p k (stc (1 - sender p k)))) := by
  have hb := bst_in p (sender p k) k
  unfold dst
  rcases dn p k (stc (1 - sender p k)) with _ | _ <;> rcases dn p k 3 with _ | _ <;> simp <;> omega
theorem lvE_zero {p : Pt} {more : Int} (h : lvE p more = 0) : chk p = 0 ∧ ∃ mo : Nat, more = mo ∧ mo ≤ 64 ∧ lvL p more = (List.range (p.ln.length + mo)).map (gd p) := by
  have hc : chk p = 0 := by
    unfold lvE at h
    by_cases e : chk p = 0
    · exact e
    · simp [e] at h
  have hm : ¬ (more < 0 ∨ 64 < more) := by
    intro hm
    simp [lvE, hc, hm] at h
  refine ⟨hc, more.toNat, by omega, by omega, ?_⟩
  unfold lvL
  rw [if_pos h]
theorem chk_lines {p : Pt} (h : chk p = 0) : p.ln.length ≠ 0 := by
  intro e
  have : p.ln = [] := List.length_eq_zero_iff.1 e
  simp [chk, shaped, this] at h
set_option maxRecDepth 100000 in
set_option maxHeartbeats 8000000 in
theorem needs_walk {ea : Int → Addr} (hL : LevC ea) (hK : FindC ea ⟨#[75, 75]⟩ pKK) (hN : FindC ea ⟨#[78, 88, 49]⟩ pNX1) (v : Value) (p : Pt) (W : World) (hE : Errs ea W) (hR : RdP W v p) (more : Int) (hm1 : -9223372036854775808 ≤ more) (hm2 : more < 9223372036854775808) :
    Calls Tryd.prog 5 #[v, .int .i64 more] W fun e w' => e = .returned (.bool true) ∧ Below W.heap.size W w' := by
  have hrd := hR
  have HKN : Hid (∀ W, Errs ea W → _) := known_any hL hK hN
  obtain ⟨v0, v1, vl, rfl, h0, h1, hl⟩ := hR
  obtain ⟨a0, p0, rfl, -, -, -⟩ := id h0
  obtain ⟨a1, p1, rfl, -, -, -⟩ := id h1
  obtain ⟨al, cl, rfl, -, -, -⟩ := id hl
  have hst := pb_start W p.nm (.slice a0 p.b0.length p0) (.slice a1 p.b1.length p1) (.slice al p.ln.length cl)
  obtain ⟨q, hq⟩ : ∃ q, W.heap.size = q := ⟨_, rfl⟩
  obtain ⟨nm, hnm⟩ : ∃ nm, p.nm = nm := ⟨_, rfl⟩
  obtain ⟨x0, hx0⟩ : ∃ x0, Value.slice a0 p.b0.length p0 = x0 := ⟨_, rfl⟩
  obtain ⟨x1, hx1⟩ : ∃ x1, Value.slice a1 p.b1.length p1 = x1 := ⟨_, rfl⟩
  obtain ⟨xl, hxl⟩ : ∃ xl, Value.slice al p.ln.length cl = xl := ⟨_, rfl⟩
  simp only [hq, hnm, hx0, hx1, hxl] at hst hrd ⊢
  obtain ⟨W1, hW1⟩ : ∃ W1, W.alloc (.cells #[.string nm, x0, x1, xl] 26) = W1 := ⟨_, rfl⟩
  rw [hW1] at hst
  have HP : Hid (PB q W nm x0 x1 xl W1) := hst
  have HRD : Hid (∀ Y, Below q W Y → RdP Y (.agg #[.string nm, x0, x1, xl]) p) := fun Y hY => hrd.below (by rw [hq]; exact hY)
  have HER : Hid (∀ Y, Below q W Y → Errs ea Y) := fun Y hY => hE.below (by rw [hq]; exact hY)
  have HLC : Hid (LevC ea) := hL
  have HM : Hid (-9223372036854775808 ≤ more ∧ more < 9223372036854775808) := ⟨hm1, hm2⟩
  have c0 := hst.c0
  have c1 := hst.c1
  have c2 := hst.c2
  have c3 := hst.c3
  have CLo := long_any _ p W1 (HRD.out W1 hst.old)
  clear hst hrd hE hL hK hN h0 h1 hl hm1 hm2 hx0 hx1 hxl
  rcases e1 : lng p with _ | _
  · rw [e1] at CLo
    go_enter Tryd.func5, Tryd.ntmps5
    go_upto_region 3 with (go_at_call 9; refine Calls.mono CLo ?_; rintro e w1 ⟨rfl, hb⟩; have HP1 : Hid (PB q W nm x0 x1 xl w1) := HP.out.below hb; clear hb c0 c1 c2 c3)
    have c0 := HP1.out.c0
    have c1 := HP1.out.c1
    have c2 := HP1.out.c2
    have c3 := HP1.out.c3
    have CLv := HLC.out _ p w1 more (HER.out _ HP1.out.old) (HRD.out _ HP1.out.old) HM.out.1 HM.out.2
    clear CLo
    by_cases hz : lvE p more = 0
    · rw [hz] at CLv
      simp only [EV, if_true] at CLv
      obtain ⟨hc, mo, rfl, hmo, hlv⟩ := lvE_zero hz
      obtain ⟨hv, h24⟩ := chk_valid hc
      have hne := chk_lines hc
      rw [hlv] at CLv
      simp only [List.length_map, List.length_range] at CLv
      obtain ⟨n, hn⟩ : ∃ n, p.ln.length + mo = n := ⟨_, rfl⟩
      rw [hn] at CLv
      have HN : Hid (n ≤ 88) := by show n ≤ 88; omega
      have HV : Hid ((∀ l ∈ p.ln, l.1 = 0 ∨ l.1 = 1) ∧ p.ln.length ≠ 0) := ⟨hv, hne⟩
      clear hz hc hlv hv h24 hne hmo hn
      go_upto_region 6 with (go_at_call 11; refine Calls.mono CLv ?_; rintro e w2 ⟨u, rfl, ho, hb⟩; have HP2 : Hid (PB q W nm x0 x1 xl w2) := HP1.out.below hb; have HO : Hid _ := ho; clear hb ho c0 c1 c2 c3)
      obtain ⟨a, cap, rfl⟩ := own_slice HO.out
      clear CLv
      go_wp2
      go_loopw [7] (fun v7 wr => ∃ i : Nat, i ≤ n ∧ v7 = .int .i64 i ∧ PB q W nm x0 x1 xl wr ∧ Below w2.heap.size w2 wr) (fun v _ => n - (intOf v).toNat)
      case atStart => exact ⟨0, Nat.zero_le _, rfl, HP2.out, Below.refl _ _⟩
      case round =>
        obtain ⟨i, hi, rfl, hp, hb⟩ := hrel
        by_cases hlt : i < n
        · have b1 : (i : Int) < (n : Int) := by omega
          obtain ⟨-, g, rfl, -, hc⟩ := own_at HO.out hlt
          have hgi : ((List.range n).map (gd p)).getD i (0, 0, 0) = gd p i := by simp [List.getD, hlt]
          rw [hgi] at hc
          simp only [gd] at hc
          have HC : Hid _ := hc
          have HI : Hid (i < n ∧ i ≤ 1000) := ⟨hlt, by have := HN.out; omega⟩
          have HPR : Hid (PB q W nm x0 x1 xl wr) := hp
          have HBR : Hid (Below w2.heap.size w2 wr) := hb
          have CF := from_any _ p wr (HRD.out wr hp.old) HV.out.1 HV.out.2 i HI.out.2
          have c0 := hp.c0
          have c1 := hp.c1
          have c2 := hp.c2
          have c3 := hp.c3
          have hsi := sender_in p HV.out.1 i
          have hsh := src_has p i
          have hdh := dst_has p i
          have hin := src_in p i
          obtain ⟨f, hf⟩ : ∃ f, sender p i = f := ⟨_, rfl⟩
          obtain ⟨sr, hsr⟩ : ∃ sr, src p i = sr := ⟨_, rfl⟩
          obtain ⟨ds, hds⟩ : ∃ ds, dst p i = ds := ⟨_, rfl⟩
          obtain ⟨ee, hee⟩ : ∃ ee, dn p i 3 = ee := ⟨_, rfl⟩
          obtain ⟨th, hto⟩ : ∃ th, dn p i (stc (1 - f)) = th := ⟨_, rfl⟩
          rw [hf] at CF hsi hsh hdh
          rw [hsr] at hsh
          rw [hds, hee, hto] at hdh
          rw [hf, hsr, hds] at HC
          have HSH : Hid _ := hsh
          have HDH : Hid _ := hdh
          have HH3 : Hid (∀ Y, Below q W Y → ∀ ta tb tc, Calls Tryd.prog 19 #[.agg #[.string nm, x0, x1, xl], .int .i64 (i : Int), .int .i64 ta, .int .i64 tb, .int .i64 tc] Y fun e w' => e = .returned (.bool (h3 p i ta tb tc)) ∧ Below Y.heap.size Y w') := fun Y hY ta tb tc => has_any3 _ p Y (HRD.out Y hY) i HI.out.2 ta tb tc
          have HEE : Hid (h3 p i 3 3 3 = ee) := by show h3 p i 3 3 3 = ee; rw [h3_one]; exact hee
          have HTO : Hid (h3 p i (stc (1 - f)) (stc (1 - f)) (stc (1 - f)) = th) := by show h3 p i _ _ _ = th; rw [h3_one]; exact hto
          have HSF : Hid (f = 0 ∨ f = 1) := hsi
          clear hp hb hc hgi hsh hdh hf hsr hds hee hto hi hlt hsi hin
          rcases HSF.out with rfl | rfl
          · have hs1 : h3 p i 5 6 5 = decide (0 < sr) := by simpa [stc] using HSH.out.1
            have hs2 : h3 p i 5 5 5 = (sr == 2) := by simpa [stc] using HSH.out.2
            have ht1 : h3 p i 4 4 4 = th := by simpa [stc] using HTO.out
            have HQ0 : Hid (∀ Y, PB q W nm x0 x1 xl Y ∧ Below w2.heap.size w2 Y → Calls Tryd.prog 19 #[.agg #[.string nm, x0, x1, xl], .int .i64 (i : Int), .int .i64 5, .int .i64 6, .int .i64 5] Y fun e w' => e = .returned (.bool (decide (0 < sr))) ∧ PB q W nm x0 x1 xl w' ∧ Below w2.heap.size w2 w') := fun Y hY => by
              have h := HH3.out Y hY.1.old 5 6 5
              rw [hs1] at h
              exact h.mono (fun e w' he => ⟨he.1, hY.1.below he.2, hY.2.trans (he.2.mono hY.2.size)⟩)
            have HQ1 : Hid (∀ Y, PB q W nm x0 x1 xl Y ∧ Below w2.heap.size w2 Y → Calls Tryd.prog 19 #[.agg #[.string nm, x0, x1, xl], .int .i64 (i : Int), .int .i64 5, .int .i64 5, .int .i64 5] Y fun e w' => e = .returned (.bool (sr == 2)) ∧ PB q W nm x0 x1 xl w' ∧ Below w2.heap.size w2 w') := fun Y hY => by
              have h := HH3.out Y hY.1.old 5 5 5
              rw [hs2] at h
              exact h.mono (fun e w' he => ⟨he.1, hY.1.below he.2, hY.2.trans (he.2.mono hY.2.size)⟩)
            have HTH : Hid (h3 p i 4 4 4 = th) := ht1
            clear hs1 hs2 ht1 HSH HTO
            go_upto_region 14 with (go_at_call 18; refine Calls.mono CF ?_; rintro e w3 ⟨rfl, hb⟩; have HP3 : Hid (PB q W nm x0 x1 xl w3) := HPR.out.below hb; have HB3 : Hid (Below w2.heap.size w2 w3) := HBR.out.trans (hb.mono HBR.out.size); clear hb c0 c1 c2 c3 CF)
            refine wp_as (c' := rgGn14) (by kernel_rfl) ?_
            refine Gn14F (q := q) (g := g) (i := i) (n := n) (cap := cap) (w := W) (nm := nm) (v0 := x0) (v1 := x1) (vl := xl) (sr := sr) (mn := 5) (R := fun Y => PB q W nm x0 x1 xl Y ∧ Below w2.heap.size w2 Y) HI.out.1 ⟨⟨drew_below HP3.out.old, HP3.out.lt, HP3.out.row⟩, drew_below HB3.out⟩ (fun Y hY => ⟨hY.1, (HC.out Y hY.2).2.1⟩) HQ0 HQ1 (fun _ _ d _ _ h => by cases d <;> exact h) ?_
            intro Y hY
            have HY : Hid (PB q W nm x0 x1 xl Y ∧ Below w2.heap.size w2 Y) := hY
            have c0 := hY.1.c0
            have c1 := hY.1.c1
            have c2 := hY.1.c2
            have c3 := hY.1.c3
            have CE := HH3.out Y hY.1.old 3 3 3
            rw [HEE.out] at CE
            clear hY HQ0 HQ1
            go_upto_region 17 with (go_at_call 19; refine Calls.mono CE ?_; rintro e w4 ⟨rfl, hb⟩; have HY4 : Hid (PB q W nm x0 x1 xl w4 ∧ Below w2.heap.size w2 w4) := ⟨HY.out.1.below hb, HY.out.2.trans (hb.mono HY.out.2.size)⟩; clear hb c0 c1 c2 c3 CE)
            have c0 := HY4.out.1.c0
            have c1 := HY4.out.1.c1
            have c2 := HY4.out.1.c2
            have c3 := HY4.out.1.c3
            have CT := HH3.out w4 HY4.out.1.old 4 4 4
            rw [HTH.out] at CT
            go_upto_region 18 with (go_at_call 19; refine Calls.mono CT ?_; rintro e w5 ⟨rfl, hb⟩; have HY5 : Hid (PB q W nm x0 x1 xl w5 ∧ Below w2.heap.size w2 w5) := ⟨HY4.out.1.below hb, HY4.out.2.trans (hb.mono HY4.out.2.size)⟩; clear hb c0 c1 c2 c3 CT)
            have x2 := (HC.out w5 HY5.out.2).2.2
            have hdh := HDH.out
            rcases ee with _ | _ <;> rcases th with _ | _
            all_goals
              simp only [Bool.false_and, Bool.true_and, Bool.not_false, Bool.not_true, Bool.and_false, Bool.and_true, decide_eq_true_eq, decide_eq_false_iff_not] at hdh
              have g2 := hdh.1
              have g3 := hdh.2.1
              have g1 := hdh.2.2
              clear hdh
              go_wp2
              exact ⟨⟨i + 1, HI.out.1, congrArg (Value.int .i64) (wrapS HI.out.1 (by have := HN.out; omega)), HY5.out.1, HY5.out.2⟩, measS HI.out.1 (by have := HN.out; omega)⟩
          · have hs1 : h3 p i 4 6 4 = decide (0 < sr) := by simpa [stc] using HSH.out.1
            have hs2 : h3 p i 4 4 4 = (sr == 2) := by simpa [stc] using HSH.out.2
            have ht1 : h3 p i 5 5 5 = th := by simpa [stc] using HTO.out
            have HQ0 : Hid (∀ Y, PB q W nm x0 x1 xl Y ∧ Below w2.heap.size w2 Y → Calls Tryd.prog 19 #[.agg #[.string nm, x0, x1, xl], .int .i64 (i : Int), .int .i64 4, .int .i64 6, .int .i64 4] Y fun e w' => e = .returned (.bool (decide (0 < sr))) ∧ PB q W nm x0 x1 xl w' ∧ Below w2.heap.size w2 w') := fun Y hY => by
              have h := HH3.out Y hY.1.old 4 6 4
              rw [hs1] at h
              exact h.mono (fun e w' he => ⟨he.1, hY.1.below he.2, hY.2.trans (he.2.mono hY.2.size)⟩)
            have HQ1 : Hid (∀ Y, PB q W nm x0 x1 xl Y ∧ Below w2.heap.size w2 Y → Calls Tryd.prog 19 #[.agg #[.string nm, x0, x1, xl], .int .i64 (i : Int), .int .i64 4, .int .i64 4, .int .i64 4] Y fun e w' => e = .returned (.bool (sr == 2)) ∧ PB q W nm x0 x1 xl w' ∧ Below w2.heap.size w2 w') := fun Y hY => by
              have h := HH3.out Y hY.1.old 4 4 4
              rw [hs2] at h
              exact h.mono (fun e w' he => ⟨he.1, hY.1.below he.2, hY.2.trans (he.2.mono hY.2.size)⟩)
            have HTH : Hid (h3 p i 5 5 5 = th) := ht1
            clear hs1 hs2 ht1 HSH HTO
            go_upto_region 14 with (go_at_call 18; refine Calls.mono CF ?_; rintro e w3 ⟨rfl, hb⟩; have HP3 : Hid (PB q W nm x0 x1 xl w3) := HPR.out.below hb; have HB3 : Hid (Below w2.heap.size w2 w3) := HBR.out.trans (hb.mono HBR.out.size); clear hb c0 c1 c2 c3 CF)
            refine wp_as (c' := rgGn14) (by kernel_rfl) ?_
            refine Gn14F (q := q) (g := g) (i := i) (n := n) (cap := cap) (w := W) (nm := nm) (v0 := x0) (v1 := x1) (vl := xl) (sr := sr) (mn := 4) (R := fun Y => PB q W nm x0 x1 xl Y ∧ Below w2.heap.size w2 Y) HI.out.1 ⟨⟨drew_below HP3.out.old, HP3.out.lt, HP3.out.row⟩, drew_below HB3.out⟩ (fun Y hY => ⟨hY.1, (HC.out Y hY.2).2.1⟩) HQ0 HQ1 (fun _ _ d _ _ h => by cases d <;> exact h) ?_
            intro Y hY
            have HY : Hid (PB q W nm x0 x1 xl Y ∧ Below w2.heap.size w2 Y) := hY
            have c0 := hY.1.c0
            have c1 := hY.1.c1
            have c2 := hY.1.c2
            have c3 := hY.1.c3
            have CE := HH3.out Y hY.1.old 3 3 3
            rw [HEE.out] at CE
            clear hY HQ0 HQ1
            go_upto_region 17 with (go_at_call 19; refine Calls.mono CE ?_; rintro e w4 ⟨rfl, hb⟩; have HY4 : Hid (PB q W nm x0 x1 xl w4 ∧ Below w2.heap.size w2 w4) := ⟨HY.out.1.below hb, HY.out.2.trans (hb.mono HY.out.2.size)⟩; clear hb c0 c1 c2 c3 CE)
            have c0 := HY4.out.1.c0
            have c1 := HY4.out.1.c1
            have c2 := HY4.out.1.c2
            have c3 := HY4.out.1.c3
            have CT := HH3.out w4 HY4.out.1.old 5 5 5
            rw [HTH.out] at CT
            go_upto_region 18 with (go_at_call 19; refine Calls.mono CT ?_; rintro e w5 ⟨rfl, hb⟩; have HY5 : Hid (PB q W nm x0 x1 xl w5 ∧ Below w2.heap.size w2 w5) := ⟨HY4.out.1.below hb, HY4.out.2.trans (hb.mono HY4.out.2.size)⟩; clear hb c0 c1 c2 c3 CT)
            have x2 := (HC.out w5 HY5.out.2).2.2
            have hdh := HDH.out
            rcases ee with _ | _ <;> rcases th with _ | _
            all_goals
              simp only [Bool.false_and, Bool.true_and, Bool.not_false, Bool.not_true, Bool.and_false, Bool.and_true, decide_eq_true_eq, decide_eq_false_iff_not] at hdh
              have g2 := hdh.1
              have g3 := hdh.2.1
              have g1 := hdh.2.2
              clear hdh
              go_wp2
              exact ⟨⟨i + 1, HI.out.1, congrArg (Value.int .i64) (wrapS HI.out.1 (by have := HN.out; omega)), HY5.out.1, HY5.out.2⟩, measS HI.out.1 (by have := HN.out; omega)⟩
        · have b1 : ¬ (i : Int) < (n : Int) := by omega
          have CK := HKN.out wr (HER.out _ hp.old)
          have HPR : Hid (PB q W nm x0 x1 xl wr) := hp
          clear hp hb
          go_wp2_with (go_at_call 16; refine Calls.mono CK ?_; rintro e w3 ⟨rfl, hb⟩; have HP3 : Hid (PB q W nm x0 x1 xl w3) := HPR.out.below hb; clear hb)
          go_ret
          exact ⟨rfl, HP3.out.old⟩
    · have hl0 : lvL p more = [] := by unfold lvL; rw [if_neg hz]
      rw [hl0] at CLv
      simp only [EV, if_neg hz, List.length_nil] at CLv
      obtain ⟨ec, hec⟩ : ∃ ec, ea (lvE p more) = ec := ⟨_, rfl⟩
      rw [hec] at CLv
      clear hz hl0 hec
      go_upto_region 5 with (go_at_call 11; refine Calls.mono CLv ?_; rintro e w2 ⟨u, rfl, ho, hb⟩; have HP2 : Hid (PB q W nm x0 x1 xl w2) := HP1.out.below hb; obtain ⟨a, cap, rfl⟩ := own_slice ho; clear hb ho c0 c1 c2 c3)
      have CK := HKN.out w2 (HER.out _ HP2.out.old)
      clear CLv
      go_wp2_with (go_at_call 16; refine Calls.mono CK ?_; rintro e w3 ⟨rfl, hb⟩; have HP3 : Hid (PB q W nm x0 x1 xl w3) := HP2.out.below hb; clear hb)
      go_ret
      exact ⟨by simp, HP3.out.old⟩
  · rw [e1] at CLo
    go_enter Tryd.func5, Tryd.ntmps5
    go_wp2_with (go_at_call 9; refine Calls.mono CLo ?_; rintro e w1 ⟨rfl, hb⟩; have HP1 : Hid (PB q W nm x0 x1 xl w1) := HP.out.below hb; clear hb)
    go_ret
    exact ⟨rfl, HP1.out.old⟩
end Go.Proofs.YtjhleocpipmklaaDoor
namespace Go.Proofs.YtjhleocpipmklaaDoor
set_option linter.unusedSimpArgs false
set_option linter.unusedVariables false
open Go.ChangeShapes Go.WideShapes Go.ChangeAt Go.RowKit Go.Pin Go.Pat Go.Deep
/-- grades that are read -/
def RdG (w : World) (v : Value) (l : List Gd) : Prop :=
  ∃ a cap, v = .slice a l.length cap ∧ l.length ≤ cap ∧ l.length ≤ 140737488355328 ∧ (l = [] ∨ ∃ b o, a = some ⟨b, o, none⟩ ∧ w.rangeAt b o (gcs l))
theorem RdG.at {w : World} {a : Option Addr} {n cap : Nat} {l : List Gd} (h : RdG w (.slice a n cap) l) : n = l.length ∧ n ≤ cap ∧ n ≤ 140737488355328 ∧ ∀ j, j < n → ∃ b o, a = some ⟨b, o, none⟩ ∧ ∀ W, Below w.heap.size w W → W.cell? ⟨b, o + j * 3, none⟩ = some (.int .i64 (l.getD j (0, 0, 0)).1) ∧ W.cell? ⟨b, o + j * 3 + 1, none⟩ = some (.int .i64 (l.getD j (0, 0, 0)).2.1) ∧ W.cell? ⟨b, o + j * 3 + 2, none⟩ = some (.int .i64 (l.getD j (0, 0, 0)).2.2) := by
  obtain ⟨a', c', e, h1, h2, h3⟩ := h
  injection e with e1 e2 e3
  subst e1 e2 e3
  refine ⟨rfl, h1, h2, fun j hj => ?_⟩
  rcases h3 with h3 | ⟨b, o, h3, h4⟩
  · subst h3; simp at hj
  · refine ⟨b, o, h3, fun W hW => ?_⟩
    have g := gcs_at l j hj
    have hc : ∀ i v, (gcs l)[i]? = some v → W.cell? ⟨b, o + i, none⟩ = some v := fun i v hv => by
      rw [World.cell?_of_block (a := ⟨b, o + i, none⟩) (hW.block b (World.block_lt_of_cell? w _ (h4 i _ hv)))]
      exact h4 i _ hv
    exact ⟨hc _ _ g.1, hc _ _ g.2.1, hc _ _ g.2.2⟩
theorem RdG.below {w W : World} {v : Value} {l : List Gd} (h : RdG w v l) (hb : Below w.heap.size w W) : RdG W v l := by
  obtain ⟨a, c, e, h1, h2, h3⟩ := h
  refine ⟨a, c, e, h1, h2, ?_⟩
  rcases h3 with h3 | ⟨b, o, h3, h4⟩
  · exact .inl h3
  · exact .inr ⟨b, o, h3, fun j v hv => by rw [World.cell?_of_block (a := ⟨b, o + j, none⟩) (hb.block b (World.block_lt_of_cell? w _ (h4 j v hv)))]; exact h4 j v hv⟩
theorem own_rd {W : World} {b : Nat} {u : Value} {n : Nat} {l : List Gd} (h : W.ownsRow b 48 3 u n (gcs l)) (hn : l.length ≤ 140737488355328) : RdG W u l := by
  have hl : n = l.length := by have := h.1; rw [gcs_length] at this; omega
  subst hl
  rcases h.2 with ⟨rfl, e⟩ | ⟨g, cap', cur, e, hb, hg, h1, h2, h3, h4⟩
  · exact ⟨none, 0, by rw [e], by omega, hn, .inl (List.length_eq_zero_iff.1 e)⟩
  · refine ⟨_, cap', e, by omega, hn, .inr ⟨g, 0, rfl, fun i v hv => ?_⟩⟩
    have hi : i < l.length * 3 := by
      have := (List.getElem?_eq_some_iff.1 hv).1
      rw [gcs_length] at this
      omega
    rw [cell_of_row _ _ _ _ _ _ hg, ← hv, ← h4, List.getElem?_take_of_lt hi]
    simp
theorem gcs_take (l : List Gd) (k : Nat) : gcs (l.take k) = (gcs l).take (k * 3) := by
  induction l generalizing k with
  | nil => simp [gcs]
  | cons g r ih =>
    cases k with
    | zero => simp [gcs]
    | succ k =>
      have e : ∀ (g : Gd) r, gcs (g :: r) = .int .i64 g.1 :: .int .i64 g.2.1 :: .int .i64 g.2.2 :: gcs r := fun g r => by simp [gcs]
      rw [List.take_succ_cons, e, e, ih, show (k + 1) * 3 = k * 3 + 1 + 1 + 1 by omega]
      simp
/-- its first k -/
theorem RdG.take {w : World} {a : Option Addr} {n cap : Nat} {l : List Gd} (h : RdG w (.slice a n cap) l) {k : Nat} (hk : k ≤ n) : RdG w (.slice a k cap) (l.take k) := by
  obtain ⟨a', c', e, h1, h2, h3⟩ := h
  injection e with e1 e2 e3
  subst e1 e2 e3
  have hl : (l.take k).length = k := by rw [List.length_take]; omega
  refine ⟨a, cap, by rw [hl], by omega, by omega, ?_⟩
  rcases h3 with h3 | ⟨b, o, h3, h4⟩
  · exact .inl (by rw [h3]; simp)
  · refine .inr ⟨b, o, h3, fun j v hv => h4 j v ?_⟩
    rw [gcs_take] at hv
    rw [List.getElem?_take] at hv
    split at hv
    · exact hv
    · simp at hv
theorem gd_ext {l m : List Gd} (hn : l.length = m.length) (h : ∀ j, j < l.length → l.getD j (0, 0, 0) = m.getD j (0, 0, 0)) : l = m :=
  List.ext_getElem hn fun j h1 h2 => by simpa [List.getD, h1, h2] using h j h1
theorem fieldsG : Tryd.prog.underlying 48 = some (.struct (Tryd.prog.fieldsOf 48)) ∧ Tryd.prog.stoodInHeld 48 = false ∧ Tryd.prog.eqGuardType Tryd.prog.depth 48 = false := ⟨by kernel_rfl, by kernel_rfl, by kernel_rfl⟩
theorem eqG (x1 x2 x3 y1 y2 y3 : Int) (w : World) : (Op.equalIn 10000 48 (.agg #[.int .i64 x1, .int .i64 x2, .int .i64 x3]) (.agg #[.int .i64 y1, .int .i64 y2, .int .i64 y3])).run Tryd.prog w = .ok (x1 == y1 && (x2 == y2 && x3 == y3)) w := by
  rw [run_equalIn_struct (P := Tryd.prog) w 9999 48 _ _ fieldsG.1 fieldsG.2.1]
  unfold Program.fieldsOf
  rw [Tryd.underlying48]
  simp [go_sem]
  by_cases h1 : x1 = y1 <;> by_cases h2 : x2 = y2 <;> by_cases h3 : x3 = y3 <;> simp [h1, h2, h3]
theorem grade_eq {x1 x2 x3 y1 y2 y3 : Int} : (x1 == y1 && (x2 == y2 && x3 == y3)) = decide (((x1, x2, x3) : Gd) = (y1, y2, y3)) := by
  by_cases h1 : x1 = y1 <;> by_cases h2 : x2 = y2 <;> by_cases h3 : x3 = y3 <;> simp [h1, h2, h3]
set_option maxRecDepth 100000 in
set_option maxHeartbeats 2000000 in
theorem grades_any {W : World} {u v : Value} {l m : List Gd} (hu : RdG W u l) (hv : RdG W v m) :
    Calls Tryd.prog 14 #[u, v] W fun e w' => e = .returned (.bool (decide (l = m))) ∧ Below W.heap.size W w' := by
  obtain ⟨a, ca, rfl, -, -, -⟩ := id hu
  obtain ⟨b, cb, rfl, -, -, -⟩ := id hv
  obtain ⟨-, hac, hal, hua⟩ := hu.at
  obtain ⟨-, hbc, hbl, hvb⟩ := hv.at
  obtain ⟨q, hq⟩ : ∃ q, W.heap.size = q := ⟨_, rfl⟩
  by_cases hn : l.length = m.length
  · obtain ⟨n, hnl⟩ : ∃ n, l.length = n := ⟨_, rfl⟩
    rw [← hn, hnl] at hvb
    rw [hnl] at hua hal
    rw [← hn, hnl]
    have HN : Hid (l.length = n ∧ m.length = n ∧ n ≤ 140737488355328) := ⟨hnl, by rw [← hn]; exact hnl, hal⟩
    have HA : Hid _ := hua
    have HB : Hid _ := hvb
    rw [hq]
    clear hu hv hua hvb hac hbc hbl hal hn hnl
    go_enter Tryd.func14, Tryd.ntmps14
    go_wp2
    go_loopw [5] (fun v5 wr => ∃ i : Nat, i ≤ n ∧ v5 = .int .i64 i ∧ (∀ j, j < i → l.getD j (0, 0, 0) = m.getD j (0, 0, 0)) ∧ Below q W wr) (fun v _ => n - (intOf v).toNat)
    case atStart => exact ⟨0, Nat.zero_le _, rfl, fun j hj => absurd hj (Nat.not_lt_zero _), Below.refl _ _⟩
    case round =>
      obtain ⟨i, hi, rfl, he, hp⟩ := hrel
      by_cases hlt : i < n
      · have b1 : (i : Int) < (n : Int) := by omega
        obtain ⟨g, o, rfl, h1⟩ := HA.out i hlt
        obtain ⟨g', o', rfl, h2⟩ := HB.out i hlt
        have c := h1 wr (by rw [hq]; exact hp)
        have d := h2 wr (by rw [hq]; exact hp)
        obtain ⟨x, hx⟩ : ∃ x, l.getD i (0, 0, 0) = x := ⟨_, rfl⟩
        obtain ⟨y, hy⟩ : ∃ y, m.getD i (0, 0, 0) = y := ⟨_, rfl⟩
        rw [hx] at c
        rw [hy] at d
        obtain ⟨x1, x2, x3⟩ := x
        obtain ⟨y1, y2, y3⟩ := y
        obtain ⟨c1, c2, c3⟩ := c
        obtain ⟨d1, d2, d3⟩ := d
        simp only at c1 c2 c3 d1 d2 d3
        have HE : Hid _ := he
        have HX : Hid _ := And.intro hx hy
        have HP : Hid (Below q W wr) := hp
        have eq1 := eqG x1 x2 x3 y1 y2 y3
        rw [grade_eq] at eq1
        have gt := fieldsG.2.2
        clear h1 h2 he hx hy hp
        by_cases hxy : ((x1, x2, x3) : Gd) = (y1, y2, y3)
        · rw [decide_eq_true hxy] at eq1
          go_wp2
          go_quiet (fail)
          go_wp2
          refine ⟨⟨i + 1, hlt, congrArg (Value.int .i64) (wrapS hlt HN.out.2.2), fun j hj => ?_, drewN_below HP.out _⟩, measS hlt HN.out.2.2⟩
          by_cases hji : j = i
          · rw [hji, HX.out.1, HX.out.2]; exact hxy
          · exact HE.out j (by omega)
        · rw [decide_eq_false hxy] at eq1
          go_wp2
          go_quiet (fail)
          go_wp2
          go_ret
          refine ⟨?_, drewN_below HP.out _⟩
          have : ¬ l = m := fun e => hxy (by rw [← HX.out.1, ← HX.out.2, e])
          simp [this]
      · have b1 : ¬ (i : Int) < (n : Int) := by omega
        have hlm : l = m := gd_ext (by rw [HN.out.1, HN.out.2.1]) (fun j hj => he j (by rw [HN.out.1] at hj; omega))
        have HP : Hid (Below q W wr) := hp
        clear he hp
        go_wp2
        go_ret
        exact ⟨by simp [hlm], HP.out⟩
  · have b1 : ¬ (l.length : Int) = (m.length : Int) := by omega
    have hlm : ¬ l = m := fun e => hn (by rw [e])
    generalize l.length = n1 at *
    generalize m.length = n2 at *
    clear hu hv hua hvb hac hbc hal hbl hn
    go_enter Tryd.func14, Tryd.ntmps14
    go_wp2
    go_ret
    exact ⟨by simp [hlm], Below.refl _ _⟩
end Go.Proofs.YtjhleocpipmklaaDoor
