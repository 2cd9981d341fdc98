import Derived.Test.YtjhleocpipmklaaDoorMjbc
import Derived.Test.YtjhleocpipmklaaDoorMjal
import Derived.Test.YtjhleocpipmklaaDoorMjbb
import Derived.Test.YtjhleocpipmklaaDoorMjav
import Derived.Test.YtjhleocpipmklaaDoorMjau
namespace Go.Proofs.YtjhleocpipmklaaDoor
set_option linter.unusedSimpArgs false
set_option linter.unusedVariables false
open Go.ChangeShapes Go.WideShapes Go.ChangeAt Go.RowKit Go.Pin Go.Pat Go.Deep
/-- what the program's Check is held to -/
def ChkC (ea : Int → Addr) : Prop := ∀ (v : Value) (p : Pt) (W : World), Errs ea W → RdP W v p →
  Calls Tryd.prog 17 #[v] W fun e w' => e = .returned (EV ea (chk p)) ∧ Below W.heap.size W w'
theorem tk_in (x : Sn) (s : Nat) (t : Int) : (tk x s t).2 = 0 ∨ (tk x s t).2 = 10 ∨ (tk x s t).2 = 11 ∨ (tk x s t).2 = 12 := by
  unfold tk
  repeat' split
  all_goals simp
theorem tks_in (s : Nat) (l : List Int) : ∀ x : Sn, (tks s x l).2 = 0 ∨ (tks s x l).2 = 10 ∨ (tks s x l).2 = 11 ∨ (tks s x l).2 = 12 := by
  induction l with
  | nil => intro x; exact .inl rfl
  | cons t r ih => intro x; simp only [tks]; split; exact ih _; exact tk_in _ _ _
theorem lns_in (l : List Ln) : ∀ x : Sn, (lns x l).2 = 0 ∨ (lns x l).2 = 10 ∨ (lns x l).2 = 11 ∨ (lns x l).2 = 12 := by
  induction l with
  | nil => intro x; exact .inl rfl
  | cons t r ih => obtain ⟨f, ts⟩ := t; intro x; simp only [lns]; split; exact tks_in _ _ _; split; exact ih _; simp
theorem chk_in (p : Pt) : chk p = 0 ∨ chk p = 9 ∨ chk p = 10 ∨ chk p = 11 ∨ chk p = 12 := by
  have := lns_in p.ln (beg p)
  unfold chk
  repeat' split
  all_goals omega
theorem lvE_in (p : Pt) (more : Int) : lvE p more = 0 ∨ lvE p more = 1 ∨ lvE p more = 9 ∨ lvE p more = 10 ∨ lvE p more = 11 ∨ lvE p more = 12 := by
  have := chk_in p
  unfold lvE
  repeat' split
  all_goals omega
theorem lvE_bad {p : Pt} {more : Int} (h : lvE p more ≠ 0) (hc : chk p = 0) : more < 0 ∨ 64 < more := by
  unfold lvE at h
  rw [if_neg (by simp [hc])] at h
  by_cases e : more < 0 ∨ 64 < more
  · exact e
  · simp [e] at h
set_option maxRecDepth 100000 in
set_option maxHeartbeats 8000000 in
theorem rises_walk {ea : Int → Addr} (hC : ChkC ea) (hL : LevC ea) (hK : FindC ea ⟨#[75, 75]⟩ pKK) (hN : FindC ea ⟨#[78, 88, 49]⟩ pNX1) (v : Value) (p : Pt) (W : World) (hE : Errs ea W) (hR : RdP W v p) (more : Int) (hm1 : -9223372036854775808 ≤ more) (hm2 : more < 9223372036854775808) :
    Calls Tryd.prog 4 #[v, .int .i64 more] W fun e w' => e = .returned (.bool true) ∧ Below W.heap.size W w' := by
  have hrd := hR
  have HKN : Hid (∀ W, Errs ea W → _) := known_any hL hK hN
  obtain ⟨v0, v1, vl, rfl, h0, h1, hl⟩ := hR
  obtain ⟨a0, p0, rfl, -, -, -⟩ := id h0
  obtain ⟨a1, p1, rfl, -, -, -⟩ := id h1
  obtain ⟨al, cl, rfl, -, -, -⟩ := id hl
  have hst := pb_start W p.nm (.slice a0 p.b0.length p0) (.slice a1 p.b1.length p1) (.slice al p.ln.length cl)
  obtain ⟨q, hq⟩ : ∃ q, W.heap.size = q := ⟨_, rfl⟩
  obtain ⟨nm, hnm⟩ : ∃ nm, p.nm = nm := ⟨_, rfl⟩
  obtain ⟨x0, hx0⟩ : ∃ x0, Value.slice a0 p.b0.length p0 = x0 := ⟨_, rfl⟩
  obtain ⟨x1, hx1⟩ : ∃ x1, Value.slice a1 p.b1.length p1 = x1 := ⟨_, rfl⟩
  obtain ⟨L, hLn⟩ : ∃ L, p.ln.length = L := ⟨_, rfl⟩
  simp only [hq, hnm, hx0, hx1, hLn] at hst hrd ⊢
  obtain ⟨W1, hW1⟩ : ∃ W1, W.alloc (.cells #[.string nm, x0, x1, .slice al L cl] 26) = W1 := ⟨_, rfl⟩
  rw [hW1] at hst
  have HP : Hid (PB q W nm x0 x1 (.slice al L cl) W1) := hst
  have HRD : Hid (∀ Y, Below q W Y → RdP Y (.agg #[.string nm, x0, x1, .slice al L cl]) p) := fun Y hY => hrd.below (by rw [hq]; exact hY)
  have HER : Hid (∀ Y, Below q W Y → Errs ea Y) := fun Y hY => hE.below (by rw [hq]; exact hY)
  have HLC : Hid (LevC ea) := hL
  have HCC : Hid (ChkC ea) := hC
  have HLN : Hid (p.ln.length = L) := hLn
  have HM : Hid (-9223372036854775808 ≤ more ∧ more < 9223372036854775808) := ⟨hm1, hm2⟩
  have c0 := hst.c0
  have c1 := hst.c1
  have c2 := hst.c2
  have c3 := hst.c3
  have CLo := long_any _ p W1 (HRD.out W1 hst.old)
  clear hst hrd hE hC hL hK hN h0 h1 hl hm1 hm2 hx0 hx1
  rcases e1 : lng p with _ | _
  · rw [e1] at CLo
    go_enter Tryd.func4, Tryd.ntmps4
    go_upto_region 3 with (go_at_call 9; refine Calls.mono CLo ?_; rintro e w1 ⟨rfl, hb⟩; have HP1 : Hid (PB q W nm x0 x1 (.slice al L cl) w1) := HP.out.below hb; clear hb c0 c1 c2 c3)
    have c0 := HP1.out.c0
    have c1 := HP1.out.c1
    have c2 := HP1.out.c2
    have c3 := HP1.out.c3
    have CLv := HLC.out _ p w1 more (HER.out _ HP1.out.old) (HRD.out _ HP1.out.old) HM.out.1 HM.out.2
    clear CLo
    by_cases hz : lvE p more = 0
    · rw [hz] at CLv
      simp only [EV, if_true] at CLv
      obtain ⟨hc, mo, rfl, hmo, hlv⟩ := lvE_zero hz
      obtain ⟨hv, h24⟩ := chk_valid hc
      have hne := chk_lines hc
      rw [hlv] at CLv
      simp only [List.length_map, List.length_range] at CLv
      obtain ⟨n, hn⟩ : ∃ n, p.ln.length + mo = n := ⟨_, rfl⟩
      rw [hn] at CLv
      have HN : Hid (L + mo = n ∧ n ≤ 88 ∧ mo ≤ 64) := by refine ⟨?_, ?_, hmo⟩ <;> omega
      have HV : Hid ((∀ l ∈ p.ln, l.1 = 0 ∨ l.1 = 1) ∧ p.ln.length ≠ 0) := ⟨hv, hne⟩
      have HCH : Hid (chk p = 0) := hc
      clear hz hc hlv hv h24 hne hmo hn
      go_upto_region 6 with (go_at_call 11; refine Calls.mono CLv ?_; rintro e w2 ⟨u, rfl, ho, hb⟩; have HP2 : Hid (PB q W nm x0 x1 (.slice al L cl) w2) := HP1.out.below hb; have HO : Hid _ := ho; clear hb ho c0 c1 c2 c3)
      obtain ⟨a, cap, rfl⟩ := own_slice HO.out
      clear CLv
      have c0 := HP2.out.c0
      have c1 := HP2.out.c1
      have c2 := HP2.out.c2
      have c3 := HP2.out.c3
      have CC := HCC.out _ p w2 (HER.out _ HP2.out.old) (HRD.out _ HP2.out.old)
      rw [HCH.out] at CC
      simp only [EV, if_true] at CC
      have d1 : ¬ (mo : Int) < 0 := by omega
      have d2 : ¬ 64 < (mo : Int) := by have := HN.out.2.2; omega
      have d3 : wrap64 ((L : Int) + (mo : Int)) = (n : Int) := by have := HN.out; rw [IntWalk.wrap64_in _ ⟨by omega, by omega⟩]; omega
      go_upto_region 8 with (go_at_call 17; refine Calls.mono CC ?_; rintro e w3 ⟨rfl, hb⟩; have HP3 : Hid (PB q W nm x0 x1 (.slice al L cl) w3) := HP2.out.below hb; have HB3 : Hid (Below w2.heap.size w2 w3) := hb; have c3' := (HP2.out.below hb).c3; clear hb c0 c1 c2)
      clear CC c3' d1 d2 d3
      go_wp2
      go_loopw [7] (fun v7 wr => ∃ i : Nat, i ≤ n ∧ v7 = .int .i64 i ∧ PB q W nm x0 x1 (.slice al L cl) wr ∧ Below w2.heap.size w2 wr) (fun v _ => n - (intOf v).toNat)
      case atStart => exact ⟨0, Nat.zero_le _, rfl, HP3.out, HB3.out⟩
      case round =>
        obtain ⟨i, hi, rfl, hp, hb⟩ := hrel
        by_cases hlt : i < n
        · have b1 : (i : Int) < (n : Int) := by omega
          obtain ⟨-, g, rfl, -, hc⟩ := own_at HO.out hlt
          have hgi : ((List.range n).map (gd p)).getD i (0, 0, 0) = gd p i := by simp [List.getD, hlt]
          rw [hgi] at hc
          simp only [gd] at hc
          obtain ⟨k0, k1, k2⟩ := hc wr hb
          have HI : Hid (i < n ∧ i ≤ 1000) := ⟨hlt, by have := HN.out; omega⟩
          have HPR : Hid (PB q W nm x0 x1 (.slice al L cl) wr) := hp
          have HBR : Hid (Below w2.heap.size w2 wr) := hb
          obtain ⟨f, hf⟩ : ∃ f, sender p i = f := ⟨_, rfl⟩
          obtain ⟨sr, hsr⟩ : ∃ sr, src p i = sr := ⟨_, rfl⟩
          obtain ⟨ds, hds⟩ : ∃ ds, dst p i = ds := ⟨_, rfl⟩
          rw [hf] at k0
          rw [hsr] at k1
          rw [hds] at k2
          have HFS : Hid (sender p i = f ∧ src p i = sr ∧ dst p i = ds) := ⟨hf, hsr, hds⟩
          obtain ⟨r1, r2⟩ : 0 ≤ sr ∧ sr ≤ 2 := by rw [← hsr]; exact src_in p i
          obtain ⟨r3, r4⟩ : 0 ≤ ds ∧ ds ≤ 5 := by rw [← hds]; exact dst_in p i
          have f1 : ¬ sr < 0 := by omega
          have f2 : ¬ 2 < sr := by omega
          have f3 : ¬ ds < 0 := by omega
          have f4 : ¬ 5 < ds := by omega
          clear hp hb hc hgi hf hsr hds hi hlt r1 r2 r3 r4
          go_upto_region 12 with fail
          have hb3 : Below wr.heap.size wr (wr.alloc (.cells #[.int .i64 f, .int .i64 sr, .int .i64 ds] 48)) := (Below.refl _ _).alloc (Nat.le_refl _) _
          have hrow : (wr.alloc (.cells #[.int .i64 f, .int .i64 sr, .int .i64 ds] 48)).heap[wr.heap.size]? = some (.cells #[.int .i64 f, .int .i64 sr, .int .i64 ds] 48) := heap_alloc_new _ _
          obtain ⟨W3, hW3⟩ : ∃ W3, wr.alloc (.cells #[.int .i64 f, .int .i64 sr, .int .i64 ds] 48) = W3 := ⟨_, rfl⟩
          rw [hW3] at hb3 hrow
          have HP4 : Hid (PB q W nm x0 x1 (.slice al L cl) W3) := HPR.out.below hb3
          have HB4 : Hid (Below w2.heap.size w2 W3) := HBR.out.trans (hb3.mono HBR.out.size)
          obtain ⟨g8, hg8⟩ : ∃ g8, wr.heap.size = g8 := ⟨_, rfl⟩
          rw [hg8] at hrow
          simp only [hg8, hW3]
          have HRW : Hid (∀ Y, Below W3.heap.size W3 Y → Y.cell? ⟨g8, 0, none⟩ = some (.int .i64 f) ∧ Y.cell? ⟨g8, 1, none⟩ = some (.int .i64 sr) ∧ Y.cell? ⟨g8, 2, none⟩ = some (.int .i64 ds)) := fun Y hY => by
            have := (hY.block g8 (Array.getElem?_eq_some_iff.1 hrow).1).trans hrow
            refine ⟨?_, ?_, ?_⟩ <;> rw [cell_of_row _ _ _ _ _ _ this] <;> rfl
          clear hb3 hrow hW3 hg8 k0 k1 k2
          refine Go.Pin.wp_region_cls (fun Y => Below W3.heap.size W3 Y) (by kernel_rfl) (by kernel_rfl) ((Below.refl _ _).drew) ?_
          intro Sq fq hNq hRq hSq
          have y0 := fun x => (HRW.out _ (hRq x)).1
          have y1 := fun x => (HRW.out _ (hRq x)).2.1
          have y2 := fun x => (HRW.out _ (hRq x)).2.2
          have z0 := fun x => (HP4.out.below (hRq x)).c0
          have z1 := fun x => (HP4.out.below (hRq x)).c1
          have z2 := fun x => (HP4.out.below (hRq x)).c2
          have z3 := fun x => (HP4.out.below (hRq x)).c3
          have CF := fun x => from_any _ p (fq x) (HRD.out _ (HP4.out.below (hRq x)).old) HV.out.1 HV.out.2 i HI.out.2
          rw [HFS.out.1] at CF
          repeat (go_big_quiet_step (exact (CF _).mono (fun e w' h => ⟨h.1, hSq _ ((hRq _).trans (h.2.mono (hRq _).size))⟩)))
          refine wpQuiet_nil ?_
          intro _ hw'
          obtain ⟨xq, hw''⟩ := hw'
          subst hw''
          have HYq := hRq xq
          generalize fq xq = Y at HYq ⊢
          clear hRq hSq hNq xq fq Sq y0 y1 y2 z0 z1 z2 z3 CF
          have HY : Hid (Below W3.heap.size W3 Y) := HYq
          clear HYq
          go_wp2
          go_loopw [9] (fun v9 wr => ∃ k : Nat, k ≤ i ∧ v9 = .int .i64 k ∧ Below W3.heap.size W3 wr) (fun v _ => i - (intOf v).toNat)
          case atStart => exact ⟨0, Nat.zero_le _, rfl, HY.out⟩
          case round =>
            obtain ⟨k, hk, rfl, hbk⟩ := hrel
            obtain ⟨y0, y1, y2⟩ := HRW.out _ hbk
            have HBK : Hid (Below W3.heap.size W3 wr) := hbk
            by_cases hkl : k < i
            · have b2 : (k : Int) < (i : Int) := by omega
              have b3 : (k : Int) < (n : Int) := by omega
              obtain ⟨-, g', eg, -, hc⟩ := own_at HO.out (show k < n by have := HI.out; omega)
              injection eg with eg
              injection eg with eg
              subst eg
              have hgi : ((List.range n).map (gd p)).getD k (0, 0, 0) = gd p k := by simp [List.getD, show k < n by have := HI.out; omega]
              rw [hgi] at hc
              simp only [gd] at hc
              obtain ⟨k0, k1, k2⟩ := hc wr (HB4.out.trans (hbk.mono HB4.out.size))
              have HKI : Hid (k < i) := hkl
              by_cases hs : sender p k = f
              · have m1 : ¬ sr < src p k := by have := src_mono (p := p) (i := k) (k := i) (by omega) (by rw [hs, HFS.out.1]); rw [HFS.out.2.1] at this; omega
                have m2 : ¬ ds < dst p k := by have := dst_mono (p := p) (i := k) (k := i) (by omega) (by rw [hs, HFS.out.1]); rw [HFS.out.2.2] at this; omega
                rw [hs] at k0
                generalize src p k = sk at *
                generalize dst p k = dk at *
                clear hc hgi hs hbk hk hkl
                go_wp2
                go_quiet (fail)
                go_wp2
                exact ⟨⟨k + 1, HKI.out, congrArg (Value.int .i64) (wrapS HKI.out (by have := HI.out; omega)), drewN_below HBK.out _⟩, measS HKI.out (by have := HI.out; omega)⟩
              · have m1 : decide (sender p k = f) = false := decide_eq_false hs
                have m2 : (sender p k == f) = false := by simpa using hs
                generalize sender p k = fk at *
                generalize src p k = sk at *
                generalize dst p k = dk at *
                clear hc hgi hbk hk hkl
                go_wp2
                go_quiet (fail)
                go_wp2
                exact ⟨⟨k + 1, HKI.out, congrArg (Value.int .i64) (wrapS HKI.out (by have := HI.out; omega)), drewN_below HBK.out _⟩, measS HKI.out (by have := HI.out; omega)⟩
            · have b2 : ¬ (k : Int) < (i : Int) := by omega
              have hp5 := HP4.out.below hbk
              have c3 := hp5.c3
              have H5 : Hid (wrap64 ((L : Int) + 2) = (L : Int) + 2) := by have := HN.out; show _ = _; rw [IntWalk.wrap64_in _ ⟨by omega, by omega⟩]
              have HP5 : Hid _ := hp5
              have HB5 : Hid (Below w2.heap.size w2 wr) := HB4.out.trans (hbk.mono HB4.out.size)
              by_cases h2 : L + 2 ≤ i
              · have b4 : (L : Int) + 2 ≤ (i : Int) := by omega
                have H6 : Hid (wrap64 ((i : Int) - 2) = ((i - 2 : Nat) : Int)) := by have := HI.out; show _ = _; rw [IntWalk.wrap64_in _ ⟨by omega, by omega⟩]; omega
                have b6 : ((i - 2 : Nat) : Int) < (n : Int) := by have := HI.out; omega
                obtain ⟨-, g', eg, -, hc⟩ := own_at HO.out (show i - 2 < n by have := HI.out; omega)
                injection eg with eg
                injection eg with eg
                subst eg
                have hgi : ((List.range n).map (gd p)).getD (i - 2) (0, 0, 0) = (f, sr, ds) := by
                  have e1 := sender_two (p := p) (k := i - 2) (by have := HLN.out; omega)
                  have e2 := src_two (p := p) (k := i - 2) (by have := HLN.out; omega)
                  have e3 := dst_two (p := p) (k := i - 2) (by have := HLN.out; omega)
                  rw [show i - 2 + 2 = i by omega] at e1 e2 e3
                  rw [HFS.out.1] at e1
                  rw [HFS.out.2.1] at e2
                  rw [HFS.out.2.2] at e3
                  simp [List.getD, show i - 2 < n by have := HI.out; omega, gd, e1, e2, e3]
                rw [hgi] at hc
                simp only at hc
                obtain ⟨k0, k1, k2⟩ := hc wr HB5.out
                have eq1 := eqG f sr ds f sr ds
                simp only [beq_self_eq_true, Bool.and_self] at eq1
                have gt := fieldsG.2.2
                obtain ⟨j, hj⟩ : ∃ j, i - 2 = j := ⟨_, rfl⟩
                have d5 := H5.out
                have b5 := H6.out
                rw [hj] at b5 b6 k0 k1 k2
                clear hc hgi hbk hk hkl hp5 hj h2
                go_wp2
                go_quiet (fail)
                go_wp2
                exact ⟨⟨i + 1, HI.out.1, congrArg (Value.int .i64) (wrapS HI.out.1 (by have := HN.out; omega)), ⟨drewN_below HP5.out.old _, HP5.out.lt, HP5.out.row⟩, drewN_below HB5.out _⟩, measS HI.out.1 (by have := HN.out; omega)⟩
              · have b4 : decide ((L : Int) + 2 ≤ (i : Int)) = false := decide_eq_false (by omega)
                clear hbk hk hkl hp5 h2
                have d5 := H5.out
                go_wp2
                go_quiet (fail)
                go_wp2
                exact ⟨⟨i + 1, HI.out.1, congrArg (Value.int .i64) (wrapS HI.out.1 (by have := HN.out; omega)), ⟨drewN_below HP5.out.old _, HP5.out.lt, HP5.out.row⟩, drewN_below HB5.out _⟩, measS HI.out.1 (by have := HN.out; omega)⟩
        · have b1 : ¬ (i : Int) < (n : Int) := by omega
          have HPR : Hid (PB q W nm x0 x1 (.slice al L cl) wr) := hp
          have HBR : Hid (Below w2.heap.size w2 wr) := hb
          clear hp hb
          go_wp2
          have HRL := own_rd HO.out (by simp; have := HN.out; omega)
          have hnc := HRL.at.2.1
          have HNC : Hid (n ≤ cap) := hnc
          have HRG : Hid (RdG w2 (.slice a n cap) ((List.range n).map (gd p))) := HRL
          clear HRL hnc
          go_loopw [10] (fun v10 wr => ∃ j : Nat, j ≤ mo ∧ v10 = .int .i64 j ∧ PB q W nm x0 x1 (.slice al L cl) wr ∧ Below w2.heap.size w2 wr) (fun v _ => mo - (intOf v).toNat)
          case atStart => exact ⟨0, Nat.zero_le _, rfl, HPR.out, HBR.out⟩
          case round =>
            obtain ⟨j, hj, rfl, hp, hb⟩ := hrel
            have HPJ : Hid (PB q W nm x0 x1 (.slice al L cl) wr) := hp
            have HBJ : Hid (Below w2.heap.size w2 wr) := hb
            have HJ : Hid (j ≤ mo) := hj
            by_cases hjm : j < mo ∧ j < 3
            · have b2 : (j : Int) < (mo : Int) := by omega
              have b3 : (j : Int) < 3 := by omega
              have hzj : lvE p (j : Int) = 0 := by
                have := HN.out
                unfold lvE
                rw [if_neg (by simp [HCH.out]), if_neg (by omega)]
              have CLv := HLC.out _ p wr (j : Int) (HER.out _ hp.old) (HRD.out _ hp.old) (by omega) (by omega)
              obtain ⟨-, mj, hmj, -, hlv⟩ := lvE_zero hzj
              have hmj' : mj = j := by omega
              subst hmj'
              rw [hzj, hlv] at CLv
              simp only [EV, if_true, List.length_map, List.length_range, HLN.out] at CLv
              have c0 := hp.c0
              have c1 := hp.c1
              have c2 := hp.c2
              have c3 := hp.c3
              have HJ3 : Hid (mj < mo ∧ mj < 3) := hjm
              have hLj : ¬ (n : Int) < ((L + mj : Nat) : Int) := by have := HN.out; omega
              have hLc : ((L + mj : Nat) : Int) ≤ (cap : Int) := by have := HN.out; have := HNC.out; omega
              have HLL : Hid (L + mj ≤ n) := by have := HN.out; show L + mj ≤ n; omega
              obtain ⟨z, hz⟩ : ∃ z, L + mj = z := ⟨_, rfl⟩
              rw [hz] at CLv hLj hLc HLL
              have HZ : Hid (L + mj = z) := hz
              clear hp hb hj hjm hzj hlv hmj hz
              go_upto_region 25 with (go_at_call 11; refine Calls.mono CLv ?_; rintro e w4 ⟨u, rfl, ho, hb⟩; have HP4 : Hid (PB q W nm x0 x1 (.slice al L cl) w4) := HPJ.out.below hb; have HB4 : Hid (Below w2.heap.size w2 w4) := HBJ.out.trans (hb.mono HBJ.out.size); have HO4 : Hid _ := ho; clear hb ho c0 c1 c2 c3)
              obtain ⟨a4, cap4, rfl⟩ := own_slice HO4.out
              have CG := grades_any (own_rd HO4.out (by simp; have := HN.out; have := HJ3.out; omega)) ((HRG.out.below HB4.out).take HLL.out)
              have hm : (List.range z).map (gd p) = ((List.range n).map (gd p)).take z := by
                rw [← List.map_take, List.take_range, Nat.min_eq_left HLL.out]
              rw [decide_eq_true hm] at CG
              clear CLv hm
              go_wp2_with (go_at_call 14; refine Calls.mono CG ?_; rintro e w5 ⟨rfl, hb⟩; have HP5 : Hid (PB q W nm x0 x1 (.slice al L cl) w5) := HP4.out.below hb; have HB5 : Hid (Below w2.heap.size w2 w5) := HB4.out.trans (hb.mono HB4.out.size); clear hb)
              exact ⟨⟨mj + 1, HJ3.out.1, congrArg (Value.int .i64) (by omega), HP5.out, HB5.out⟩, by show mo - ((mj : Int) + 1).toNat < mo - ((mj : Int)).toNat; have := HJ3.out.1; omega⟩
            · have CK := HKN.out wr (HER.out _ hp.old)
              by_cases hj1 : j < mo
              · have b2 : (j : Int) < (mo : Int) := by omega
                have b3 : ¬ (j : Int) < 3 := by omega
                clear hp hb hj hjm
                go_wp2_with (go_at_call 16; refine Calls.mono CK ?_; rintro e w3 ⟨rfl, hb⟩; have HP3 : Hid (PB q W nm x0 x1 (.slice al L cl) w3) := HPJ.out.below hb; clear hb)
                go_ret
                exact ⟨rfl, HP3.out.old⟩
              · have b2 : ¬ (j : Int) < (mo : Int) := by omega
                clear hp hb hj hjm
                go_wp2_with (go_at_call 16; refine Calls.mono CK ?_; rintro e w3 ⟨rfl, hb⟩; have HP3 : Hid (PB q W nm x0 x1 (.slice al L cl) w3) := HPJ.out.below hb; clear hb)
                go_ret
                exact ⟨rfl, HP3.out.old⟩
    · have hl0 : lvL p more = [] := by unfold lvL; rw [if_neg hz]
      have hin := lvE_in p more
      obtain ⟨c, hc⟩ : ∃ c, lvE p more = c := ⟨_, rfl⟩
      have hbad := fun h => lvE_bad (p := p) (more := more) hz h
      rw [hl0] at CLv
      rw [hc] at CLv hz hin
      have HCO : Hid (∀ Y, Errs ea Y → _) := fun Y hY => code_any (W := Y) hY c (by omega)
      simp only [EV, if_neg hz, List.length_nil] at CLv HCO
      have hc0 : 0 < c := by omega
      have HBD : Hid _ := hbad
      obtain ⟨ec, hec⟩ : ∃ ec, ea c = ec := ⟨_, rfl⟩
      rw [hec] at CLv HCO
      clear hl0 hc hin hbad hec
      go_upto_region 5 with (go_at_call 11; refine Calls.mono CLv ?_; rintro e w2 ⟨u, rfl, ho, hb⟩; have HP2 : Hid (PB q W nm x0 x1 (.slice al L cl) w2) := HP1.out.below hb; obtain ⟨a, cap, rfl⟩ := own_slice ho; clear hb ho c0 c1 c2 c3)
      have CD := HCO.out w2 (HER.out _ HP2.out.old)
      clear CLv
      have c0 := HP2.out.c0
      have c1 := HP2.out.c1
      have c2 := HP2.out.c2
      have c3 := HP2.out.c3
      have CC := HCC.out _ p w2 (HER.out _ HP2.out.old) (HRD.out _ HP2.out.old)
      by_cases hk : chk p = 0
      · rw [hk] at CC
        simp only [EV, if_true] at CC
        have hm := HBD.out hk
        by_cases h1 : more < 0
        · clear hm
          go_wp2_with (first
            | (go_at_call 13; refine Calls.mono CD ?_; rintro e w3 ⟨rfl, rfl⟩)
            | (go_at_call 17; refine Calls.mono CC ?_; rintro e w4 ⟨rfl, hb⟩; have HP4 : Hid (PB q W nm x0 x1 (.slice al L cl) w4) := HP2.out.below hb; clear hb)
            | (go_at_call 16; refine Calls.mono (HKN.out _ (HER.out _ HP4.out.old)) ?_; rintro e w5 ⟨rfl, hb⟩; have HP5 : Hid (PB q W nm x0 x1 (.slice al L cl) w5) := HP4.out.below hb; clear hb))
          go_ret
          exact ⟨rfl, HP5.out.old⟩
        · have h2 : 64 < more := by omega
          have h1' : decide (more < 0) = false := decide_eq_false h1
          clear hm
          go_wp2_with (first
            | (go_at_call 13; refine Calls.mono CD ?_; rintro e w3 ⟨rfl, rfl⟩)
            | (go_at_call 17; refine Calls.mono CC ?_; rintro e w4 ⟨rfl, hb⟩; have HP4 : Hid (PB q W nm x0 x1 (.slice al L cl) w4) := HP2.out.below hb; clear hb)
            | (go_at_call 16; refine Calls.mono (HKN.out _ (HER.out _ HP4.out.old)) ?_; rintro e w5 ⟨rfl, hb⟩; have HP5 : Hid (PB q W nm x0 x1 (.slice al L cl) w5) := HP4.out.below hb; clear hb))
          go_ret
          exact ⟨rfl, HP5.out.old⟩
      · simp only [EV, if_neg hk] at CC
        obtain ⟨ek, hek⟩ : ∃ ek, ea (chk p) = ek := ⟨_, rfl⟩
        rw [hek] at CC
        clear hek
        go_wp2_with (first
          | (go_at_call 13; refine Calls.mono CD ?_; rintro e w3 ⟨rfl, rfl⟩)
          | (go_at_call 17; refine Calls.mono CC ?_; rintro e w4 ⟨rfl, hb⟩; have HP4 : Hid (PB q W nm x0 x1 (.slice al L cl) w4) := HP2.out.below hb; clear hb)
          | (go_at_call 16; refine Calls.mono (HKN.out _ (HER.out _ HP4.out.old)) ?_; rintro e w5 ⟨rfl, hb⟩; have HP5 : Hid (PB q W nm x0 x1 (.slice al L cl) w5) := HP4.out.below hb; clear hb))
        go_ret
        exact ⟨rfl, HP5.out.old⟩
  · rw [e1] at CLo
    go_enter Tryd.func4, Tryd.ntmps4
    go_wp2_with (go_at_call 9; refine Calls.mono CLo ?_; rintro e w1 ⟨rfl, hb⟩; have HP1 : Hid (PB q W nm x0 x1 (.slice al L cl) w1) := HP.out.below hb; clear hb)
    go_ret
    exact ⟨rfl, HP1.out.old⟩
end Go.Proofs.YtjhleocpipmklaaDoor
namespace Go.Proofs.YtjhleocpipmklaaDoor
set_option linter.unusedSimpArgs false
set_option linter.unusedVariables false
open Go.ChangeShapes Go.WideShapes Go.ChangeAt Go.RowKit Go.Pin Go.Pat Go.Deep
/-- what the program's Find is held to: the table -/
def FindA (ea : Int → Addr) : Prop := ∀ k, k < 38 → FindC ea (tab.getD k zP).nm (tab.getD k zP)
theorem find_kk {ea : Int → Addr} (h : FindA ea) : FindC ea ⟨#[75, 75]⟩ pKK := h 16 (by decide)
theorem find_nx1 {ea : Int → Addr} (h : FindA ea) : FindC ea ⟨#[78, 88, 49]⟩ pNX1 := h 26 (by decide)
theorem tb0 : lvE (tab.getD 21 zP) 1 = 0 ∧ dgs (lvL (tab.getD 21 zP) 1) ByteArray.empty = ⟨#[105, 48, 50, 105, 48, 50]⟩ := by decide +kernel
theorem tb1 : lvE (tab.getD 10 zP) 1 = 0 ∧ dgs (lvL (tab.getD 10 zP) 1) ByteArray.empty = ⟨#[105, 49, 50, 105, 49, 50]⟩ := by decide +kernel
theorem tb2 : lvE (tab.getD 27 zP) 1 = 0 ∧ dgs (lvL (tab.getD 27 zP) 1) ByteArray.empty = ⟨#[105, 49, 50, 105, 49, 50]⟩ := by decide +kernel
theorem tb3 : lvE (tab.getD 24 zP) 1 = 0 ∧ dgs (lvL (tab.getD 24 zP) 1) ByteArray.empty = ⟨#[105, 48, 48, 114, 48, 49, 105, 48, 49]⟩ := by decide +kernel
theorem tb4 : lvE (tab.getD 22 zP) 1 = 0 ∧ dgs (lvL (tab.getD 22 zP) 1) ByteArray.empty = ⟨#[105, 48, 50, 114, 50, 49, 105, 48, 53]⟩ := by decide +kernel
theorem tb5 : lvE (tab.getD 25 zP) 1 = 0 ∧ dgs (lvL (tab.getD 25 zP) 1) ByteArray.empty = ⟨#[105, 48, 48, 114, 50, 49, 105, 48, 53]⟩ := by decide +kernel
theorem tb6 : lvE (tab.getD 35 zP) 1 = 0 ∧ dgs (lvL (tab.getD 35 zP) 1) ByteArray.empty = ⟨#[105, 48, 48, 114, 48, 49, 105, 50, 49, 114, 48, 53]⟩ := by decide +kernel
theorem tb7 : lvE (tab.getD 33 zP) 1 = 0 ∧ dgs (lvL (tab.getD 33 zP) 1) ByteArray.empty = ⟨#[105, 48, 50, 114, 50, 49, 105, 50, 53, 114, 50, 53]⟩ := by decide +kernel
theorem tb8 : lvE (tab.getD 36 zP) 1 = 0 ∧ dgs (lvL (tab.getD 36 zP) 1) ByteArray.empty = ⟨#[105, 48, 48, 114, 50, 49, 105, 50, 53, 114, 50, 53]⟩ := by decide +kernel
theorem tb9 : lvE (tab.getD 18 zP) 2 = 0 ∧ dgs (lvL (tab.getD 18 zP) 2) ByteArray.empty = ⟨#[105, 48, 48, 114, 48, 51, 105, 50, 49, 114, 48, 53]⟩ := by decide +kernel
theorem tb10 : lvE (tab.getD 16 zP) 2 = 0 ∧ dgs (lvL (tab.getD 16 zP) 2) ByteArray.empty = ⟨#[105, 49, 50, 114, 50, 52, 105, 50, 53, 114, 50, 53]⟩ := by decide +kernel
theorem tb11 : lvE (tab.getD 19 zP) 2 = 0 ∧ dgs (lvL (tab.getD 19 zP) 2) ByteArray.empty = ⟨#[105, 48, 48, 114, 50, 51, 105, 50, 53, 114, 50, 53]⟩ := by decide +kernel
theorem tb12 : lvE (tab.getD 7 zP) 2 = 0 ∧ dgs (lvL (tab.getD 7 zP) 2) ByteArray.empty = ⟨#[105, 48, 48, 114, 48, 51, 105, 50, 49, 114, 48, 53]⟩ := by decide +kernel
theorem tb13 : lvE (tab.getD 5 zP) 2 = 0 ∧ dgs (lvL (tab.getD 5 zP) 2) ByteArray.empty = ⟨#[105, 49, 50, 114, 50, 52, 105, 50, 53, 114, 50, 53]⟩ := by decide +kernel
theorem tb14 : lvE (tab.getD 8 zP) 2 = 0 ∧ dgs (lvL (tab.getD 8 zP) 2) ByteArray.empty = ⟨#[105, 48, 48, 114, 50, 51, 105, 50, 53, 114, 50, 53]⟩ := by decide +kernel
theorem tb15 : lvE (tab.getD 32 zP) 2 = 0 ∧ dgs (lvL (tab.getD 32 zP) 2) ByteArray.empty = ⟨#[105, 48, 48, 114, 48, 49, 105, 48, 51, 114, 50, 51, 105, 50, 53, 114, 50, 53]⟩ := by decide +kernel
theorem tb16 : lvE (tab.getD 20 zP) 2 = 0 ∧ dgs (lvL (tab.getD 20 zP) 2) ByteArray.empty = ⟨#[105, 48, 48, 114, 48, 51, 105, 50, 51, 114, 50, 53, 105, 50, 53]⟩ := by decide +kernel
theorem tb17 : lvE (tab.getD 1 zP) 1 = 0 ∧ dgs (lvL (tab.getD 1 zP) 1) ByteArray.empty = ⟨#[105, 48, 48, 114, 50, 49, 105, 50, 53, 114, 50, 53]⟩ := by decide +kernel
theorem tb18 : lvE (tab.getD 37 zP) 1 = 0 ∧ dgs (lvL (tab.getD 37 zP) 1) ByteArray.empty = ⟨#[105, 48, 48, 114, 48, 49, 105, 50, 51, 114, 50, 53]⟩ := by decide +kernel
def tbs : List (ByteArray × Int × ByteArray) := [(⟨#[78]⟩, 1, ⟨#[105, 48, 50, 105, 48, 50]⟩), (⟨#[75]⟩, 1, ⟨#[105, 49, 50, 105, 49, 50]⟩), (⟨#[88]⟩, 1, ⟨#[105, 49, 50, 105, 49, 50]⟩), (⟨#[78, 78]⟩, 1, ⟨#[105, 48, 48, 114, 48, 49, 105, 48, 49]⟩), (⟨#[78, 75]⟩, 1, ⟨#[105, 48, 50, 114, 50, 49, 105, 48, 53]⟩), (⟨#[78, 88]⟩, 1, ⟨#[105, 48, 48, 114, 50, 49, 105, 48, 53]⟩), (⟨#[88, 78]⟩, 1, ⟨#[105, 48, 48, 114, 48, 49, 105, 50, 49, 114, 48, 53]⟩), (⟨#[88, 75]⟩, 1, ⟨#[105, 48, 50, 114, 50, 49, 105, 50, 53, 114, 50, 53]⟩), (⟨#[88, 88]⟩, 1, ⟨#[105, 48, 48, 114, 50, 49, 105, 50, 53, 114, 50, 53]⟩), (⟨#[75, 78]⟩, 2, ⟨#[105, 48, 48, 114, 48, 51, 105, 50, 49, 114, 48, 53]⟩), (⟨#[75, 75]⟩, 2, ⟨#[105, 49, 50, 114, 50, 52, 105, 50, 53, 114, 50, 53]⟩), (⟨#[75, 88]⟩, 2, ⟨#[105, 48, 48, 114, 50, 51, 105, 50, 53, 114, 50, 53]⟩), (⟨#[73, 78]⟩, 2, ⟨#[105, 48, 48, 114, 48, 51, 105, 50, 49, 114, 48, 53]⟩), (⟨#[73, 75]⟩, 2, ⟨#[105, 49, 50, 114, 50, 52, 105, 50, 53, 114, 50, 53]⟩), (⟨#[73, 88]⟩, 2, ⟨#[105, 48, 48, 114, 50, 51, 105, 50, 53, 114, 50, 53]⟩), (⟨#[88, 49, 88, 49]⟩, 2, ⟨#[105, 48, 48, 114, 48, 49, 105, 48, 51, 114, 50, 51, 105, 50, 53, 114, 50, 53]⟩), (⟨#[75, 88, 49]⟩, 2, ⟨#[105, 48, 48, 114, 48, 51, 105, 50, 51, 114, 50, 53, 105, 50, 53]⟩), (⟨#[73, 49, 75, 49]⟩, 1, ⟨#[105, 48, 48, 114, 50, 49, 105, 50, 53, 114, 50, 53]⟩), (⟨#[88, 88, 49]⟩, 1, ⟨#[105, 48, 48, 114, 48, 49, 105, 50, 51, 114, 50, 53]⟩)]
theorem say_tab {ea : Int → Addr} (hL : LevC ea) (hA : FindA ea) {n : ByteArray} {m : Int} {w : ByteArray} (h : (n, m, w) ∈ tbs) (W : World) (hE : Errs ea W) :
    Calls Tryd.prog 21 #[.string n, .int .i64 m, .string w] W fun e w' => e = .returned (.bool true) ∧ Below W.heap.size W w' := by
  simp only [tbs, List.mem_cons, Prod.mk.injEq, List.not_mem_nil, or_false] at h
  rcases h with ⟨rfl, rfl, rfl⟩ | ⟨rfl, rfl, rfl⟩ | ⟨rfl, rfl, rfl⟩ | ⟨rfl, rfl, rfl⟩ | ⟨rfl, rfl, rfl⟩ | ⟨rfl, rfl, rfl⟩ | ⟨rfl, rfl, rfl⟩ | ⟨rfl, rfl, rfl⟩ | ⟨rfl, rfl, rfl⟩ | ⟨rfl, rfl, rfl⟩ | ⟨rfl, rfl, rfl⟩ | ⟨rfl, rfl, rfl⟩ | ⟨rfl, rfl, rfl⟩ | ⟨rfl, rfl, rfl⟩ | ⟨rfl, rfl, rfl⟩ | ⟨rfl, rfl, rfl⟩ | ⟨rfl, rfl, rfl⟩ | ⟨rfl, rfl, rfl⟩ | ⟨rfl, rfl, rfl⟩
  · exact says_any hL (hA 21 (by decide)) (more := 1) (by decide) (by decide) tb0.1 tb0.2 W hE
  · exact says_any hL (hA 10 (by decide)) (more := 1) (by decide) (by decide) tb1.1 tb1.2 W hE
  · exact says_any hL (hA 27 (by decide)) (more := 1) (by decide) (by decide) tb2.1 tb2.2 W hE
  · exact says_any hL (hA 24 (by decide)) (more := 1) (by decide) (by decide) tb3.1 tb3.2 W hE
  · exact says_any hL (hA 22 (by decide)) (more := 1) (by decide) (by decide) tb4.1 tb4.2 W hE
  · exact says_any hL (hA 25 (by decide)) (more := 1) (by decide) (by decide) tb5.1 tb5.2 W hE
  · exact says_any hL (hA 35 (by decide)) (more := 1) (by decide) (by decide) tb6.1 tb6.2 W hE
  · exact says_any hL (hA 33 (by decide)) (more := 1) (by decide) (by decide) tb7.1 tb7.2 W hE
  · exact says_any hL (hA 36 (by decide)) (more := 1) (by decide) (by decide) tb8.1 tb8.2 W hE
  · exact says_any hL (hA 18 (by decide)) (more := 2) (by decide) (by decide) tb9.1 tb9.2 W hE
  · exact says_any hL (hA 16 (by decide)) (more := 2) (by decide) (by decide) tb10.1 tb10.2 W hE
  · exact says_any hL (hA 19 (by decide)) (more := 2) (by decide) (by decide) tb11.1 tb11.2 W hE
  · exact says_any hL (hA 7 (by decide)) (more := 2) (by decide) (by decide) tb12.1 tb12.2 W hE
  · exact says_any hL (hA 5 (by decide)) (more := 2) (by decide) (by decide) tb13.1 tb13.2 W hE
  · exact says_any hL (hA 8 (by decide)) (more := 2) (by decide) (by decide) tb14.1 tb14.2 W hE
  · exact says_any hL (hA 32 (by decide)) (more := 2) (by decide) (by decide) tb15.1 tb15.2 W hE
  · exact says_any hL (hA 20 (by decide)) (more := 2) (by decide) (by decide) tb16.1 tb16.2 W hE
  · exact says_any hL (hA 1 (by decide)) (more := 1) (by decide) (by decide) tb17.1 tb17.2 W hE
  · exact says_any hL (hA 37 (by decide)) (more := 1) (by decide) (by decide) tb18.1 tb18.2 W hE
set_option maxRecDepth 100000 in
set_option maxHeartbeats 8000000 in
theorem table_walk {ea : Int → Addr} (hL : LevC ea) (hA : FindA ea) (W : World) (hE : Errs ea W) :
    Calls Tryd.prog 8 #[] W fun e w' => e = .returned (.bool true) ∧ Below W.heap.size W w' := by
  have HKN : Hid (∀ W, Errs ea W → _) := known_any hL (find_kk hA) (find_nx1 hA)
  have HS : Hid (∀ n m w, (n, m, w) ∈ tbs → ∀ W, Errs ea W → Calls Tryd.prog 21 #[.string n, .int .i64 m, .string w] W fun e w' => e = .returned (.bool true) ∧ Below W.heap.size W w') := fun n m w h => say_tab hL hA h
  have HE : Hid (∀ Y, Below W.heap.size W Y → Errs ea Y) := fun Y hY => hE.below hY
  have HB : Hid (Below W.heap.size W W) := Below.refl _ _
  clear hE hL hA
  go_enter Tryd.func8, Tryd.ntmps8
  go_wp2_with (first
    | (go_at_call 21; refine Calls.mono (HS.out _ _ _ (by simp [tbs]) _ (HE.out _ HB.out)) ?_; rintro e w1 ⟨rfl, hb⟩; obtain HB := (show Hid (Below W.heap.size W w1) from HB.out.trans (hb.mono HB.out.size)); clear hb)
    | (go_at_call 16; refine Calls.mono (HKN.out _ (HE.out _ HB.out)) ?_; rintro e w1 ⟨rfl, hb⟩; obtain HB := (show Hid (Below W.heap.size W w1) from HB.out.trans (hb.mono HB.out.size)); clear hb))
  go_ret
  exact ⟨rfl, HB.out⟩
end Go.Proofs.YtjhleocpipmklaaDoor
namespace Go.Proofs.YtjhleocpipmklaaDoor
set_option linter.unusedSimpArgs false
set_option linter.unusedVariables false
open Go.ChangeShapes Go.WideShapes Go.ChangeAt Go.RowKit Go.Pin Go.Pat Go.Deep
theorem tab_finds : (tab.map fun p => tbI p.nm) = tab.map some := by kernel_rfl
theorem tab_find : ∀ k, k < 38 → tbI (tab.getD k zP).nm = some (tab.getD k zP) := by
  intro k hk
  have hl : tab.length = 38 := rfl
  have hk' : k < tab.length := by omega
  have := congrArg (fun l => l[k]?) tab_finds
  simp only [List.getElem?_map, List.getElem?_eq_getElem hk', Option.map_some, Option.some.injEq] at this
  simpa [List.getD, List.getElem?_eq_getElem hk'] using this
theorem pfindA {ea : Int → Addr} : FindA ea := fun k hk W hE => by
  have := find_any' (ea := ea) (tab.getD k zP).nm W hE
  unfold FnP at this
  rw [tab_find k hk] at this
  exact this.mono fun e w' ⟨hb, v0, v1, vl, he, hf⟩ => ⟨_, he, hf.rd, hb⟩
theorem pchk {ea : Int → Addr} : ChkC ea := pcheck_any
end Go.Proofs.YtjhleocpipmklaaDoor
namespace Go.Proofs.YtjhleocpipmklaaDoor
set_option linter.unusedSimpArgs false
set_option linter.unusedVariables false
open Go.ChangeShapes Go.WideShapes Go.ChangeAt Go.RowKit Go.Pin Go.Pat Go.Deep
/-- another token stands in the first message -/
def oth (p : Pt) (y : Int) : Pt := ⟨p.nm, p.b0, p.b1, p.ln.set 0 ((p.ln.getD 0 (0, [])).1, (p.ln.getD 0 (0, [])).2.set 1 y)⟩
theorem oth_len (p : Pt) (y : Int) : (oth p y).ln.length = p.ln.length := by simp [oth]
theorem oth_at (p : Pt) (y : Int) {i : Nat} (h : i ≠ 0) : (oth p y).ln.getD i (0, []) = p.ln.getD i (0, []) := by simp [oth, List.getD, List.getElem?_set_ne (fun e => h e.symm)]
theorem oth_0 (p : Pt) (y : Int) (h : 0 < p.ln.length) : (oth p y).ln.getD 0 (0, []) = ((p.ln.getD 0 (0, [])).1, (p.ln.getD 0 (0, [])).2.set 1 y) := by simp [oth, List.getD, h]
theorem oth_f (p : Pt) (y : Int) (i : Nat) : ((oth p y).ln.getD i (0, [])).1 = (p.ln.getD i (0, [])).1 := by
  by_cases e : i = 0
  · subst e
    by_cases h : 0 < p.ln.length
    · rw [oth_0 p y h]
    · have : p.ln = [] := List.length_eq_zero_iff.1 (by omega)
      simp [oth, this]
  · rw [oth_at p y e]
theorem oth_t (p : Pt) (y : Int) (i : Nat) : ((oth p y).ln.getD i (0, [])).2.length = (p.ln.getD i (0, [])).2.length := by
  by_cases e : i = 0
  · subst e
    by_cases h : 0 < p.ln.length
    · rw [oth_0 p y h]; simp
    · have : p.ln = [] := List.length_eq_zero_iff.1 (by omega)
      simp [oth, this]
  · rw [oth_at p y e]
theorem rm_set {C : List Int} (h : 1 < C.length) (y : Int) : (rm C).set 1 y = rm (C.set 1 y) := by
  unfold rm
  rw [List.set_append_left _ _ h, List.length_set]
theorem zip_oth {α : Type} (f : Ln → Nat → α) (p : Pt) (y : Int) (B : List Nat) (hf : ∀ i b, f ((oth p y).ln.getD i (0, [])) b = f (p.ln.getD i (0, [])) b) : List.zipWith f (oth p y).ln B = List.zipWith f p.ln B := by
  apply List.ext_getElem?
  intro i
  rw [List.getElem?_zipWith, List.getElem?_zipWith]
  have hl := oth_len p y
  by_cases hi : i < p.ln.length
  · have h1 := hf i
    simp only [List.getD, List.getElem?_eq_getElem hi, List.getElem?_eq_getElem (show i < (oth p y).ln.length by omega), Option.getD_some] at h1
    rw [List.getElem?_eq_getElem hi, List.getElem?_eq_getElem (show i < (oth p y).ln.length by omega)]
    cases hb : B[i]? with
    | none => rfl
    | some b => simp [h1]
  · rw [List.getElem?_eq_none (l := (oth p y).ln) (by omega), List.getElem?_eq_none (l := p.ln) (by omega)]
section
variable {p : Pt} {t : Nat} {nm : ByteArray} {g0 g1 : Nat} {B : List Nat} {gl cl : Nat} {TV : Value} {w w' : World}
theorem TwP.keep (h : TwP p t nm g0 g1 B gl cl TV w) (hk : ∀ k, (k = t ∨ (∃ e ∈ [(g0, p.b0), (g1, p.b1)] ++ lmw p.ln B, k = e.1) ∨ k = gl ∨ TV.ownBlock = some k) → w'.heap[k]? = w.heap[k]?) : TwP p t nm g0 g1 B gl cl TV w' :=
  ⟨(hk _ (.inl rfl)).trans h.1, fun e he => (h.2.1 e he).keep (hk _ (.inr (.inl ⟨e, he, rfl⟩))), h.2.2.1, h.2.2.2.1, own_keep h.2.2.2.2.1 (fun g hg => by
    have hg' : some gl = some g := hg
    injection hg' with hg'
    exact hk _ (.inr (.inr (.inl hg'.symm)))), own_keep h.2.2.2.2.2 (fun g hg => hk _ (.inr (.inr (.inr hg))))⟩
/-- blocks of no such type are written -/
theorem TwP.typed (h : TwP p t nm g0 g1 B gl cl TV w) {T : TypeId} (hT : T ≠ 3 ∧ T ≠ 43 ∧ T ≠ 22 ∧ T ≠ 37) {r : Nat} {cs : Array Value} (hr : w.heap[r]? = some (.cells cs T)) (ho : ∀ k, k ≠ r → w'.heap[k]? = w.heap[k]?) : TwP p t nm g0 g1 B gl cl TV w' := by
  refine h.keep (fun k hk => ho k (fun e => ?_))
  subst e
  rcases hk with rfl | ⟨e, he, rfl⟩ | rfl | hg
  · exact hT.2.2.2 (cells_type hr h.1)
  · exact (h.2.1 e he).ne hr hT.1 rfl
  · obtain ⟨_, cur, hc⟩ := own_blk h.2.2.2.2.1 (g := k) rfl
    exact hT.2.1 (cells_type hr hc)
  · obtain ⟨_, cur, hc⟩ := own_blk h.2.2.2.2.2 hg
    exact hT.2.2.1 (cells_type hr hc)
theorem TwP.lt (h : TwP p t nm g0 g1 B gl cl TV w) : t < w.heap.size ∧ gl < w.heap.size ∧ t < gl := by
  obtain ⟨h1, cur, hc⟩ := own_blk h.2.2.2.2.1 (g := gl) rfl
  exact ⟨(Array.getElem?_eq_some_iff.1 h.1).1, (Array.getElem?_eq_some_iff.1 hc).1, by omega⟩
/-- the pattern within -/
theorem TwP.rdp (h : TwP p t nm g0 g1 B gl cl TV w) (hs : p.b0.length ≤ 200 ∧ p.b1.length ≤ 200 ∧ p.ln.length ≤ 200 ∧ ∀ i, i < p.ln.length → (p.ln.getD i (0, [])).2.length ≤ 200) (hnm : p.nm = nm) :
    RdP w (.agg #[.string nm, tkv g0 p.b0, tkv g1 p.b1, .slice (some ⟨gl, 0, none⟩) p.ln.length cl]) p := by
  have rd : ∀ {g : Nat} {C : List Int}, RwB g (rm C) w → C.length ≤ 200 → RdN w (tkv g C) C := fun hr hC => hr.rd (fun i hi => rm_lo hi) (by rw [rm_len]; omega) (by omega) (by omega)
  have hcl : p.ln.length ≤ cl := by
    rcases h.2.2.2.2.1.2 with ⟨e, _⟩ | ⟨g, c, cur, e, _, _, h3, _⟩
    · cases e
    · injection e with _ _ e; omega
  refine ⟨_, _, _, by rw [hnm], rd (h.2.1 (g0, p.b0) (by simp)) hs.1, rd (h.2.1 (g1, p.b1) (by simp)) hs.2.1, ⟨_, _, rfl, hcl, by omega, fun j hj => ?_⟩⟩
  have hl := h.line hj
  exact ⟨gl, 0, _, rfl, by rw [Nat.zero_add]; exact hl.1, by rw [Nat.zero_add]; exact hl.2, rd (h.rw hj) (hs.2.2.2 j hj)⟩
/-- a token is written -/
theorem TwP.turn (h : TwP p t nm g0 g1 B gl cl TV w) (h0 : 0 < p.ln.length) (h1 : 1 < (p.ln.getD 0 (0, [])).2.length) (y : Int) : TwP (oth p y) t nm g0 g1 B gl cl TV (w.setCell ⟨B.getD 0 0, 1, none⟩ (.int .i64 y)) := by
  have hB := h.2.2.2.1
  have hr0 := h.rw h0
  have ho : ∀ k, k ≠ B.getD 0 0 → (w.setCell ⟨B.getD 0 0, 1, none⟩ (.int .i64 y)).heap[k]? = w.heap[k]? := fun k hne => heap_setCell_other _ _ _ _ hne
  have hT : 37 ≠ 3 := by decide
  have e1 : lfw (oth p y).ln B = lfw p.ln B := zip_oth _ p y B (fun i b => by simp only [tkv, oth_f, oth_t])
  have e2 : twv (oth p y).ln B = twv p.ln B := zip_oth _ p y B (fun i b => by simp only [whv, oth_t])
  have hnd := h.2.2.1
  have em : ([(g0, (oth p y).b0), (g1, (oth p y).b1)] ++ lmw (oth p y).ln B).map (·.1) = ([(g0, p.b0), (g1, p.b1)] ++ lmw p.ln B).map (·.1) := by
    simp only [List.map_append, lmw, List.map_zipWith]
    rw [zip_oth _ p y B (fun i b => rfl)]
    rfl
  have hget : ∀ i, i < p.ln.length → (([(g0, p.b0), (g1, p.b1)] ++ lmw p.ln B).map (·.1))[i + 2]? = some (B.getD i 0) := fun i hi => by
    have hiB : i < B.length := by omega
    simp [lmw, List.getElem?_zipWith, hi, hiB, List.getD]
  have hne : ∀ i, i < p.ln.length → i ≠ 0 → B.getD i 0 ≠ B.getD 0 0 := fun i hi hi0 e => by
    have a := hget i hi
    have b := hget 0 h0
    rw [e] at a
    have := ((List.getElem?_inj (List.getElem?_eq_some_iff.1 a).1 hnd).1 (a.trans b.symm))
    omega
  have hg : B.getD 0 0 ≠ g0 ∧ B.getD 0 0 ≠ g1 := by
    have b := hget 0 h0
    constructor
    · intro e
      have a : (([(g0, p.b0), (g1, p.b1)] ++ lmw p.ln B).map (·.1))[0]? = some g0 := by simp
      rw [e] at b
      have := ((List.getElem?_inj (List.getElem?_eq_some_iff.1 a).1 hnd).1 (a.trans b.symm))
      omega
    · intro e
      have a : (([(g0, p.b0), (g1, p.b1)] ++ lmw p.ln B).map (·.1))[1]? = some g1 := by simp
      rw [e] at b
      have := ((List.getElem?_inj (List.getElem?_eq_some_iff.1 a).1 hnd).1 (a.trans b.symm))
      omega
  refine ⟨?_, fun e he => ?_, by rw [em]; exact hnd, by rw [oth_len]; exact hB, ?_, ?_⟩
  · rw [oth_len]
    exact (ho _ (fun e => hr0.ne h.1 hT e.symm)).trans h.1
  · rcases List.mem_append.1 he with he | he
    · simp only [List.mem_cons, List.not_mem_nil, or_false] at he
      rcases he with rfl | rfl
      · exact (h.2.1 (g0, p.b0) (by simp)).keep (ho _ (fun e => hg.1 e.symm))
      · exact (h.2.1 (g1, p.b1) (by simp)).keep (ho _ (fun e => hg.2 e.symm))
    · obtain ⟨i, hi, rfl⟩ := List.mem_iff_getElem.1 he
      have hi' : i < p.ln.length ∧ i < B.length := by simp [lmw, oth_len] at hi; omega
      have ee : (lmw (oth p y).ln B)[i] = (B.getD i 0, ((oth p y).ln.getD i (0, [])).2) := by
        have hio : i < (oth p y).ln.length := by rw [oth_len]; exact hi'.1
        simp [lmw, List.getD, hio, hi'.2]
      rw [ee]
      by_cases e0 : i = 0
      · subst e0
        rw [oth_0 p y h0]
        show RwB _ (rm _) _
        rw [← rm_set h1]
        exact hr0.set 1 y
      · rw [oth_at p y e0]
        exact (h.rw hi'.1).keep (ho _ (hne i hi'.1 e0))
  · rw [oth_len, e1]
    refine own_keep h.2.2.2.2.1 (fun g hg' => ho _ (fun e => ?_))
    obtain ⟨_, cur, hc⟩ := own_blk h.2.2.2.2.1 hg'
    exact hr0.ne hc (by decide) e.symm
  · rw [oth_len, e2]
    refine own_keep h.2.2.2.2.2 (fun g hg' => ho _ (fun e => ?_))
    obtain ⟨_, cur, hc⟩ := own_blk h.2.2.2.2.2 hg'
    exact hr0.ne hc (by decide) e.symm
end
end Go.Proofs.YtjhleocpipmklaaDoor
