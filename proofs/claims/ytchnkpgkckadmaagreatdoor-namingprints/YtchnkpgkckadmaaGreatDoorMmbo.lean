import Derived.Test.YtchnkpgkckadmaaGreatDoorMmbh
import Derived.Test.YtchnkpgkckadmaaGreatDoorMmae
import Derived.Test.YtchnkpgkckadmaaGreatDoorMmbj
import Derived.Test.YtchnkpgkckadmaaGreatDoorMmbn
import Derived.Test.YtchnkpgkckadmaaGreatDoorMmbf
namespace Go.Proofs.YtchnkpgkckadmaaGreatDoor
set_option linter.unusedSimpArgs false
set_option linter.unusedVariables false
set_option maxRecDepth 100000
open Go.ChangeShapes Go.WideShapes Go.ChangeAt Go.RowKit Go.Pin Go.Pat Go.Deep
theorem RdP.sl9 {w : World} {v : Value} {p : Pt} (h : RdP w v p) : ∃ a0 n0 k0 a1 n1 k1 al nl kl, v = .agg #[.string p.nm, .slice a0 n0 k0, .slice a1 n1 k1, .slice al nl kl] := by
  obtain ⟨v0, v1, vl, rfl, ⟨a0, k0, rfl, _⟩, ⟨a1, k1, rfl, _⟩, ⟨al, kl, rfl, _⟩⟩ := h
  exact ⟨a0, _, k0, a1, _, k1, al, _, kl, rfl⟩
/-- a pattern that is read is no part of a box that holds the zero pattern: the box may be set -/
theorem rdp_row {q : Nat} {W w : World} {v : Value} {p : Pt} {cs : Array Value} (h : RdP w v p) (hp : PO q W w) : RdP (w.setRow q cs) v p := h.box hp.hp
def NgP (t : ByteArray) (q : Nat) (W : World) (e : Ending) (w' : World) : Prop := Below q W w' ∧ ∃ v, e = .returned (.tuple #[v, .int .i64 (nprs t).2]) ∧ RdP w' v (nprs t).1
set_option maxHeartbeats 8000000 in
theorem ref16_parse (t : ByteArray) (W : World) (ht : t.size ≤ 140737488355328) :
    Calls Tryz.prog 7 #[.string t] W (NgP t W.heap.size W) := by
  have h0 : PO W.heap.size W (W.alloc (.cells zPR 26)) := ⟨(Below.refl _ _).alloc (Nat.le_refl _) _, by rw [size_alloc]; omega, heap_alloc_new _ _⟩
  unfold NgP
  obtain ⟨q, hq⟩ : ∃ q, W.heap.size = q := ⟨_, rfl⟩
  simp only [hq] at h0 ⊢
  have HN : Hid (W.heap.size = q) := hq
  obtain ⟨W0, hW0⟩ : ∃ W0, W.alloc (.cells zPR 26) = W0 := ⟨_, rfl⟩
  rw [hW0] at h0
  have H0 : Hid (PO q W W0) := h0
  have hs0 : W0.heap.size = q + 1 := by rw [← hW0, size_alloc, hq]
  have HS0 : Hid (W0.heap.size = q + 1) := hs0
  clear h0 hs0
  have CFU := full_any t W0 ht
  unfold FuP at CFU
  cases hfl : nfl t with
  | none =>
    rw [hfl] at CFU
    have HNO : Hid (nprs t = (zPt, 13)) := by show nprs t = _; unfold nprs; rw [hfl]
    clear hfl
    go_enter Tryz.func7, Tryz.ntmps7
    go_upto_region 2 with (go_at_call 16; refine CFU.mono ?_; rintro e w1 ⟨rfl, hw1⟩; obtain rfl : W0 = w1 := hw1.symm; clear CFU)
    go_wp2_with (with_reducible refine at_list ?_; refine hold_store 26 (.tmp 2) (.tmp 20) rfl ?_)
    refine wpList_store_row rfl 26 (.tmp 2) (.tmp 20) rfl q zPR rfl rfl 26 zPR H0.out.hp (ipR _ _ _ _) rfl (by simp [zPR, Value.oneCell']) ?_
    go_wp2
    refine bodyPost_ret (v := .tuple #[.agg zPR, .int .i64 13]) ?_ rfl ⟨below_setRow H0.out.old _ (Nat.le_refl _) _, .agg zPR, by rw [HNO.out], by rw [HNO.out]; exact (ftp_zero _ _).rd (S := fun _ => True)⟩
    exact results_row_tmp (P := Tryz.prog) (fn := Tryz.f7) (p := 2) (u := 3) (ty := 26) rfl _ _ q 26 _ (0, 0) _ _ rfl (setRow_heap _ _ _ _ 26 _ H0.out.hp) Tryz.underlying26 rfl (ipR _ _ _ _) rfl
  | some f =>
    rw [hfl] at CFU
    simp only at CFU
    have HPF : Hid (nprs t = match tbI (f.extract 0 (nup f)), nwd (f.extract (nup f) f.size) with
        | some p, some ws => if ws.length = 0 then (p, 0) else if (mdf p ws).2 ≠ 0 then (zPt, 13) else ((mdf p ws).1, 0)
        | _, _ => (zPt, 13)) := by
      show nprs t = _
      unfold nprs
      rw [hfl]
      rfl
    have HFS : Hid (f.size ≤ 255) := by
      show _ ≤ _
      obtain ⟨e1, e2⟩ := nfl_some hfl
      have h1 := toL_len t
      have h2 := toL_len f
      rw [e1] at h1
      simp only [List.length_append] at h1
      omega
    clear hfl ht
    obtain ⟨n, hn⟩ : ∃ n, f.size = n := ⟨_, rfl⟩
    have bn : (n : Int) ≤ 255 := by have := HFS.out; omega
    go_enter Tryz.func7, Tryz.ntmps7
    go_upto_region 5 with (go_at_call 16; refine CFU.mono ?_; rintro e w1 ⟨rfl, hw1⟩; obtain rfl : W0 = w1 := hw1.symm; clear CFU)
    go_loopw [6] (fun v6 wr => ∃ i : Nat, i ≤ n ∧ v6 = .int .i64 i ∧ (∀ j, j < i → upB (byt f j) = true) ∧ wr = W0) (fun v _ => n - (intOf v).toNat)
    case atStart => exact ⟨0, Nat.zero_le _, rfl, fun j hj => absurd hj (Nat.not_lt_zero _), rfl⟩
    case round =>
      obtain ⟨i, hi, rfl, hup, hwr⟩ := hrel
      obtain rfl : W0 = wr := hwr.symm
      by_cases hlt : i < n
      · have hil : i < f.size := by omega
        have CU := upper_any (byt f i) (by rw [byt_get f i hil]; exact UInt8.toNat_lt _) W0
        have b1 : (i : Int) < (n : Int) := by omega
        have bi : (0 : Int) ≤ (i : Int) := by omega
        have hgi := byt_get f i hil
        by_cases hc : upB (byt f i) = true
        · have HU : Hid (∀ j, j < i + 1 → upB (byt f j) = true) := fun j hj => by
            by_cases e : j = i
            · rw [e]; exact hc
            · exact hup j (by omega)
          rw [hc, hgi] at CU
          have HLT : Hid (i < n) := hlt
          clear hup hc hlt hgi hi
          go_wp2_with (go_at_call 17; refine CU.mono ?_; rintro e wa ⟨rfl, hwa⟩; obtain rfl := hwa.symm)
          exact ⟨⟨i + 1, HLT.out, congrArg (Value.int .i64) (Int.natCast_succ i).symm, HU.out, trivial⟩, by have := HLT.out; show n - ((i : Int) + 1).toNat < n - ((i : Int)).toNat; omega⟩
        · have hcf : upB (byt f i) = false := by simpa using hc
          have HNU : Hid (nup f = i) := nup_at hup (by omega) (.inr hcf)
          rw [hcf, hgi] at CU
          clear hup hc hcf hlt hgi
          go_upto_region 7 with (go_at_call 17; refine CU.mono ?_; rintro e wa ⟨rfl, hwa⟩; obtain rfl := hwa.symm; clear CU)
          have HI : Hid (i ≤ n) := hi
          have a0 : (0 : Int) ≤ (i : Int) := by omega
          have a1 : (i : Int) ≤ (f.size : Int) := by omega
          have a2 : (i : Int) ≤ (n : Int) := by omega
          have CFI := find_any (f.extract 0 i) W0
          have HP : Hid (nprs t = match tbI (f.extract 0 i), nwd (f.extract i n) with
              | some p, some ws => if ws.length = 0 then (p, 0) else if (mdf p ws).2 ≠ 0 then (zPt, 13) else ((mdf p ws).1, 0)
              | _, _ => (zPt, 13)) := by
            show nprs t = _
            have := HPF.out
            rw [HNU.out, hn] at this
            exact this
          have HBI : Hid (∀ s, fndI s = tbI s) := fun s => rfl
          have HBP : Hid (∀ s p, tbI s = some p → fndP s = p) := fun s p h => by unfold fndP; rw [HBI.out, h]; rfl
          obtain ⟨x, hx⟩ : ∃ x, f.extract 0 i = x := ⟨_, rfl⟩
          obtain ⟨y, hy⟩ : ∃ y, f.extract i n = y := ⟨_, rfl⟩
          simp only [hx, hy, HBI.out] at CFI HP
          have hys : y.size ≤ n := by rw [← hy]; simp; omega
          have HYS : Hid (y.size ≤ 255) := by show _ ≤ _; have := HFS.out; omega
          obtain ⟨sm, hsm⟩ : ∃ sm, (tbI x).isSome = sm := ⟨_, rfl⟩
          obtain ⟨pp, hpp⟩ : ∃ pp, fndP x = pp := ⟨_, rfl⟩
          rw [hsm, hpp, HS0.out] at CFI
          clear hi hys
          go_upto_region 8 with (go_at_call 18; refine CFI.mono ?_; rintro e w1 ⟨v, rfl, hr, hb⟩; obtain ⟨m0, l0, z0, m1, l1, z1, m2, l2, z2, rfl⟩ := hr.sl9; have H1 : Hid (PO q W w1 ∧ RdP w1 _ pp) := ⟨H0.out.below (by rw [HS0.out]; exact hb), hr⟩; clear hb hr CFI)
          have hb2 : Below w1.heap.size w1 (w1.alloc (.cells #[.string pp.nm, .slice m0 l0 z0, .slice m1 l1 z1, .slice m2 l2 z2] 26)) := (Below.refl _ _).alloc (Nat.le_refl _) _
          have hr2 := heap_alloc_new w1 (.cells #[.string pp.nm, .slice m0 l0 z0, .slice m1 l1 z1, .slice m2 l2 z2] 26)
          obtain ⟨g2, hg2⟩ : ∃ g2, w1.heap.size = g2 := ⟨_, rfl⟩
          obtain ⟨w2, hw2⟩ : ∃ w2, w1.alloc (.cells #[.string pp.nm, .slice m0 l0 z0, .slice m1 l1 z1, .slice m2 l2 z2] 26) = w2 := ⟨_, rfl⟩
          rw [hw2] at hb2 hr2 ⊢
          simp only [hg2] at hr2 ⊢
          have H2 : Hid (PO q W w2 ∧ RdP w2 (.agg #[.string pp.nm, .slice m0 l0 z0, .slice m1 l1 z1, .slice m2 l2 z2]) pp ∧ w2.heap[g2]? = some (.cells #[.string pp.nm, .slice m0 l0 z0, .slice m1 l1 z1, .slice m2 l2 z2] 26)) := ⟨H1.out.1.below hb2, H1.out.2.below hb2, hr2⟩
          clear hb2 hr2 hw2 hg2
          have CW := words16_any y w2 (by have := HYS.out; omega)
          unfold WoP at CW
          obtain ⟨pn, hpn⟩ : ∃ pn, pp.nm = pn := ⟨_, rfl⟩
          have HPN : Hid (pp.nm = pn) := hpn
          rw [hpn] at H2 ⊢
          clear hpn H1
          cases hw : nwd y with
          | none =>
            rw [hw] at CW HP
            have HNO : Hid (nprs t = (zPt, 13)) := by
              show nprs t = _
              rw [HP.out]
              cases tbI x <;> rfl
            clear hw HP
            cases sm with
            | false =>
              go_upto_region 9 with (go_at_call 19; refine CW.mono ?_; rintro e w3 ⟨hb, rfl⟩; have H3 : Hid (PO q W w3) := H2.out.1.below hb; clear hb CW)
              go_wp2_with (with_reducible refine at_list ?_; refine hold_store 26 (.tmp 2) (.tmp 53) rfl ?_)
              refine wpList_store_row rfl 26 (.tmp 2) (.tmp 53) rfl q zPR rfl rfl 26 zPR H3.out.hp (ipR _ _ _ _) rfl (by simp [zPR, Value.oneCell']) ?_
              go_wp2
              refine bodyPost_ret (v := .tuple #[.agg zPR, .int .i64 13]) ?_ rfl ⟨below_setRow H3.out.old _ (Nat.le_refl _) _, .agg zPR, by rw [HNO.out], by rw [HNO.out]; exact (ftp_zero _ _).rd (S := fun _ => True)⟩
              exact results_row_tmp (P := Tryz.prog) (fn := Tryz.f7) (p := 2) (u := 3) (ty := 26) rfl _ _ q 26 _ (0, 0) _ _ rfl (setRow_heap _ _ _ _ 26 _ H3.out.hp) Tryz.underlying26 rfl (ipR _ _ _ _) rfl
            | true =>
              go_upto_region 9 with (go_at_call 19; refine CW.mono ?_; rintro e w3 ⟨hb, rfl⟩; have H3 : Hid (PO q W w3) := H2.out.1.below hb; clear hb CW)
              go_wp2_with (with_reducible refine at_list ?_; refine hold_store 26 (.tmp 2) (.tmp 53) rfl ?_)
              refine wpList_store_row rfl 26 (.tmp 2) (.tmp 53) rfl q zPR rfl rfl 26 zPR H3.out.hp (ipR _ _ _ _) rfl (by simp [zPR, Value.oneCell']) ?_
              go_wp2
              refine bodyPost_ret (v := .tuple #[.agg zPR, .int .i64 13]) ?_ rfl ⟨below_setRow H3.out.old _ (Nat.le_refl _) _, .agg zPR, by rw [HNO.out], by rw [HNO.out]; exact (ftp_zero _ _).rd (S := fun _ => True)⟩
              exact results_row_tmp (P := Tryz.prog) (fn := Tryz.f7) (p := 2) (u := 3) (ty := 26) rfl _ _ q 26 _ (0, 0) _ _ rfl (setRow_heap _ _ _ _ 26 _ H3.out.hp) Tryz.underlying26 rfl (ipR _ _ _ _) rfl
          | some ws =>
            rw [hw] at CW HP
            simp only at CW
            have HWS : Hid (2 * ws.length ≤ 256 ∧ ∀ z ∈ ws, z.size ≤ 255) := by
              obtain ⟨e1, e2⟩ := (nwd_iff y ws).1 hw
              have hW : ∀ w ∈ ws.map toL, WdL w := fun w hw => by obtain ⟨z, hz, rfl⟩ := List.mem_map.1 hw; exact e2 z hz
              have h1 := JW_much (ws.map toL) hW
              have hl := toL_len y
              rw [← e1, hl, List.length_map] at h1
              refine ⟨by have := HYS.out; omega, fun z hz => ?_⟩
              have h2 := JW_mem (ws.map toL) (toL z) (List.mem_map.2 ⟨z, hz, rfl⟩)
              rw [← e1, hl, toL_len] at h2
              have := HYS.out
              omega
            clear hw
            cases sm with
            | false =>
              have hno : tbI x = none := by
                cases h : tbI x with
                | none => rfl
                | some p => rw [h] at hsm; cases hsm
              have HNO : Hid (nprs t = (zPt, 13)) := by
                show nprs t = _
                rw [HP.out, hno]
              clear hno HP
              go_upto_region 9 with (go_at_call 19; refine CW.mono ?_; rintro e w3 ⟨hb, v, rfl, how⟩; obtain ⟨a4, c4, rfl⟩ := own_slice' how; have H3 : Hid (PO q W w3) := H2.out.1.below hb; clear hb CW how)
              go_wp2_with (with_reducible refine at_list ?_; refine hold_store 26 (.tmp 2) (.tmp 53) rfl ?_)
              refine wpList_store_row rfl 26 (.tmp 2) (.tmp 53) rfl q zPR rfl rfl 26 zPR H3.out.hp (ipR _ _ _ _) rfl (by simp [zPR, Value.oneCell']) ?_
              go_wp2
              refine bodyPost_ret (v := .tuple #[.agg zPR, .int .i64 13]) ?_ rfl ⟨below_setRow H3.out.old _ (Nat.le_refl _) _, .agg zPR, by rw [HNO.out], by rw [HNO.out]; exact (ftp_zero _ _).rd (S := fun _ => True)⟩
              exact results_row_tmp (P := Tryz.prog) (fn := Tryz.f7) (p := 2) (u := 3) (ty := 26) rfl _ _ q 26 _ (0, 0) _ _ rfl (setRow_heap _ _ _ _ 26 _ H3.out.hp) Tryz.underlying26 rfl (ipR _ _ _ _) rfl
            | true =>
              obtain ⟨p, hp⟩ : ∃ p, tbI x = some p := by
                cases h : tbI x with
                | none => rw [h] at hsm; cases hsm
                | some p => exact ⟨p, rfl⟩
              have hpp2 : pp = p := by rw [← hpp]; exact HBP.out x p hp
              subst hpp2
              have HPT : Hid (pp.nm.size ≤ 100) := (tab_f (tbI_mem hp).1).nm
              rw [hp] at HP
              clear hp hpp hsm
              go_upto_region 9 with (go_at_call 19; refine CW.mono ?_; rintro e w3 ⟨hb, v, rfl, how⟩; obtain ⟨a4, c4, rfl⟩ := own_slice' how; have H3 : Hid (PO q W w3 ∧ RdP w3 (.agg #[.string pn, .slice m0 l0 z0, .slice m1 l1 z1, .slice m2 l2 z2]) pp ∧ w3.heap[g2]? = some (.cells #[.string pn, .slice m0 l0 z0, .slice m1 l1 z1, .slice m2 l2 z2] 26) ∧ RdS w3 (.slice a4 ws.length c4) ws) := ⟨H2.out.1.below hb, H2.out.2.1.below hb, (hb.block g2 (Array.getElem?_eq_some_iff.1 H2.out.2.2).1).trans H2.out.2.2, own_strs how⟩; clear hb CW how)
              have k0 := cell_of_row w3 g2 0 _ _ _ H3.out.2.2.1
              have k1 := cell_of_row w3 g2 1 _ _ _ H3.out.2.2.1
              have k2 := cell_of_row w3 g2 2 _ _ _ H3.out.2.2.1
              have k3 := cell_of_row w3 g2 3 _ _ _ H3.out.2.2.1
              simp at k0 k1 k2 k3
              have H3' : Hid (PO q W w3) := H3.out.1
              have CM := modify_any (.agg #[.string pn, .slice m0 l0 z0, .slice m1 l1 z1, .slice m2 l2 z2]) (.slice a4 ws.length c4) pp ws w3 H3.out.2.1 H3.out.2.2.2 (by have := HPT.out; omega) (by have := HWS.out.1; omega) (fun z hz => by have := HWS.out.2 z hz; omega)
              obtain ⟨k, hk⟩ : ∃ k, ws.length = k := ⟨_, rfl⟩
              have HK : Hid (ws.length = k) := hk
              rw [hk] at CM
              rw [hk]
              clear hk
              by_cases hk0 : k = 0
              · have HR : Hid (nprs t = (pp, 0)) := by show nprs t = _; rw [HP.out]; exact if_pos (by rw [HK.out]; exact hk0)
                subst hk0
                clear CM HP
                go_wp2_with (with_reducible refine at_list ?_; refine hold_store 26 (.tmp 2) (.tmp 57) rfl ?_)
                refine wpList_store_row rfl 26 (.tmp 2) (.tmp 57) rfl q #[.string pn, .slice m0 l0 z0, .slice m1 l1 z1, .slice m2 l2 z2] rfl rfl 26 zPR H3'.out.hp (ipR _ _ _ _) rfl (by simp [zPR, Value.oneCell']) ?_
                go_wp2
                refine bodyPost_ret (v := .tuple #[.agg #[.string pn, .slice m0 l0 z0, .slice m1 l1 z1, .slice m2 l2 z2], .int .i64 0]) ?_ rfl ⟨below_setRow H3'.out.old _ (Nat.le_refl _) _, .agg #[.string pn, .slice m0 l0 z0, .slice m1 l1 z1, .slice m2 l2 z2], by rw [HR.out], by rw [HR.out]; exact rdp_row H3.out.2.1 (H3.out.1)⟩
                exact results_row_tmp (P := Tryz.prog) (fn := Tryz.f7) (p := 2) (u := 3) (ty := 26) rfl _ _ q 26 _ (0, 0) _ _ rfl (setRow_heap _ _ _ _ 26 _ H3'.out.hp) Tryz.underlying26 rfl (ipR _ _ _ _) rfl
              · have e0 : ((k : Int) == 0) = false := by have : ¬ (k : Int) = 0 := by omega
                                                         simpa using this
                have e1 : decide ((k : Int) = 0) = false := by have : ¬ (k : Int) = 0 := by omega
                                                               simpa using this
                have HR : Hid (nprs t = if (mdf pp ws).2 ≠ 0 then (zPt, 13) else ((mdf pp ws).1, 0)) := by show nprs t = _; rw [HP.out]; exact if_neg (by rw [HK.out]; exact hk0)
                unfold MdP at CM
                obtain ⟨md, hmd⟩ : ∃ md, mdf pp ws = md := ⟨_, rfl⟩
                rw [hmd] at CM HR
                obtain ⟨P, c⟩ := md
                simp only at CM HR
                clear hmd HP hk0
                by_cases hc : c = 0
                · subst hc
                  have HR' : Hid (nprs t = (P, 0)) := by show nprs t = _; rw [HR.out]; rfl
                  clear HR
                  go_upto_region 14 with (go_at_call 20; refine CM.mono ?_; rintro e w4 ⟨hb, v, rfl, hr⟩; obtain ⟨n0, j0, y0, n1, j1, y1, n2, j2, y2, rfl⟩ := hr.sl9; have H4 : Hid (PO q W w4 ∧ RdP w4 _ P) := ⟨H3.out.1.below hb, hr⟩; clear hb hr CM k0 k1 k2 k3)
                  have hb5 : Below w4.heap.size w4 (w4.alloc (.cells #[.string P.nm, .slice n0 j0 y0, .slice n1 j1 y1, .slice n2 j2 y2] 26)) := (Below.refl _ _).alloc (Nat.le_refl _) _
                  have hr5 := heap_alloc_new w4 (.cells #[.string P.nm, .slice n0 j0 y0, .slice n1 j1 y1, .slice n2 j2 y2] 26)
                  obtain ⟨g5, hg5⟩ : ∃ g5, w4.heap.size = g5 := ⟨_, rfl⟩
                  obtain ⟨w5, hw5⟩ : ∃ w5, w4.alloc (.cells #[.string P.nm, .slice n0 j0 y0, .slice n1 j1 y1, .slice n2 j2 y2] 26) = w5 := ⟨_, rfl⟩
                  rw [hw5] at hb5 hr5 ⊢
                  simp only [hg5] at hr5 ⊢
                  have H5 : Hid (PO q W w5) := H4.out.1.below hb5
                  have H6 : Hid (RdP w5 (.agg #[.string P.nm, .slice n0 j0 y0, .slice n1 j1 y1, .slice n2 j2 y2]) P) := H4.out.2.below hb5
                  have k0 := cell_of_row w5 g5 0 _ _ _ hr5
                  have k1 := cell_of_row w5 g5 1 _ _ _ hr5
                  have k2 := cell_of_row w5 g5 2 _ _ _ hr5
                  have k3 := cell_of_row w5 g5 3 _ _ _ hr5
                  simp at k0 k1 k2 k3
                  obtain ⟨Pn, hPn⟩ : ∃ Pn, P.nm = Pn := ⟨_, rfl⟩
                  rw [hPn] at k0 H6 ⊢
                  clear hb5 hr5 hw5 hg5 H4 hPn
                  go_wp2_with (with_reducible refine at_list ?_; refine hold_store 26 (.tmp 2) (.tmp 67) rfl ?_)
                  refine wpList_store_row rfl 26 (.tmp 2) (.tmp 67) rfl q #[.string Pn, .slice n0 j0 y0, .slice n1 j1 y1, .slice n2 j2 y2] rfl rfl 26 zPR H5.out.hp (ipR _ _ _ _) rfl (by simp [zPR, Value.oneCell']) ?_
                  go_wp2
                  refine bodyPost_ret (v := .tuple #[.agg #[.string Pn, .slice n0 j0 y0, .slice n1 j1 y1, .slice n2 j2 y2], .int .i64 0]) ?_ rfl ⟨below_setRow H5.out.old _ (Nat.le_refl _) _, .agg #[.string Pn, .slice n0 j0 y0, .slice n1 j1 y1, .slice n2 j2 y2], by rw [HR'.out], by rw [HR'.out]; exact rdp_row H6.out H5.out⟩
                  exact results_row_tmp (P := Tryz.prog) (fn := Tryz.f7) (p := 2) (u := 3) (ty := 26) rfl _ _ q 26 _ (0, 0) _ _ rfl (setRow_heap _ _ _ _ 26 _ H5.out.hp) Tryz.underlying26 rfl (ipR _ _ _ _) rfl
                · have HNO : Hid (nprs t = (zPt, 13)) := by show nprs t = _; rw [HR.out, if_pos hc]
                  have c1 : ((c : Int) == 0) = false := by simpa using hc
                  have c2 : (c != 0) = true := by simpa using hc
                  clear hc HR
                  go_upto_region 14 with (go_at_call 20; refine CM.mono ?_; rintro e w4 ⟨hb, v, rfl, hr⟩; obtain ⟨n0, j0, y0, n1, j1, y1, n2, j2, y2, rfl⟩ := hr.sl9; have H4 : Hid (PO q W w4) := H3.out.1.below hb; clear hb hr CM k0 k1 k2 k3)
                  have h5 : PO q W (w4.alloc (.cells #[.string P.nm, .slice n0 j0 y0, .slice n1 j1 y1, .slice n2 j2 y2] 26)) := H4.out.below ((Below.refl _ _).alloc (Nat.le_refl _) _)
                  obtain ⟨w5, hw5⟩ : ∃ w5, w4.alloc (.cells #[.string P.nm, .slice n0 j0 y0, .slice n1 j1 y1, .slice n2 j2 y2] 26) = w5 := ⟨_, rfl⟩
                  rw [hw5] at h5 ⊢
                  have H5 : Hid (PO q W w5) := h5
                  clear h5 hw5
                  go_wp2_with (with_reducible refine at_list ?_; refine hold_store 26 (.tmp 2) (.tmp 66) rfl ?_)
                  refine wpList_store_row rfl 26 (.tmp 2) (.tmp 66) rfl q zPR rfl rfl 26 zPR H5.out.hp (ipR _ _ _ _) rfl (by simp [zPR, Value.oneCell']) ?_
                  go_wp2
                  refine bodyPost_ret (v := .tuple #[.agg zPR, .int .i64 13]) ?_ rfl ⟨below_setRow H5.out.old _ (Nat.le_refl _) _, .agg zPR, by rw [HNO.out], by rw [HNO.out]; exact (ftp_zero _ _).rd (S := fun _ => True)⟩
                  exact results_row_tmp (P := Tryz.prog) (fn := Tryz.f7) (p := 2) (u := 3) (ty := 26) rfl _ _ q 26 _ (0, 0) _ _ rfl (setRow_heap _ _ _ _ 26 _ H5.out.hp) Tryz.underlying26 rfl (ipR _ _ _ _) rfl
      · have b1 : ¬ (i : Int) < (n : Int) := by omega
        have HNU : Hid (nup f = i) := nup_at hup (by omega) (.inl (by omega))
        clear hup hlt
        go_upto_region 7 with (fail)
        have HI : Hid (i ≤ n) := hi
        have a0 : (0 : Int) ≤ (i : Int) := by omega
        have a1 : (i : Int) ≤ (f.size : Int) := by omega
        have a2 : (i : Int) ≤ (n : Int) := by omega
        have CFI := find_any (f.extract 0 i) W0
        have HP : Hid (nprs t = match tbI (f.extract 0 i), nwd (f.extract i n) with
            | some p, some ws => if ws.length = 0 then (p, 0) else if (mdf p ws).2 ≠ 0 then (zPt, 13) else ((mdf p ws).1, 0)
            | _, _ => (zPt, 13)) := by
          show nprs t = _
          have := HPF.out
          rw [HNU.out, hn] at this
          exact this
        have HBI : Hid (∀ s, fndI s = tbI s) := fun s => rfl
        have HBP : Hid (∀ s p, tbI s = some p → fndP s = p) := fun s p h => by unfold fndP; rw [HBI.out, h]; rfl
        obtain ⟨x, hx⟩ : ∃ x, f.extract 0 i = x := ⟨_, rfl⟩
        obtain ⟨y, hy⟩ : ∃ y, f.extract i n = y := ⟨_, rfl⟩
        simp only [hx, hy, HBI.out] at CFI HP
        have hys : y.size ≤ n := by rw [← hy]; simp; omega
        have HYS : Hid (y.size ≤ 255) := by show _ ≤ _; have := HFS.out; omega
        obtain ⟨sm, hsm⟩ : ∃ sm, (tbI x).isSome = sm := ⟨_, rfl⟩
        obtain ⟨pp, hpp⟩ : ∃ pp, fndP x = pp := ⟨_, rfl⟩
        rw [hsm, hpp, HS0.out] at CFI
        clear hi hys
        go_upto_region 8 with (go_at_call 18; refine CFI.mono ?_; rintro e w1 ⟨v, rfl, hr, hb⟩; obtain ⟨m0, l0, z0, m1, l1, z1, m2, l2, z2, rfl⟩ := hr.sl9; have H1 : Hid (PO q W w1 ∧ RdP w1 _ pp) := ⟨H0.out.below (by rw [HS0.out]; exact hb), hr⟩; clear hb hr CFI)
        have hb2 : Below w1.heap.size w1 (w1.alloc (.cells #[.string pp.nm, .slice m0 l0 z0, .slice m1 l1 z1, .slice m2 l2 z2] 26)) := (Below.refl _ _).alloc (Nat.le_refl _) _
        have hr2 := heap_alloc_new w1 (.cells #[.string pp.nm, .slice m0 l0 z0, .slice m1 l1 z1, .slice m2 l2 z2] 26)
        obtain ⟨g2, hg2⟩ : ∃ g2, w1.heap.size = g2 := ⟨_, rfl⟩
        obtain ⟨w2, hw2⟩ : ∃ w2, w1.alloc (.cells #[.string pp.nm, .slice m0 l0 z0, .slice m1 l1 z1, .slice m2 l2 z2] 26) = w2 := ⟨_, rfl⟩
        rw [hw2] at hb2 hr2 ⊢
        simp only [hg2] at hr2 ⊢
        have H2 : Hid (PO q W w2 ∧ RdP w2 (.agg #[.string pp.nm, .slice m0 l0 z0, .slice m1 l1 z1, .slice m2 l2 z2]) pp ∧ w2.heap[g2]? = some (.cells #[.string pp.nm, .slice m0 l0 z0, .slice m1 l1 z1, .slice m2 l2 z2] 26)) := ⟨H1.out.1.below hb2, H1.out.2.below hb2, hr2⟩
        clear hb2 hr2 hw2 hg2
        have CW := words16_any y w2 (by have := HYS.out; omega)
        unfold WoP at CW
        obtain ⟨pn, hpn⟩ : ∃ pn, pp.nm = pn := ⟨_, rfl⟩
        have HPN : Hid (pp.nm = pn) := hpn
        rw [hpn] at H2 ⊢
        clear hpn H1
        cases hw : nwd y with
        | none =>
          rw [hw] at CW HP
          have HNO : Hid (nprs t = (zPt, 13)) := by
            show nprs t = _
            rw [HP.out]
            cases tbI x <;> rfl
          clear hw HP
          cases sm with
          | false =>
            go_upto_region 9 with (go_at_call 19; refine CW.mono ?_; rintro e w3 ⟨hb, rfl⟩; have H3 : Hid (PO q W w3) := H2.out.1.below hb; clear hb CW)
            go_wp2_with (with_reducible refine at_list ?_; refine hold_store 26 (.tmp 2) (.tmp 53) rfl ?_)
            refine wpList_store_row rfl 26 (.tmp 2) (.tmp 53) rfl q zPR rfl rfl 26 zPR H3.out.hp (ipR _ _ _ _) rfl (by simp [zPR, Value.oneCell']) ?_
            go_wp2
            refine bodyPost_ret (v := .tuple #[.agg zPR, .int .i64 13]) ?_ rfl ⟨below_setRow H3.out.old _ (Nat.le_refl _) _, .agg zPR, by rw [HNO.out], by rw [HNO.out]; exact (ftp_zero _ _).rd (S := fun _ => True)⟩
            exact results_row_tmp (P := Tryz.prog) (fn := Tryz.f7) (p := 2) (u := 3) (ty := 26) rfl _ _ q 26 _ (0, 0) _ _ rfl (setRow_heap _ _ _ _ 26 _ H3.out.hp) Tryz.underlying26 rfl (ipR _ _ _ _) rfl
          | true =>
            go_upto_region 9 with (go_at_call 19; refine CW.mono ?_; rintro e w3 ⟨hb, rfl⟩; have H3 : Hid (PO q W w3) := H2.out.1.below hb; clear hb CW)
            go_wp2_with (with_reducible refine at_list ?_; refine hold_store 26 (.tmp 2) (.tmp 53) rfl ?_)
            refine wpList_store_row rfl 26 (.tmp 2) (.tmp 53) rfl q zPR rfl rfl 26 zPR H3.out.hp (ipR _ _ _ _) rfl (by simp [zPR, Value.oneCell']) ?_
            go_wp2
            refine bodyPost_ret (v := .tuple #[.agg zPR, .int .i64 13]) ?_ rfl ⟨below_setRow H3.out.old _ (Nat.le_refl _) _, .agg zPR, by rw [HNO.out], by rw [HNO.out]; exact (ftp_zero _ _).rd (S := fun _ => True)⟩
            exact results_row_tmp (P := Tryz.prog) (fn := Tryz.f7) (p := 2) (u := 3) (ty := 26) rfl _ _ q 26 _ (0, 0) _ _ rfl (setRow_heap _ _ _ _ 26 _ H3.out.hp) Tryz.underlying26 rfl (ipR _ _ _ _) rfl
        | some ws =>
          rw [hw] at CW HP
          simp only at CW
          have HWS : Hid (2 * ws.length ≤ 256 ∧ ∀ z ∈ ws, z.size ≤ 255) := by
            obtain ⟨e1, e2⟩ := (nwd_iff y ws).1 hw
            have hW : ∀ w ∈ ws.map toL, WdL w := fun w hw => by obtain ⟨z, hz, rfl⟩ := List.mem_map.1 hw; exact e2 z hz
            have h1 := JW_much (ws.map toL) hW
            have hl := toL_len y
            rw [← e1, hl, List.length_map] at h1
            refine ⟨by have := HYS.out; omega, fun z hz => ?_⟩
            have h2 := JW_mem (ws.map toL) (toL z) (List.mem_map.2 ⟨z, hz, rfl⟩)
            rw [← e1, hl, toL_len] at h2
            have := HYS.out
            omega
          clear hw
          cases sm with
          | false =>
            have hno : tbI x = none := by
              cases h : tbI x with
              | none => rfl
              | some p => rw [h] at hsm; cases hsm
            have HNO : Hid (nprs t = (zPt, 13)) := by
              show nprs t = _
              rw [HP.out, hno]
            clear hno HP
            go_upto_region 9 with (go_at_call 19; refine CW.mono ?_; rintro e w3 ⟨hb, v, rfl, how⟩; obtain ⟨a4, c4, rfl⟩ := own_slice' how; have H3 : Hid (PO q W w3) := H2.out.1.below hb; clear hb CW how)
            go_wp2_with (with_reducible refine at_list ?_; refine hold_store 26 (.tmp 2) (.tmp 53) rfl ?_)
            refine wpList_store_row rfl 26 (.tmp 2) (.tmp 53) rfl q zPR rfl rfl 26 zPR H3.out.hp (ipR _ _ _ _) rfl (by simp [zPR, Value.oneCell']) ?_
            go_wp2
            refine bodyPost_ret (v := .tuple #[.agg zPR, .int .i64 13]) ?_ rfl ⟨below_setRow H3.out.old _ (Nat.le_refl _) _, .agg zPR, by rw [HNO.out], by rw [HNO.out]; exact (ftp_zero _ _).rd (S := fun _ => True)⟩
            exact results_row_tmp (P := Tryz.prog) (fn := Tryz.f7) (p := 2) (u := 3) (ty := 26) rfl _ _ q 26 _ (0, 0) _ _ rfl (setRow_heap _ _ _ _ 26 _ H3.out.hp) Tryz.underlying26 rfl (ipR _ _ _ _) rfl
          | true =>
            obtain ⟨p, hp⟩ : ∃ p, tbI x = some p := by
              cases h : tbI x with
              | none => rw [h] at hsm; cases hsm
              | some p => exact ⟨p, rfl⟩
            have hpp2 : pp = p := by rw [← hpp]; exact HBP.out x p hp
            subst hpp2
            have HPT : Hid (pp.nm.size ≤ 100) := (tab_f (tbI_mem hp).1).nm
            rw [hp] at HP
            clear hp hpp hsm
            go_upto_region 9 with (go_at_call 19; refine CW.mono ?_; rintro e w3 ⟨hb, v, rfl, how⟩; obtain ⟨a4, c4, rfl⟩ := own_slice' how; have H3 : Hid (PO q W w3 ∧ RdP w3 (.agg #[.string pn, .slice m0 l0 z0, .slice m1 l1 z1, .slice m2 l2 z2]) pp ∧ w3.heap[g2]? = some (.cells #[.string pn, .slice m0 l0 z0, .slice m1 l1 z1, .slice m2 l2 z2] 26) ∧ RdS w3 (.slice a4 ws.length c4) ws) := ⟨H2.out.1.below hb, H2.out.2.1.below hb, (hb.block g2 (Array.getElem?_eq_some_iff.1 H2.out.2.2).1).trans H2.out.2.2, own_strs how⟩; clear hb CW how)
            have k0 := cell_of_row w3 g2 0 _ _ _ H3.out.2.2.1
            have k1 := cell_of_row w3 g2 1 _ _ _ H3.out.2.2.1
            have k2 := cell_of_row w3 g2 2 _ _ _ H3.out.2.2.1
            have k3 := cell_of_row w3 g2 3 _ _ _ H3.out.2.2.1
            simp at k0 k1 k2 k3
            have H3' : Hid (PO q W w3) := H3.out.1
            have CM := modify_any (.agg #[.string pn, .slice m0 l0 z0, .slice m1 l1 z1, .slice m2 l2 z2]) (.slice a4 ws.length c4) pp ws w3 H3.out.2.1 H3.out.2.2.2 (by have := HPT.out; omega) (by have := HWS.out.1; omega) (fun z hz => by have := HWS.out.2 z hz; omega)
            obtain ⟨k, hk⟩ : ∃ k, ws.length = k := ⟨_, rfl⟩
            have HK : Hid (ws.length = k) := hk
            rw [hk] at CM
            rw [hk]
            clear hk
            by_cases hk0 : k = 0
            · have HR : Hid (nprs t = (pp, 0)) := by show nprs t = _; rw [HP.out]; exact if_pos (by rw [HK.out]; exact hk0)
              subst hk0
              clear CM HP
              go_wp2_with (with_reducible refine at_list ?_; refine hold_store 26 (.tmp 2) (.tmp 57) rfl ?_)
              refine wpList_store_row rfl 26 (.tmp 2) (.tmp 57) rfl q #[.string pn, .slice m0 l0 z0, .slice m1 l1 z1, .slice m2 l2 z2] rfl rfl 26 zPR H3'.out.hp (ipR _ _ _ _) rfl (by simp [zPR, Value.oneCell']) ?_
              go_wp2
              refine bodyPost_ret (v := .tuple #[.agg #[.string pn, .slice m0 l0 z0, .slice m1 l1 z1, .slice m2 l2 z2], .int .i64 0]) ?_ rfl ⟨below_setRow H3'.out.old _ (Nat.le_refl _) _, .agg #[.string pn, .slice m0 l0 z0, .slice m1 l1 z1, .slice m2 l2 z2], by rw [HR.out], by rw [HR.out]; exact rdp_row H3.out.2.1 (H3.out.1)⟩
              exact results_row_tmp (P := Tryz.prog) (fn := Tryz.f7) (p := 2) (u := 3) (ty := 26) rfl _ _ q 26 _ (0, 0) _ _ rfl (setRow_heap _ _ _ _ 26 _ H3'.out.hp) Tryz.underlying26 rfl (ipR _ _ _ _) rfl
            · have e0 : ((k : Int) == 0) = false := by have : ¬ (k : Int) = 0 := by omega
                                                       simpa using this
              have e1 : decide ((k : Int) = 0) = false := by have : ¬ (k : Int) = 0 := by omega
                                                             simpa using this
              have HR : Hid (nprs t = if (mdf pp ws).2 ≠ 0 then (zPt, 13) else ((mdf pp ws).1, 0)) := by show nprs t = _; rw [HP.out]; exact if_neg (by rw [HK.out]; exact hk0)
              unfold MdP at CM
              obtain ⟨md, hmd⟩ : ∃ md, mdf pp ws = md := ⟨_, rfl⟩
              rw [hmd] at CM HR
              obtain ⟨P, c⟩ := md
              simp only at CM HR
              clear hmd HP hk0
              by_cases hc : c = 0
              · subst hc
                have HR' : Hid (nprs t = (P, 0)) := by show nprs t = _; rw [HR.out]; rfl
                clear HR
                go_upto_region 14 with (go_at_call 20; refine CM.mono ?_; rintro e w4 ⟨hb, v, rfl, hr⟩; obtain ⟨n0, j0, y0, n1, j1, y1, n2, j2, y2, rfl⟩ := hr.sl9; have H4 : Hid (PO q W w4 ∧ RdP w4 _ P) := ⟨H3.out.1.below hb, hr⟩; clear hb hr CM k0 k1 k2 k3)
                have hb5 : Below w4.heap.size w4 (w4.alloc (.cells #[.string P.nm, .slice n0 j0 y0, .slice n1 j1 y1, .slice n2 j2 y2] 26)) := (Below.refl _ _).alloc (Nat.le_refl _) _
                have hr5 := heap_alloc_new w4 (.cells #[.string P.nm, .slice n0 j0 y0, .slice n1 j1 y1, .slice n2 j2 y2] 26)
                obtain ⟨g5, hg5⟩ : ∃ g5, w4.heap.size = g5 := ⟨_, rfl⟩
                obtain ⟨w5, hw5⟩ : ∃ w5, w4.alloc (.cells #[.string P.nm, .slice n0 j0 y0, .slice n1 j1 y1, .slice n2 j2 y2] 26) = w5 := ⟨_, rfl⟩
                rw [hw5] at hb5 hr5 ⊢
                simp only [hg5] at hr5 ⊢
                have H5 : Hid (PO q W w5) := H4.out.1.below hb5
                have H6 : Hid (RdP w5 (.agg #[.string P.nm, .slice n0 j0 y0, .slice n1 j1 y1, .slice n2 j2 y2]) P) := H4.out.2.below hb5
                have k0 := cell_of_row w5 g5 0 _ _ _ hr5
                have k1 := cell_of_row w5 g5 1 _ _ _ hr5
                have k2 := cell_of_row w5 g5 2 _ _ _ hr5
                have k3 := cell_of_row w5 g5 3 _ _ _ hr5
                simp at k0 k1 k2 k3
                obtain ⟨Pn, hPn⟩ : ∃ Pn, P.nm = Pn := ⟨_, rfl⟩
                rw [hPn] at k0 H6 ⊢
                clear hb5 hr5 hw5 hg5 H4 hPn
                go_wp2_with (with_reducible refine at_list ?_; refine hold_store 26 (.tmp 2) (.tmp 67) rfl ?_)
                refine wpList_store_row rfl 26 (.tmp 2) (.tmp 67) rfl q #[.string Pn, .slice n0 j0 y0, .slice n1 j1 y1, .slice n2 j2 y2] rfl rfl 26 zPR H5.out.hp (ipR _ _ _ _) rfl (by simp [zPR, Value.oneCell']) ?_
                go_wp2
                refine bodyPost_ret (v := .tuple #[.agg #[.string Pn, .slice n0 j0 y0, .slice n1 j1 y1, .slice n2 j2 y2], .int .i64 0]) ?_ rfl ⟨below_setRow H5.out.old _ (Nat.le_refl _) _, .agg #[.string Pn, .slice n0 j0 y0, .slice n1 j1 y1, .slice n2 j2 y2], by rw [HR'.out], by rw [HR'.out]; exact rdp_row H6.out H5.out⟩
                exact results_row_tmp (P := Tryz.prog) (fn := Tryz.f7) (p := 2) (u := 3) (ty := 26) rfl _ _ q 26 _ (0, 0) _ _ rfl (setRow_heap _ _ _ _ 26 _ H5.out.hp) Tryz.underlying26 rfl (ipR _ _ _ _) rfl
              · have HNO : Hid (nprs t = (zPt, 13)) := by show nprs t = _; rw [HR.out, if_pos hc]
                have c1 : ((c : Int) == 0) = false := by simpa using hc
                have c2 : (c != 0) = true := by simpa using hc
                clear hc HR
                go_upto_region 14 with (go_at_call 20; refine CM.mono ?_; rintro e w4 ⟨hb, v, rfl, hr⟩; obtain ⟨n0, j0, y0, n1, j1, y1, n2, j2, y2, rfl⟩ := hr.sl9; have H4 : Hid (PO q W w4) := H3.out.1.below hb; clear hb hr CM k0 k1 k2 k3)
                have h5 : PO q W (w4.alloc (.cells #[.string P.nm, .slice n0 j0 y0, .slice n1 j1 y1, .slice n2 j2 y2] 26)) := H4.out.below ((Below.refl _ _).alloc (Nat.le_refl _) _)
                obtain ⟨w5, hw5⟩ : ∃ w5, w4.alloc (.cells #[.string P.nm, .slice n0 j0 y0, .slice n1 j1 y1, .slice n2 j2 y2] 26) = w5 := ⟨_, rfl⟩
                rw [hw5] at h5 ⊢
                have H5 : Hid (PO q W w5) := h5
                clear h5 hw5
                go_wp2_with (with_reducible refine at_list ?_; refine hold_store 26 (.tmp 2) (.tmp 66) rfl ?_)
                refine wpList_store_row rfl 26 (.tmp 2) (.tmp 66) rfl q zPR rfl rfl 26 zPR H5.out.hp (ipR _ _ _ _) rfl (by simp [zPR, Value.oneCell']) ?_
                go_wp2
                refine bodyPost_ret (v := .tuple #[.agg zPR, .int .i64 13]) ?_ rfl ⟨below_setRow H5.out.old _ (Nat.le_refl _) _, .agg zPR, by rw [HNO.out], by rw [HNO.out]; exact (ftp_zero _ _).rd (S := fun _ => True)⟩
                exact results_row_tmp (P := Tryz.prog) (fn := Tryz.f7) (p := 2) (u := 3) (ty := 26) rfl _ _ q 26 _ (0, 0) _ _ rfl (setRow_heap _ _ _ _ 26 _ H5.out.hp) Tryz.underlying26 rfl (ipR _ _ _ _) rfl
end Go.Proofs.YtchnkpgkckadmaaGreatDoor
