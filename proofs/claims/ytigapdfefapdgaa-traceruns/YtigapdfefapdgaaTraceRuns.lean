import Derived.Test.YtigapdfefapdgaaTraceEx
import Derived.Test.YtigapdfefapdgaaChecked
namespace Go.Proofs.Ytigapdfefapdgaa
set_option linter.unusedSimpArgs false
open Go.ChangeShapes Go.WideShapes Go.ChangeAt Go.RowKit Go.Pin
theorem evs_at (M : List (Int × Int × Int)) (i : Nat) (x : Int × Int × Int) (h : M[i]? = some x) : (evs M)[i]? = some (x.1, x.2.1) := by simp [evs, h]
set_option maxRecDepth 100000 in
set_option maxHeartbeats 4000000 in
theorem runs_walk (vl : Value) (l : List (Int × Int × Bool)) (w : World) (ha : Sl w vl 3 (stC l) l.length) :
    Calls Try.prog 7 #[vl] w fun e w' => e = .returned (.bool true) ∧ Below w.heap.size w w' := by
  have HS : Hid (Sl w vl 3 (stC l) l.length) := ha
  have HF : Hid (∀ _ : Unit, _) := fun _ => filled_any vl l w ha
  clear ha
  obtain ⟨A, hA⟩ : ∃ A, lg (l.take 2000) = A := ⟨_, rfl⟩
  have lA : A.length ≤ 2000 := by rw [← hA]; exact lg_bd l (Nat.le_refl _)
  have HA : Hid _ := hA
  obtain ⟨M, hM⟩ : ∃ M, rn A = M := ⟨_, rfl⟩
  have HM : Hid _ := hM
  have hgood := rn_good A
  have hbd := rn_bound A
  rw [hM] at hgood hbd
  have lM : M.length ≤ 2000 := by have := hbd.1; omega
  have HG : Hid (_ ∧ _) := hgood
  have HBD : Hid (_ ∧ _) := hbd
  clear hA hM hgood hbd
  go_enter Try.func7, Try.ntmps7
  go_wp2_with (first
    | (go_at_call 17
       refine (HF.out ()).mono ?_
       clear HF
       rintro e w1 ⟨rfl, ⟨vs, R1⟩, B1⟩
       rw [HA.out] at R1
       have HR1 : Hid (RecO w1 (.pointer (some ⟨w.heap.size, 0, none⟩)) vs A) := R1.opt
       have HB1 : Hid (Below w.heap.size w w1) := B1
       clear R1 B1)
    | (go_at_call 15
       refine (tEvents_any _ vs A (by omega) w1 HR1.out).mono ?_
       rintro e w2 ⟨u, rfl, hu, B2⟩
       have HU : Hid (Sl w2 u 2 (evC A) A.length) := sl_of_owns hu
       have HR2 : Hid (RecO w2 (.pointer (some ⟨w.heap.size, 0, none⟩)) vs A) := HR1.out.below B2
       have HB2 : Hid (Below w.heap.size w w2) := HB1.out.trans (B2.mono HB1.out.size)
       clear hu B2 HR1 HB1)
    | (go_at_call 16
       refine (tRuns_any _ vs A (by omega) w2 HR2.out).mono ?_
       rintro e w3 ⟨m, rfl, hm, B3⟩
       rw [HM.out] at hm
       have HV : Hid (Sl w3 m 3 (rnC M) M.length) := sl_of_owns hm
       have HU3 : Hid (Sl w3 u 2 (evC A) A.length) := sl_below B3 HU.out
       have HR3 : Hid (RecO w3 (.pointer (some ⟨w.heap.size, 0, none⟩)) vs A) := HR2.out.below B3
       have HB3 : Hid (Below w.heap.size w w3) := HB2.out.trans (B3.mono HB2.out.size)
       clear hm B3 HR2 HB2 HU))
  obtain ⟨ua, uc, rfl⟩ := sl_len HU3.out
  obtain ⟨ma, mc, rfl⟩ := sl_len HV.out
  go_wp2
  go_loopw [7, 8] (fun av iv wr => ∃ i m : Nat, i ≤ M.length ∧ av = .int .i64 ((ex (M.take i)).length : Nat) ∧ iv = .int .i64 i ∧ wr = w3.drewN m) (fun _ iv _ => M.length - (intOf iv).toNat)
  case atStart => exact ⟨0, 0, Nat.zero_le _, rfl, rfl, rfl⟩
  case round =>
    obtain ⟨i, m, hi, rfl, rfl, rfl⟩ := hrel
    by_cases hlt : i < M.length
    · obtain ⟨⟨k, v, t⟩, e1⟩ : ∃ x, M[i]? = some x := ⟨_, List.getElem?_eq_getElem hlt⟩
      have ht := HBD.out.2 (k, v, t) (List.mem_of_getElem? e1)
      have ht1 := ht.1
      have ht2 := ht.2
      simp only at ht1 ht2
      obtain ⟨_, _, _, hsv, _, hrd⟩ := HV.out
      cases hsv
      rcases hrd with h0 | ⟨b, o', rfl, hc⟩
      · omega
      obtain ⟨p1, p2, p3⟩ := rnC_at M i _ e1
      have d1 := hc _ _ p1
      have d2 := hc _ _ p2
      have d3 := hc _ _ p3
      simp only at d1 d2 d3
      rw [← Nat.add_assoc] at d2 d3
      have hex := ex_at M i k v t e1
      have HSTEP : Hid _ := ex_step M i k v t e1
      rw [HG.out.1] at hex
      have HLT : Hid (∀ j, j < t.toNat → (ex (M.take i)).length + j < A.length) := fun j hj => (List.getElem?_eq_some_iff.1 (hex j hj)).1
      have hln : t.toNat ≤ 2000 := by omega
      have hol : (ex (M.take i)).length ≤ 2000 := by have := HLT.out 0 (by omega); omega
      obtain ⟨_, _, _, hsu, _, hru⟩ := HU3.out
      cases hsu
      rcases hru with h0 | ⟨bu, ou, rfl, hcu⟩
      · have := HLT.out 0 (by omega)
        omega
      have HEL : Hid (∀ j, j < t.toNat → w3.cell? ⟨bu, ou + ((ex (M.take i)).length + j) * 2, none⟩ = some (.int .i64 k) ∧ w3.cell? ⟨bu, ou + ((ex (M.take i)).length + j) * 2 + 1, none⟩ = some (.int .i64 v)) := by
        intro j hj
        obtain ⟨s1, s2⟩ := evC_at A _ _ (hex j hj)
        exact ⟨hcu _ _ s1, by rw [Nat.add_assoc]; exact hcu _ _ s2⟩
      have hnt : decide (t < 1) = false := decide_eq_false (by omega)
      by_cases hz : i = 0
      · subst hz
        clear hc p1 p2 p3 hex hcu e1 ht
        simp only [Nat.zero_mul, Nat.add_zero] at d1 d2 d3
        generalize (ex (M.take 0)).length = o at *
        go_wp2
        go_quiet (fail)
        go_wp2
        go_loopw [7, 9] (fun av kv wq => ∃ j m2 p : Nat, p = o + j ∧ j ≤ t.toNat ∧ av = .int .i64 p ∧ kv = .int .i64 j ∧ wq = w3.drewN m2) (fun _ kv _ => t.toNat - (intOf kv).toNat)
        case atStart => exact ⟨0, _, o, rfl, Nat.zero_le _, rfl, rfl, drewN_add _ _ _⟩
        case round =>
          obtain ⟨j, m2, p, hp, hj, rfl, rfl, rfl⟩ := hrel
          by_cases hjt : j < t.toNat
          · obtain ⟨f1, f2⟩ := HEL.out j hjt
            have g1 : (j : Int) < t := by omega
            rw [← hp] at f1 f2
            have g2 : decide (A.length ≤ p) = false := decide_eq_false (by have := HLT.out j hjt; omega)
            have g3 : p < A.length := by have := HLT.out j hjt; omega
            have HPP : Hid _ := hp
            clear hp
            go_wp2
            go_quiet (fail)
            go_wp2
            go_roundw
            case rel => exact ⟨j + 1, _, p + 1, by have := HPP.out; omega, by omega, by go_num, by go_num, rfl⟩
            case measure => simp [intOf]; omega
          · have hje : j = t.toNat := by omega
            have g1 : ¬ (j : Int) < t := by omega
            go_wp2
            go_roundw
            case rel => exact ⟨0 + 1, _, by omega, by rw [HSTEP.out, ← hje, ← hp], by go_num, rfl⟩
            case measure => simp [intOf]; omega
      · obtain ⟨i1, hi1⟩ : ∃ i1, i = i1 + 1 := ⟨i - 1, by omega⟩
        obtain ⟨⟨k0, v0, t0⟩, e0⟩ : ∃ x, M[i1]? = some x := ⟨_, List.getElem?_eq_getElem (by omega)⟩
        obtain ⟨p01, p02, _⟩ := rnC_at M i1 _ e0
        have d01 := hc _ _ p01
        have d02 := hc _ _ p02
        simp only at d01 d02
        rw [← Nat.add_assoc] at d02
        have hadj := HG.out.2 i1 _ _ (evs_at M i1 _ e0) (evs_at M (i1 + 1) _ (by rw [← hi1]; exact e1))
        have hwj : wrap64 ((i : Int) - 1) = i1 := by unfold wrap64; omega
        have hwk : IntKind.i64.wrap ((i : Int) - 1) = i1 := by rw [IntKind.wrap_i64]; omega
        have hz0 : decide (0 < i) = true := decide_eq_true (by omega)
        have hi1l : i1 < M.length := by omega
        clear hc p1 p2 p3 hex hcu e1 ht p01 p02 e0 hi1
        generalize (ex (M.take i)).length = o at *
        by_cases hk : k = k0
        · have hv : (v == v0) = false := by
            simp only [beq_eq_false_iff_ne, ne_eq]
            intro hv
            exact hadj (by rw [hk, hv])
          subst hk
          clear hadj
          go_wp2
          go_quiet (fail)
          go_wp2
          go_loopw [7, 9] (fun av kv wq => ∃ j m2 p : Nat, p = o + j ∧ j ≤ t.toNat ∧ av = .int .i64 p ∧ kv = .int .i64 j ∧ wq = w3.drewN m2) (fun _ kv _ => t.toNat - (intOf kv).toNat)
          case atStart => exact ⟨0, _, o, rfl, Nat.zero_le _, rfl, rfl, drewN_add _ _ _⟩
          case round =>
            obtain ⟨j, m2, p, hp, hj, rfl, rfl, rfl⟩ := hrel
            by_cases hjt : j < t.toNat
            · obtain ⟨f1, f2⟩ := HEL.out j hjt
              have g1 : (j : Int) < t := by omega
              rw [← hp] at f1 f2
              have g2 : decide (A.length ≤ p) = false := decide_eq_false (by have := HLT.out j hjt; omega)
              have g3 : p < A.length := by have := HLT.out j hjt; omega
              have HPP : Hid _ := hp
              clear hp
              go_wp2
              go_quiet (fail)
              go_wp2
              go_roundw
              case rel => exact ⟨j + 1, _, p + 1, by have := HPP.out; omega, by omega, by go_num, by go_num, rfl⟩
              case measure => simp [intOf]; omega
            · have hje : j = t.toNat := by omega
              have g1 : ¬ (j : Int) < t := by omega
              go_wp2
              go_roundw
              case rel => exact ⟨i + 1, _, by omega, by rw [HSTEP.out, ← hje, ← hp], by go_num, rfl⟩
              case measure => simp [intOf]; omega
        · have hk' : (k == k0) = false := by simp [hk]
          clear hadj hk
          go_wp2
          go_quiet (fail)
          go_wp2
          go_loopw [7, 9] (fun av kv wq => ∃ j m2 p : Nat, p = o + j ∧ j ≤ t.toNat ∧ av = .int .i64 p ∧ kv = .int .i64 j ∧ wq = w3.drewN m2) (fun _ kv _ => t.toNat - (intOf kv).toNat)
          case atStart => exact ⟨0, _, o, rfl, Nat.zero_le _, rfl, rfl, drewN_add _ _ _⟩
          case round =>
            obtain ⟨j, m2, p, hp, hj, rfl, rfl, rfl⟩ := hrel
            by_cases hjt : j < t.toNat
            · obtain ⟨f1, f2⟩ := HEL.out j hjt
              have g1 : (j : Int) < t := by omega
              rw [← hp] at f1 f2
              have g2 : decide (A.length ≤ p) = false := decide_eq_false (by have := HLT.out j hjt; omega)
              have g3 : p < A.length := by have := HLT.out j hjt; omega
              have HPP : Hid _ := hp
              clear hp
              go_wp2
              go_quiet (fail)
              go_wp2
              go_roundw
              case rel => exact ⟨j + 1, _, p + 1, by have := HPP.out; omega, by omega, by go_num, by go_num, rfl⟩
              case measure => simp [intOf]; omega
            · have hje : j = t.toNat := by omega
              have g1 : ¬ (j : Int) < t := by omega
              go_wp2
              go_roundw
              case rel => exact ⟨i + 1, _, by omega, by rw [HSTEP.out, ← hje, ← hp], by go_num, rfl⟩
              case measure => simp [intOf]; omega
    · have hie : i = M.length := by omega
      have hat : (ex (M.take i)).length = A.length := by rw [hie, List.take_length, HG.out.1]
      rw [hat]
      have hnl : ¬ (i : Int) < (M.length : Int) := by omega
      clear hat
      go_wp2_with (first
        | (go_at_call 14
           refine (total_any _ vs A _ (HR3.out.below (dn _))).mono ?_
           rintro e w4 ⟨rfl, hw4⟩
           subst hw4)
        | (go_at_call 18
           refine (logs_any _ l _ (sl_below (below_drewN' HB3.out _) HS.out)).mono ?_
           rintro e w5 ⟨q, rfl, hq, B5⟩
           rw [HA.out] at hq
           obtain ⟨qa, qc, rfl⟩ := owns_len hq
           have HB5 : Hid (Below w.heap.size w w5) := HB3.out.trans ((show Below w3.heap.size w3 w5 from (dn _).trans B5).mono HB3.out.size)
           clear hq B5)
        | (go_at_call 13
           refine (known_any _).mono ?_
           rintro e w6 ⟨rfl, B6⟩))
      go_ret
      exact ⟨by simp, HB5.out.trans (B6.mono HB5.out.size)⟩

set_option maxRecDepth 100000 in
theorem runs_lifted (os : Os) (started : os.Started) (H : Type) (enc : TypeId × Value → H) :
    ReturnsInHanded {} Try.checked os 7 .any (Rows.traceRunsSpec.pre6 enc Try.prog Try.f7 Rows.traceRunsRow.domain false) (Rows.traceRunsSpec.post enc Try.prog Try.f7 false true false false) := by
  refine returnsInHanded_of_change_sized (C := Try.checked) own started (by kernel_rfl) Try.func7
    (ChangeSpec.witness6 (enc := enc) (C := Try.checked) false ⟨#[], #[.slice none 0 0], []⟩ 8 (by kernel_rfl) (by kernel_rfl) (by kernel_rfl) (by kernel_rfl)) ?_
  intro W base args ds gs before hval0 hW hcnd hsz0 _
  clear hsz0
  have hval : ∀ (j : Nat) t v, Try.f7.params[j]? = some t → args[j]? = some v → Value.okWide Try.prog W .any base t v := hval0
  have hW' := hW
  obtain ⟨p, q, hA0, hV, rfl, hfz, hnd⟩ := hW
  have hA : DataW.TrodAll enc Try.prog W 0 (fun _ => true) true Try.f7.params.toList args.toList ds p := hA0
  rw [Try.params7] at hA hval
  have hAll := fun W' (hb : Below W.heap.size W W') => trodAll_below laidOut hb _ _ _ _ (by kernel_rfl) hA
  obtain ⟨v0, vs0, d0, ds0, p0, q0, hargs, rfl, rfl, h0, r0⟩ := trodAll_cons hA
  obtain ⟨rfl, rfl, rfl⟩ := trodAll_nil r0
  obtain rfl : args = #[v0] := by cases args; simp_all
  obtain ⟨rfl, rfl⟩ := trodVars_none hV
  obtain ⟨a0, len0, cap0, rfl⟩ := okWide_slice Try.underlying22 (hval 0 22 v0 rfl rfl)
  obtain ⟨z0, rfl, w0⟩ := open_script h0
  clear hA0 hval0
  refine (runs_walk _ z0 W w0).mono fun e W' ⟨he, bel⟩ => ?_
  subst he
  exact ⟨_, rfl, _, _, _, [], _, [], hW', trodAll_mk1 (shut_bool Try.underlying4 _), hAll W' bel, rfl, bel.frame _, fun h => by cases h⟩

theorem runs_proved : Rows.TraceRunsSaid :=
  OpenClaim.holds_of_wide 7 Try.f7 rfl rfl rfl rfl rfl rfl rfl ⟨rfl, rfl, rfl, rfl, rfl⟩ rfl rfl rfl rfl rfl (by kernel_rfl) Try.func7 (by kernel_rfl)
    (of_decide_eq_true (by kernel_rfl)) (by unfold Func.isWrapper; first | (rw [if_pos (by decide +kernel)]; kernel_rfl) | (rw [if_neg (by decide +kernel)]; exact ⟨rfl, rfl⟩))
    (fun os started H enc _ => runs_lifted os started H enc)
end Go.Proofs.Ytigapdfefapdgaa
