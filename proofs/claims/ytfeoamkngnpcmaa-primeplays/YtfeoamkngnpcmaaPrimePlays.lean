import Derived.Test.YtfeoamkngnpcmaaPrkO
namespace Go.Proofs.Ytfeoamkngnpcmaa
set_option linter.unusedSimpArgs false
open Go.ChangeShapes Go.WideShapes Go.ChangeAt Go.RowKit Go.Pin Go.Prm
theorem infoStep' (q : Stp) (h1 : Key16 q.2.2.2.2.1) (h2 : Key17 q.2.2.2.2.2) : (Try.prog.info? 41).map (·.size) = some q.cells.length := by
  rw [show q.cells.length = 37 by simp [Stp.cells, stepL, h1.len, h2.len]]; kernel_rfl
set_option maxRecDepth 100000 in
set_option maxHeartbeats 8000000 in
theorem plays_walk (v : Value) (sc : List Stp) (w : World) (h : Scr w v sc) :
    Calls Try.prog 3 #[v] w fun e w' => e = .returned (.bool true) ∧ Below w.heap.size w w' := by
  obtain ⟨a, cp, rfl, hcp, h⟩ := h
  have HSC : Hid (sc = [] ∨ ∃ b o, a = some ⟨b, o, none⟩ ∧ b < w.heap.size ∧ ∀ i q, sc[i]? = some q → w.rangeAt b (o + i * 37) q.cells ∧ Key16 q.2.2.2.2.1 ∧ Key17 q.2.2.2.2.2) := h
  have hzb := zero_bench
  have hzs := benchZ_size
  have hzt := benchZ_set
  clear h
  go_enter Try.func3, Try.ntmps3
  go_wp2_with (fail)
  refine (new_any _).mono ?_
  rintro e w1 ⟨rfl, hw1⟩
  have hs1 := st_new w w.heap.size (Nat.le_refl _)
  have hbe : Below w.heap.size w ((w.alloc (.cells #[.slice none 0 0, .int .i64 0] 57)).alloc (.cells (benchL (.pointer (some ⟨w.heap.size, 0, none⟩))).toArray 36)) := ((Below.refl _ _).alloc (Nat.le_refl _) _).alloc (by simp) _
  rw [← hw1] at hs1 hbe
  have hsz1 : w1.heap.size = w.heap.size + 1 := by rw [hw1]; simp
  obtain ⟨R, hR⟩ : ∃ R, w.heap.size = R := ⟨_, rfl⟩
  rw [hR] at hs1 hbe hsz1 HSC
  simp only [hR]
  obtain ⟨W2, hW2⟩ : ∃ W, w1.alloc (.cells (benchL (.pointer (some ⟨R, 0, none⟩))).toArray 36) = W := ⟨_, rfl⟩
  rw [hW2] at hs1 hbe
  have H2 : Hid (Bw R (R + 1) (.pointer (some ⟨R, 0, none⟩)) (fun _ => 0) [] w W2) := ⟨_, _, _, hs1, num_zeros, hbe⟩
  clear hs1 hbe hw1
  go_wp2_with (fail)
  go_loopw [4] (fun i w' => ∃ k : Nat, k ≤ 3000 ∧ i = .int .i64 k ∧ ∃ ns l, l.length ≤ k ∧ Bw R (R + 1) (.pointer (some ⟨R, 0, none⟩)) ns l w w') (fun i _ => 3000 - (intOf i).toNat)
  case atStart => exact ⟨0, by omega, rfl, _, _, Nat.le_refl _, H2.out⟩
  case round =>
    clear H2 hW2 hsz1
    obtain ⟨k, hk, rfl, hB⟩ := hrel
    have HB : Hid (∃ ns l, l.length ≤ k ∧ Bw R (R + 1) (.pointer (some ⟨R, 0, none⟩)) ns l w wr) := hB
    clear hB
    by_cases hgo : k < sc.length ∧ k < 3000
    · obtain ⟨g1, g2⟩ := hgo
      have g2' : (k : Int) < 3000 := by omega
      obtain ⟨q, hq⟩ : ∃ q, sc[k]? = some q := ⟨_, List.getElem?_eq_getElem g1⟩
      obtain ⟨b, o, rfl, hb, hall⟩ := HSC.out.resolve_left (fun e => by subst e; simp at g1)
      obtain ⟨h1, h2, h3⟩ := hall k q hq
      obtain ⟨ns, l, hl, hbw⟩ := HB.out
      have hbel : Below R w wr := by obtain ⟨_, _, _, _, _, h⟩ := hbw; exact h
      have HRG : Hid (wr.rangeAt b (o + k * 37) q.cells) := range_below (by rw [hR]; exact hbel) (by rw [hR]; exact hb) h1
      have HI : Hid ((Try.prog.info? 41).map (·.size) = some q.cells.length) := infoStep' q h2 h3
      have HSTP : Hid (Calls Try.prog 10 #[.pointer (some ⟨R + 1, 0, none⟩), .agg q.cells.toArray] wr fun e w' => e = .returned (.bool true) ∧ ∃ ns l, l.length ≤ k + 1 ∧ Bw R (R + 1) (.pointer (some ⟨R, 0, none⟩)) ns l w w') := by
        refine (bw_step hbw q.1 q.2.1 q.2.2.1 q.2.2.2.1 h2 h3 (by omega)).mono ?_
        rintro e w' ⟨he, h'⟩
        exact ⟨he, _, _, by have := lgx_len l q.1; omega, h'⟩
      clear hall h1 h2 h3 hbw hbel hl hq HB
      generalize q.cells = QC at *
      go_wp2_with (with_reducible refine at_list ?_; refine wpList_load_mid rfl 41 (.tmp 21) rfl b (o + k * 37) rfl QC _ HRG.out Try.underlying41 rfl HI.out ?_)
      refine HSTP.out.mono ?_
      rintro e W5 ⟨rfl, h5⟩
      have H5 : Hid (∃ ns l, l.length ≤ k + 1 ∧ Bw R (R + 1) (.pointer (some ⟨R, 0, none⟩)) ns l w W5) := h5
      clear h5 HSTP
      go_wp2_with (fail)
      go_roundw
      case rel => exact ⟨k + 1, by omega, by go_num, H5.out⟩
      case measure => simp [intOf]; omega
    · have hex : ¬ k < sc.length ∨ (k < sc.length ∧ ¬ (k : Int) < 3000) := by omega
      clear hgo
      obtain ⟨ns, l, hl, hbw⟩ := HB.out
      have HEN : Hid (Calls Try.prog 11 #[.pointer (some ⟨R + 1, 0, none⟩)] wr fun e w' => e = .returned (.bool true) ∧ Below R w w') := bw_ends hbw (by omega)
      clear hbw hl HB
      rcases hex with g1 | ⟨g1, g2⟩
      all_goals (
        go_wp2_with (fail)
        refine HEN.out.mono ?_
        rintro e W8 ⟨rfl, h8⟩
        have H8 : Hid (Below R w W8) := h8
        clear h8
        go_wp2_with (fail)
        refine (known_f.out _).mono ?_
        rintro e W9 ⟨rfl, h9⟩
        have H9 : Hid (Below W8.heap.size W8 W9) := h9
        clear h9
        go_wp2
        go_ret
        refine ⟨rfl, hR ▸ H8.out.trans (H9.out.mono ?_)⟩
        have := H8.out.size
        omega)
end Go.Proofs.Ytfeoamkngnpcmaa

namespace Go.Proofs.Ytfeoamkngnpcmaa
set_option linter.unusedSimpArgs false
set_option linter.unusedVariables false
open Go.ChangeShapes Go.WideShapes Go.ChangeAt Go.RowKit Go.Pin Go.Prm

set_option maxRecDepth 100000 in
theorem plays_lifted (os : Os) (started : os.Started) (H : Type) (enc : TypeId × Value → H) :
    ReturnsInHanded {} Try.checked os 3 .any (Rows.primePlaysSpec.pre6 enc Try.prog Try.f3 Rows.primePlaysRow.domain false) (Rows.primePlaysSpec.post enc Try.prog Try.f3 false true false false) := by
  refine returnsInHanded_of_change_sized (C := Try.checked) own started (by kernel_rfl) Try.func3
    (ChangeSpec.witness6 (enc := enc) (C := Try.checked) false ⟨#[], #[.slice none 0 0], []⟩ 8 (by kernel_rfl) (by kernel_rfl) (by kernel_rfl) (by kernel_rfl)) ?_
  intro W base args ds gs before hval0 hW hcnd hsz0 _
  clear hsz0
  have hval : ∀ (j : Nat) t v, Try.f3.params[j]? = some t → args[j]? = some v → Value.okWide Try.prog W .any base t v := hval0
  have hW' := hW
  obtain ⟨p, q, hA0, hV, rfl, hfz, hnd⟩ := hW
  have hA : DataW.TrodAll enc Try.prog W 0 (fun _ => true) true Try.f3.params.toList args.toList ds p := hA0
  rw [Try.params3] at hA hval
  have hAll := fun W' (hb : Below W.heap.size W W') => trodAll_below laidOut hb _ _ _ _ (by kernel_rfl) hA
  obtain ⟨v0, vs0, d0, ds0, p0, q0, hargs, rfl, rfl, h0, r0⟩ := trodAll_cons hA
  obtain ⟨rfl, rfl, rfl⟩ := trodAll_nil r0
  obtain rfl : args = #[v0] := by cases args; simp_all
  obtain ⟨rfl, rfl⟩ := trodVars_none hV
  obtain ⟨a0, len0, cap0, rfl⟩ := okWide_slice Try.underlying22 (hval 0 22 v0 rfl rfl)
  obtain ⟨z0, rfl, w0⟩ := open_script h0
  clear hA0 hval0
  refine (plays_walk _ z0 W w0).mono fun e W' ⟨he, bel⟩ => ?_
  subst he
  exact ⟨_, rfl, _, _, _, [], _, [], hW', trodAll_mk1 (shut_bool Try.underlying4 _), hAll W' bel, rfl, bel.frame _, fun h => by cases h⟩

theorem plays_proved : Rows.PrimePlaysSaid :=
  OpenClaim.holds_of_wide 3 Try.f3 rfl rfl rfl rfl rfl rfl rfl ⟨rfl, rfl, rfl, rfl, rfl⟩ rfl rfl rfl rfl rfl (by kernel_rfl) Try.func3 (by kernel_rfl)
    (of_decide_eq_true (by kernel_rfl)) (by unfold Func.isWrapper; first | (rw [if_pos (by decide +kernel)]; kernel_rfl) | (rw [if_neg (by decide +kernel)]; exact ⟨rfl, rfl⟩))
    (fun os started H enc _ => plays_lifted os started H enc)
end Go.Proofs.Ytfeoamkngnpcmaa
