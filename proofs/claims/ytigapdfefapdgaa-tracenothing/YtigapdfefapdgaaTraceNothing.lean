import Derived.Test.YtigapdfefapdgaaTraceOp
import Derived.Test.YtigapdfefapdgaaChecked
namespace Go.Proofs.Ytigapdfefapdgaa
set_option linter.unusedSimpArgs false
open Go.ChangeShapes Go.WideShapes Go.ChangeAt Go.RowKit Go.Pin
theorem nil_owns_len {w : World} {b : Nat} {e : TypeId} {size : Nat} {v : Value} {xs : List Value} (h : w.ownsRow b e size v 0 xs) : ∃ a c, v = .slice a 0 c := owns_len h
set_option maxRecDepth 100000 in
set_option maxHeartbeats 1000000 in
theorem nothing_walk (vl : Value) (l : List (Int × Int × Bool)) (w : World) (ha : Sl w vl 3 (stC l) l.length) :
    Calls Try.prog 4 #[vl] w fun e w' => e = .returned (.bool true) ∧ Below w.heap.size w w' := by
  obtain ⟨_, aa, ca, rfl, _, ha⟩ := ha
  have HA : Hid _ := ha
  clear ha
  generalize hn : l.length = n at *
  have HL : Hid _ := hn
  clear hn
  go_enter Try.func4, Try.ntmps4
  go_wp2
  go_loopw [4] (fun iv wr => ∃ i : Nat, i ≤ n ∧ i ≤ 2000 ∧ iv = .int .i64 i ∧ Below w.heap.size w wr) (fun iv _ => 2000 - (intOf iv).toNat)
  case atStart => exact ⟨0, Nat.zero_le _, by omega, rfl, Below.refl _ _⟩
  case round =>
    obtain ⟨i, hin, hi2, rfl, hbel⟩ := hrel
    by_cases hlt : i < n ∧ i < 2000
    · obtain ⟨hlt, hl2⟩ := hlt
      rcases HA.out with h0 | ⟨ba, oa, rfl, hca⟩
      · omega
      obtain ⟨⟨xk, xv, xb⟩, e1⟩ : ∃ x, l[i]? = some x := ⟨_, List.getElem?_eq_getElem (by rw [HL.out]; exact hlt)⟩
      obtain ⟨p1, p2, p3⟩ := stC_at l i _ e1
      have c1 := hca _ _ p1
      have c2 := hca _ _ p2
      have c3 := hca _ _ p3
      simp only at c1 c2 c3
      rw [← Nat.add_assoc] at c2 c3
      have d1 : wr.cell? ⟨ba, oa + i * 3, none⟩ = some (.int .i64 xk) := (hbel.cell (World.block_lt_of_cell? w _ c1)).trans c1
      have d2 : wr.cell? ⟨ba, oa + i * 3 + 1, none⟩ = some (.int .i64 xv) := (hbel.cell (World.block_lt_of_cell? w _ c2)).trans c2
      have d3 : wr.cell? ⟨ba, oa + i * 3 + 2, none⟩ = some (.bool xb) := (hbel.cell (World.block_lt_of_cell? w _ c3)).trans c3
      have HB : Hid (Below w.heap.size w wr) := hbel
      clear hca p1 p2 p3 c1 c2 c3 hbel e1 HA
      go_wp2_with (first
        | (go_at_call 10; refine (llog_nil xk xv xb _).mono ?_; rintro e w1 ⟨rfl, hb⟩; have d1 := (hb.cell (World.block_lt_of_cell? _ _ d1)).trans d1; have d2 := (hb.cell (World.block_lt_of_cell? _ _ d2)).trans d2; have d3 := (hb.cell (World.block_lt_of_cell? _ _ d3)).trans d3)
        | (go_at_call 12; refine (asks_any _ _ _ [] xk xv xb _ (recO_nil _) (sl_of_owns (World.ownsRow_nil _ 0 37 2)) (by decide)).mono ?_; rintro e w2 ⟨rfl, hb2⟩))
      go_roundw
      case rel =>
        have hb3 := hb.trans (hb2.mono hb.size)
        exact ⟨i + 1, by omega, by omega, by go_num, HB.out.trans (hb3.mono HB.out.size)⟩
      case measure => simp [intOf]; omega
    · have HB : Hid (Below w.heap.size w wr) := hbel
      clear hbel HA
      have fin : ∀ (_ : Unit), (i < n → i = 2000) := fun _ h => by omega
      by_cases h2 : i < n
      · have h3 : i = 2000 := fin () h2
        clear fin
        subst h3
        go_wp2_with (first
          | (go_at_call 14; refine (total_any _ _ [] _ (recO_nil _)).mono ?_; rintro e w1 ⟨rfl, rfl⟩)
          | (go_at_call 15; refine (tEvents_any _ _ [] (by decide) _ (recO_nil _)).mono ?_; rintro e w2 ⟨u, rfl, hu, B2⟩; obtain ⟨ua, uc, rfl⟩ := nil_owns_len hu; clear hu)
          | (go_at_call 16; refine (tRuns_any _ _ [] (by decide) _ (recO_nil _)).mono ?_; rintro e w3 ⟨u, rfl, hu, B3⟩; obtain ⟨ua3, uc3, rfl⟩ := nil_owns_len hu; clear hu)
          | (go_at_call 13; refine (known_any _).mono ?_; rintro e w4 ⟨rfl, B4⟩))
        go_ret
        have B5 := B2.trans (B3.mono B2.size)
        have B6 := B5.trans (B4.mono B5.size)
        exact ⟨rfl, HB.out.trans (B6.mono HB.out.size)⟩
      · have h3 : ¬ (i : Int) < (n : Int) := by omega
        clear hlt fin
        go_wp2_with (first
          | (go_at_call 14; refine (total_any _ _ [] _ (recO_nil _)).mono ?_; rintro e w1 ⟨rfl, rfl⟩)
          | (go_at_call 15; refine (tEvents_any _ _ [] (by decide) _ (recO_nil _)).mono ?_; rintro e w2 ⟨u, rfl, hu, B2⟩; obtain ⟨ua, uc, rfl⟩ := nil_owns_len hu; clear hu)
          | (go_at_call 16; refine (tRuns_any _ _ [] (by decide) _ (recO_nil _)).mono ?_; rintro e w3 ⟨u, rfl, hu, B3⟩; obtain ⟨ua3, uc3, rfl⟩ := nil_owns_len hu; clear hu)
          | (go_at_call 13; refine (known_any _).mono ?_; rintro e w4 ⟨rfl, B4⟩))
        go_ret
        have B5 := B2.trans (B3.mono B2.size)
        have B6 := B5.trans (B4.mono B5.size)
        exact ⟨rfl, HB.out.trans (B6.mono HB.out.size)⟩

set_option maxRecDepth 100000 in
theorem nothing_lifted (os : Os) (started : os.Started) (H : Type) (enc : TypeId × Value → H) :
    ReturnsInHanded {} Try.checked os 4 .any (Rows.traceNothingSpec.pre6 enc Try.prog Try.f4 Rows.traceNothingRow.domain false) (Rows.traceNothingSpec.post enc Try.prog Try.f4 false true false false) := by
  refine returnsInHanded_of_change_sized (C := Try.checked) own started (by kernel_rfl) Try.func4
    (ChangeSpec.witness6 (enc := enc) (C := Try.checked) false ⟨#[], #[.slice none 0 0], []⟩ 8 (by kernel_rfl) (by kernel_rfl) (by kernel_rfl) (by kernel_rfl)) ?_
  intro W base args ds gs before hval0 hW hcnd hsz0 _
  clear hsz0
  have hval : ∀ (j : Nat) t v, Try.f4.params[j]? = some t → args[j]? = some v → Value.okWide Try.prog W .any base t v := hval0
  have hW' := hW
  obtain ⟨p, q, hA0, hV, rfl, hfz, hnd⟩ := hW
  have hA : DataW.TrodAll enc Try.prog W 0 (fun _ => true) true Try.f4.params.toList args.toList ds p := hA0
  rw [Try.params4] at hA hval
  have hAll := fun W' (hb : Below W.heap.size W W') => trodAll_below laidOut hb _ _ _ _ (by kernel_rfl) hA
  obtain ⟨v0, vs0, d0, ds0, p0, q0, hargs, rfl, rfl, h0, r0⟩ := trodAll_cons hA
  obtain ⟨rfl, rfl, rfl⟩ := trodAll_nil r0
  obtain rfl : args = #[v0] := by cases args; simp_all
  obtain ⟨rfl, rfl⟩ := trodVars_none hV
  obtain ⟨a0, len0, cap0, rfl⟩ := okWide_slice Try.underlying22 (hval 0 22 v0 rfl rfl)
  obtain ⟨z0, rfl, w0⟩ := open_script h0
  clear hA0 hval0
  refine (nothing_walk _ z0 W w0).mono fun e W' ⟨he, bel⟩ => ?_
  subst he
  exact ⟨_, rfl, _, _, _, [], _, [], hW', trodAll_mk1 (shut_bool Try.underlying4 _), hAll W' bel, rfl, bel.frame _, fun h => by cases h⟩

theorem nothing_proved : Rows.TraceNothingSaid :=
  OpenClaim.holds_of_wide 4 Try.f4 rfl rfl rfl rfl rfl rfl rfl ⟨rfl, rfl, rfl, rfl, rfl⟩ rfl rfl rfl rfl rfl (by kernel_rfl) Try.func4 (by kernel_rfl)
    (of_decide_eq_true (by kernel_rfl)) (by unfold Func.isWrapper; first | (rw [if_pos (by decide +kernel)]; kernel_rfl) | (rw [if_neg (by decide +kernel)]; exact ⟨rfl, rfl⟩))
    (fun os started H enc _ => nothing_lifted os started H enc)
end Go.Proofs.Ytigapdfefapdgaa
