import Derived.Test.YtefnlaookmpbhaaTrD
namespace Go.Proofs.Ytefnlaookmpbhaa
set_option linter.unusedSimpArgs false
open Go.ChangeShapes Go.WideShapes Go.ChangeAt Go.RowKit Go.Pin
set_option maxRecDepth 100000 in
set_option maxHeartbeats 1000000 in
theorem rsame_any (va vb : Value) (l : List (Int × Int)) (w : World) (ha : Sl w va 2 (evC l) l.length) (hb : Sl w vb 2 (evC l) l.length) (hl : l.length ≤ 1000000000) :
    Calls Try.prog 12 #[va, vb] w fun e w' => e = .returned (.bool true) ∧ ∃ n, w' = w.drewN n := by
  obtain ⟨_, aa, ca, rfl, _, ha⟩ := ha
  obtain ⟨_, ab, cb, rfl, _, hb⟩ := hb
  have HA : Hid _ := ha
  have HB : Hid _ := hb
  clear ha hb
  generalize hn : l.length = n at *
  have HL : Hid _ := hn
  clear hn
  go_enter Try.func12, Try.ntmps12
  go_wp2
  go_loopw [5] (fun v wr => ∃ i m : Nat, i ≤ n ∧ v = .int .i64 i ∧ wr = w.drewN m) (fun v _ => n - (intOf v).toNat)
  case atStart => exact ⟨0, 0, Nat.zero_le _, rfl, rfl⟩
  case round =>
    obtain ⟨i, m, hi, rfl, rfl⟩ := hrel
    by_cases hlt : i < n
    · rcases HA.out with h0 | ⟨ba, oa, rfl, hca⟩
      · omega
      rcases HB.out with h0 | ⟨bb, ob, rfl, hcb⟩
      · omega
      obtain ⟨⟨xk, xv⟩, e1⟩ : ∃ x, l[i]? = some x := ⟨_, List.getElem?_eq_getElem (by rw [HL.out]; exact hlt)⟩
      obtain ⟨p1, p2⟩ := evC_at l i _ e1
      have c1 := hca _ _ p1
      have c2 := hca _ _ p2
      have c3 := hcb _ _ p1
      have c4 := hcb _ _ p2
      clear hca hcb p1 p2 e1 HA HB
      simp only at c1 c2 c3 c4
      rw [← Nat.add_assoc] at c2 c4
      go_wp2
      go_quiet (fail)
      go_wp2
      go_roundw
      case rel => exact ⟨i + 1, _, by omega, by go_num, rfl⟩
      case measure => simp [intOf]; omega
    · have hi' : i = n := by omega
      subst hi'
      go_wp2
      go_ret
      exact ⟨rfl, _, rfl⟩
end Go.Proofs.Ytefnlaookmpbhaa
