import Derived.Test.YtfobiejgkdbidabTraceRn
import Derived.Test.YtfobiejgkdbidabTraceLg
namespace Go.Proofs.Ytfobiejgkdbidab
set_option linter.unusedSimpArgs false
open Go.ChangeShapes Go.WideShapes Go.ChangeAt Go.RowKit Go.Pin
theorem sl_len {w : World} {v : Value} {sz n : Nat} {cs : List Value} (h : Sl w v sz cs n) : ∃ a c, v = .slice a n c := by
  obtain ⟨_, a, c, rfl, _⟩ := h
  exact ⟨a, c, rfl⟩
theorem owns_len {w : World} {b : Nat} {e : TypeId} {size : Nat} {v : Value} {n : Nat} {xs : List Value} (h : w.ownsRow b e size v n xs) : ∃ a c, v = .slice a n c := sl_len (sl_of_owns h)
set_option maxRecDepth 100000 in
set_option maxHeartbeats 1000000 in
theorem filled_any (vl : Value) (l : List (Int × Int × Bool)) (w : World) (ha : Sl w vl 3 (stC l) l.length) :
    Calls Try.prog 4 #[vl] w fun e w' => e = .returned (.tuple #[.pointer (some ⟨w.heap.size, 0, none⟩), .bool true]) ∧ (∃ vs, Rec w.heap.size w' w.heap.size vs (lg (l.take 2000))) ∧ Below w.heap.size w w' := by
  obtain ⟨_, aa, ca, rfl, _, ha⟩ := ha
  have HA : Hid _ := ha
  clear ha
  generalize hn : l.length = n at *
  have HL : Hid _ := hn
  clear hn
  go_enter Try.func4, Try.ntmps4
  go_wp2_with (go_at_call 12; refine (new_any _).mono ?_; rintro e w' ⟨rfl, rfl⟩)
  go_loopw [5, 6] (fun ov iv wr => ∃ (i : Nat) (vs : Value), i ≤ n ∧ i ≤ 2000 ∧ ov = .bool true ∧ iv = .int .i64 i ∧ Rec w.heap.size wr w.heap.size vs (lg (l.take i)) ∧ Below w.heap.size w wr) (fun _ iv _ => 2000 - (intOf iv).toNat)
  case atStart => exact ⟨0, _, Nat.zero_le _, by omega, rfl, rfl, rec_new w, (Below.refl _ w).alloc (Nat.le_refl _) _⟩
  case round =>
    obtain ⟨i, vs, hin, hi2, rfl, rfl, hrec, hbel⟩ := hrel
    by_cases hlt : i < n ∧ i < 2000
    · obtain ⟨hlt, hl2⟩ := hlt
      rcases HA.out with h0 | ⟨ba, oa, rfl, hca⟩
      · omega
      obtain ⟨⟨xk, xv, xb⟩, e1⟩ : ∃ x, l[i]? = some x := ⟨_, List.getElem?_eq_getElem (by rw [HL.out]; exact hlt)⟩
      obtain ⟨p1, p2, p3⟩ := stC_at l i _ e1
      have c1 := hca _ _ p1
      have c2 := hca _ _ p2
      have c3 := hca _ _ p3
      simp only at c1 c2 c3
      rw [← Nat.add_assoc] at c2 c3
      have d1 : wr.cell? ⟨ba, oa + i * 3, none⟩ = some (.int .i64 xk) := (hbel.cell (World.block_lt_of_cell? w _ c1)).trans c1
      have d2 : wr.cell? ⟨ba, oa + i * 3 + 1, none⟩ = some (.int .i64 xv) := (hbel.cell (World.block_lt_of_cell? w _ c2)).trans c2
      have d3 : wr.cell? ⟨ba, oa + i * 3 + 2, none⟩ = some (.bool xb) := (hbel.cell (World.block_lt_of_cell? w _ c3)).trans c3
      have hst := lg_succ l i _ e1
      have hbd := lg_len (l.take i)
      have hti : (l.take i).length = i := by rw [List.length_take, HL.out]; omega
      rw [hti] at hbd
      have HST : Hid _ := hst
      have HB : Hid (Below w.heap.size w wr) := hbel
      have HC : Hid (∀ _ : Unit, _) := fun _ => llog_any w.heap.size w.heap.size vs (lg (l.take i)) xk xv xb wr hrec (by omega)
      have HG : Hid _ := hrec.ge
      clear hca p1 p2 p3 c1 c2 c3 hst hti hbel e1 HA hrec
      go_wp2_with (go_at_call 13; refine (HC.out ()).mono ?_; rintro e w' ⟨rfl, vs', hr', hg', _⟩)
      go_roundw
      case rel =>
        refine ⟨i + 1, vs', by omega, by omega, rfl, by go_num, ?_, ?_⟩
        · rw [HST.out]
          exact hr'
        · exact HB.out.trans (hg'.below HG.out HB.out.size)
      case measure => simp [intOf]; omega
    · have HR : Hid (Rec w.heap.size wr w.heap.size vs (lg (l.take i))) := hrec
      have HB : Hid (Below w.heap.size w wr) := hbel
      have hfin : l.take i = l.take 2000 := by
        by_cases h : i = 2000
        · rw [h]
        · rw [List.take_of_length_le (by rw [HL.out]; omega), List.take_of_length_le (by rw [HL.out]; omega)]
      have HF : Hid _ := hfin
      clear hrec hbel HA hfin
      by_cases h2 : i < n
      · have h3 : i = 2000 := by omega
        subst h3
        go_wp2
        go_ret2
        exact ⟨rfl, ⟨vs, HR.out⟩, HB.out⟩
      · have h3 : ¬ (i : Int) < (n : Int) := by omega
        clear hlt
        go_wp2
        go_ret2
        refine ⟨rfl, ⟨vs, ?_⟩, HB.out⟩
        rw [← HF.out]
        exact HR.out
end Go.Proofs.Ytfobiejgkdbidab
