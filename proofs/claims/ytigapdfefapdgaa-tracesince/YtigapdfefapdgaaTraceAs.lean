import Derived.Test.YtigapdfefapdgaaTraceGn
import Derived.Test.YtigapdfefapdgaaTraceRn
import Derived.Test.YtigapdfefapdgaaTraceLg
namespace Go.Proofs.Ytigapdfefapdgaa
set_option linter.unusedSimpArgs false
open Go.ChangeShapes Go.WideShapes Go.ChangeAt Go.RowKit Go.Pin
theorem sl_len {w : World} {v : Value} {sz n : Nat} {cs : List Value} (h : Sl w v sz cs n) : ∃ a c, v = .slice a n c := by
  obtain ⟨_, a, c, rfl, _⟩ := h
  exact ⟨a, c, rfl⟩
theorem owns_len {w : World} {b : Nat} {e : TypeId} {size : Nat} {v : Value} {n : Nat} {xs : List Value} (h : w.ownsRow b e size v n xs) : ∃ a c, v = .slice a n c := sl_len (sl_of_owns h)
set_option maxRecDepth 100000 in
set_option maxHeartbeats 1000000 in
theorem filled_any (vl : Value) (l : List (Int × Int × Bool)) (w : World) (ha : Sl w vl 3 (stC l) l.length) :
    Calls Try.prog 17 #[vl] w fun e w' => e = .returned (.tuple #[.pointer (some ⟨w.heap.size, 0, none⟩), .bool true]) ∧ (∃ vs, Rec w.heap.size w' w.heap.size vs (lg (l.take 2000))) ∧ Below w.heap.size w w' := by
  obtain ⟨_, aa, ca, rfl, _, ha⟩ := ha
  have HA : Hid _ := ha
  clear ha
  generalize hn : l.length = n at *
  have HL : Hid _ := hn
  clear hn
  go_enter Try.func17, Try.ntmps17
  go_wp2_with (go_at_call 9; refine (new_any _).mono ?_; rintro e w' ⟨rfl, rfl⟩)
  go_loopw [5, 6] (fun ov iv wr => ∃ (i : Nat) (vs : Value), i ≤ n ∧ i ≤ 2000 ∧ ov = .bool true ∧ iv = .int .i64 i ∧ Rec w.heap.size wr w.heap.size vs (lg (l.take i)) ∧ Below w.heap.size w wr) (fun _ iv _ => 2000 - (intOf iv).toNat)
  case atStart => exact ⟨0, _, Nat.zero_le _, by omega, rfl, rfl, rec_new w, (Below.refl _ w).alloc (Nat.le_refl _) _⟩
  case round =>
    obtain ⟨i, vs, hin, hi2, rfl, rfl, hrec, hbel⟩ := hrel
    by_cases hlt : i < n ∧ i < 2000
    · obtain ⟨hlt, hl2⟩ := hlt
      rcases HA.out with h0 | ⟨ba, oa, rfl, hca⟩
      · omega
      obtain ⟨⟨xk, xv, xb⟩, e1⟩ : ∃ x, l[i]? = some x := ⟨_, List.getElem?_eq_getElem (by rw [HL.out]; exact hlt)⟩
      obtain ⟨p1, p2, p3⟩ := stC_at l i _ e1
      have c1 := hca _ _ p1
      have c2 := hca _ _ p2
      have c3 := hca _ _ p3
      simp only at c1 c2 c3
      rw [← Nat.add_assoc] at c2 c3
      have d1 : wr.cell? ⟨ba, oa + i * 3, none⟩ = some (.int .i64 xk) := (hbel.cell (World.block_lt_of_cell? w _ c1)).trans c1
      have d2 : wr.cell? ⟨ba, oa + i * 3 + 1, none⟩ = some (.int .i64 xv) := (hbel.cell (World.block_lt_of_cell? w _ c2)).trans c2
      have d3 : wr.cell? ⟨ba, oa + i * 3 + 2, none⟩ = some (.bool xb) := (hbel.cell (World.block_lt_of_cell? w _ c3)).trans c3
      have hst := lg_succ l i _ e1
      have hbd := lg_len (l.take i)
      have hti : (l.take i).length = i := by rw [List.length_take, HL.out]; omega
      rw [hti] at hbd
      have HST : Hid _ := hst
      have HB : Hid (Below w.heap.size w wr) := hbel
      have HC : Hid (∀ _ : Unit, _) := fun _ => llog_any w.heap.size w.heap.size vs (lg (l.take i)) xk xv xb wr hrec (by omega)
      have HG : Hid _ := hrec.ge
      clear hca p1 p2 p3 c1 c2 c3 hst hti hbel e1 HA hrec
      go_wp2_with (go_at_call 10; refine (HC.out ()).mono ?_; rintro e w' ⟨rfl, vs', hr', hg', _⟩)
      go_roundw
      case rel =>
        refine ⟨i + 1, vs', by omega, by omega, rfl, by go_num, ?_, ?_⟩
        · rw [HST.out]
          exact hr'
        · exact HB.out.trans (hg'.below HG.out HB.out.size)
      case measure => simp [intOf]; omega
    · have HR : Hid (Rec w.heap.size wr w.heap.size vs (lg (l.take i))) := hrec
      have HB : Hid (Below w.heap.size w wr) := hbel
      have hfin : l.take i = l.take 2000 := by
        by_cases h : i = 2000
        · rw [h]
        · rw [List.take_of_length_le (by rw [HL.out]; omega), List.take_of_length_le (by rw [HL.out]; omega)]
      have HF : Hid _ := hfin
      clear hrec hbel HA hfin
      by_cases h2 : i < n
      · have h3 : i = 2000 := by omega
        subst h3
        go_wp2
        go_ret2
        exact ⟨rfl, ⟨vs, HR.out⟩, HB.out⟩
      · have h3 : ¬ (i : Int) < (n : Int) := by omega
        clear hlt
        go_wp2
        go_ret2
        refine ⟨rfl, ⟨vs, ?_⟩, HB.out⟩
        rw [← HF.out]
        exact HR.out
set_option maxRecDepth 100000 in
set_option maxHeartbeats 1000000 in
theorem asks_any (v vs vw : Value) (l : List (Int × Int)) (k n : Int) (b : Bool) (w : World) (hr : RecO w v vs l) (hw : Sl w vw 2 (evC l) l.length) (hl : l.length ≤ 2000) :
    Calls Try.prog 12 #[v, .agg #[.int .i64 k, .int .i64 n, .bool b], vw] w fun e w' => e = .returned (.bool true) ∧ Below w.heap.size w w' := by
  have hb0 : Below w.heap.size w (w.alloc (.cells #[.int .i64 k, .int .i64 n, .bool b] 34)) := (Below.refl _ w).alloc (Nat.le_refl _) _
  obtain ⟨w0, hw0⟩ : ∃ w0, w.alloc (.cells #[.int .i64 k, .int .i64 n, .bool b] 34) = w0 := ⟨_, rfl⟩
  have c0 : w0.cell? ⟨w.heap.size, 0, none⟩ = some (.int .i64 k) := by rw [← hw0]; simp
  have c1 : w0.cell? ⟨w.heap.size, 1, none⟩ = some (.int .i64 n) := by rw [← hw0]; simp
  have hsz : w.heap.size < w0.heap.size := by rw [← hw0]; simp
  have HR : Hid (RecO w0 v vs l) := by rw [← hw0]; exact hr.below hb0
  have HW : Hid (Sl w0 vw 2 (evC l) l.length) := by rw [← hw0]; exact sl_below hb0 hw
  rw [hw0] at hb0
  have HB : Hid (Below w.heap.size w w0) := hb0
  have hv : ∃ p, v = .pointer p := by rcases hr with ⟨rfl, _⟩ | ⟨_, _, rfl, _⟩ <;> exact ⟨_, rfl⟩
  obtain ⟨p, rfl⟩ := hv
  obtain ⟨aw, cw, rfl⟩ := sl_len hw
  clear hb0 hr hw
  have HF : Hid (∀ w1, Below w0.heap.size w0 w1 → Below w.heap.size w w1) := fun w1 h => HB.out.trans (h.mono HB.out.size)
  by_cases h1 : k = 4
  · subst h1
    go_enter Try.func12, Try.ntmps12
    go_wp2_with (go_at_call 14; refine (total_any _ vs l _ HR.out).mono ?_; rintro e w' ⟨rfl, rfl⟩)
    go_ret
    exact ⟨by simp, HB.out⟩
  · have k1 : (k == 4) = false := by simp [h1]
    by_cases h2 : k = 5
    · subst h2
      clear h1 k1
      go_enter Try.func12, Try.ntmps12
      go_wp2_with (first | (go_at_call 15; refine (tEvents_any _ vs l (by omega) _ HR.out).mono ?_; rintro e w' ⟨u, rfl, hu, hb⟩) | (go_at_call 19; refine (events_any u _ l l _ (sl_of_owns hu) (sl_below hb HW.out) (by omega)).mono ?_; rintro e w2 ⟨rfl, m, rfl⟩))
      go_ret
      exact ⟨by simp, below_drewN' (HF.out _ hb) m⟩
    · have k2 : (k == 5) = false := by simp [h2]
      by_cases h3 : k = 6
      · subst h3
        clear h1 k1 h2 k2
        go_enter Try.func12, Try.ntmps12
        go_wp2_with (first | (go_at_call 16; refine (tRuns_any _ vs l (by omega) _ HR.out).mono ?_; rintro e w' ⟨u, rfl, hu, hb⟩) | (go_at_call 33; refine (refRuns_any _ l _ (sl_below hb HW.out) (by omega)).mono ?_; rintro e w2 ⟨u2, rfl, hu2, hb2⟩) | (go_at_call 32; refine (runs_any u u2 (rn l) (rn l) _ (sl_below hb2 (sl_of_owns hu)) (sl_of_owns hu2) (by have := (rn_bound l).1; omega)).mono ?_; rintro e w3 ⟨rfl, m, rfl⟩))
        go_ret
        exact ⟨by simp, below_drewN' (HF.out _ (hb.trans (hb2.mono hb.size))) m⟩
      · have k3 : (k == 6) = false := by simp [h3]
        by_cases h4 : k = 7
        · subst h4
          clear h1 k1 h2 k2 h3 k3
          go_enter Try.func12, Try.ntmps12
          go_wp2_with (first | (go_at_call 34; refine (gone_any _ vs n l (by omega) _ HR.out).mono ?_; rintro e w' ⟨u, rfl, hu, hb⟩; have c2 := (hb.cell (p := ⟨w.heap.size, 1, none⟩) hsz).trans c1) | (go_at_call 22; refine (behind_any _ l n _ (sl_below hb HW.out)).mono ?_; rintro e w2 ⟨u2, rfl, hu2, rfl⟩) | (go_at_call 19; refine (events_any u u2 (beh l n) (beh l n) _ (sl_of_owns hu) hu2 (by unfold beh; rw [List.length_drop]; omega)).mono ?_; rintro e w3 ⟨rfl, m, rfl⟩))
          go_ret
          exact ⟨by simp, below_drewN' (HF.out _ hb) m⟩
        · have k4 : (k == 7) = false := by simp [h4]
          go_enter Try.func12, Try.ntmps12
          go_wp2
          go_ret
          exact ⟨rfl, HB.out⟩
end Go.Proofs.Ytigapdfefapdgaa
