import Derived.Test.YtgcijghhgcegcaaKnown
import Derived.Test.YtgcijghhgcegcaaLift
import Derived.Deep.QuietTactic
import Derived.BigQuiet
import Derived.SizedLaws
namespace Go.Proofs.Ytgcijghhgcegcaa
set_option linter.unusedSimpArgs false
open Go.ChangeShapes Go.WideShapes Go.ChangeAt Go.RowKit Go.Pin
/-- a slice of numbers that came in -/
def IsRow (k : IntKind) (w : World) (a : Option Addr) (len cap : Nat) (zs : List Int) : Prop :=
  (a = none ∧ len = 0 ∧ cap = 0 ∧ zs = []) ∨
  ∃ x, a = some x ∧ len ≤ cap ∧ cap ≤ maxLen ∧ zs.length = cap ∧ (∀ i, i < zs.length → w.cell? (x.add i) = some (.int k (zs.getD i 0))) ∧ ∀ n ∈ zs, (Lit.int k n).wf = true
theorem add_mid (b o j : Nat) : (⟨b, o, none⟩ : Addr).add j = ⟨b, o + j, none⟩ := by unfold Addr.add; split <;> simp_all
theorem below_drewN' {B : Nat} {a w : World} (h : Below B a w) (n : Nat) : Below B a (w.drewN n) := ⟨h.os, h.tape, h.output, h.size, h.block⟩
theorem info5 : (Try.prog.info? 5).map (fun i => (i.zero, i.size, i.bytes)) = some (some (.int .u8 0), 1, 1) := by kernel_rfl
set_option maxRecDepth 100000 in
set_option maxHeartbeats 1000000 in
theorem wipes_bad (a0 : Option Addr) (len0 cap0 : Nat) (f t : Int) (w : World) (h : f < 0 ∨ t < f ∨ (len0 : Int) < t) :
    Calls Try.prog 6 #[.slice a0 len0 cap0, .int .i64 f, .int .i64 t] w fun e w' => e = .returned (.bool true) ∧ Below w.heap.size w w' := by
  by_cases h1 : f < 0
  · go_enter Try.func6, Try.ntmps6
    go_wp2_with (go_at_call 8; refine (known_any _).mono ?_; rintro e w' ⟨rfl, hb⟩)
    go_ret
    exact ⟨rfl, hb⟩
  · by_cases h2 : t < f
    · go_enter Try.func6, Try.ntmps6
      go_wp2_with (go_at_call 8; refine (known_any _).mono ?_; rintro e w' ⟨rfl, hb⟩)
      go_ret
      exact ⟨rfl, hb⟩
    · have h3 : (len0 : Int) < t := by omega
      go_enter Try.func6, Try.ntmps6
      go_wp2_with (go_at_call 8; refine (known_any _).mono ?_; rintro e w' ⟨rfl, hb⟩)
      go_ret
      exact ⟨rfl, hb⟩
set_option maxRecDepth 100000 in
set_option maxHeartbeats 1000000 in
theorem wipes_empty (x : Addr) (len0 cap0 : Nat) (f : Nat) (zs : List Int) (w : World) (htl : f ≤ len0) (hlc : len0 ≤ cap0) (hcap : cap0 ≤ 140737488351232) (hz : zs.length = cap0)
    (hcell : ∀ i, i < zs.length → w.cell? (x.add i) = some (.int .u8 (zs.getD i 0))) :
    Calls Try.prog 6 #[.slice (some x) len0 cap0, .int .i64 f, .int .i64 f] w fun e w' => e = .returned (.bool true) ∧ Below w.heap.size w w' := by
  obtain ⟨i0, hi, hz0, hz1, hz2⟩ := info_parts info5
  have HC : Hid _ := hcell
  clear hcell
  have hnews : Hid (∀ W, Below w.heap.size w W → ∀ j u, ((zs.take len0).map (Value.int .u8))[j]? = some u → W.cell? (x.add j) = some u) := by
    intro W hb j u hj
    rw [List.getElem?_map, List.getElem?_take] at hj
    split at hj
    · rename_i hlt
      rw [List.getElem?_eq_getElem (by omega)] at hj
      have h1 := HC.out j (by omega)
      rw [hb.cell (World.block_lt_of_cell? w _ h1 |> fun h => by exact h), h1]
      simpa [show j < zs.length by omega] using hj
    · simp at hj
  go_enter Try.func6, Try.ntmps6
  go_wp2_with (at_builtin; refine wpList_append_own _ rfl _ _ 41 rfl w.heap.size 5 i0 (.int .u8 0) 1 1 Try.underlying41 hi hz0 hz1 hz2 rfl (by decide) _ 0 [] rfl ?_ x len0 cap0 ((zs.take len0).map (Value.int .u8)) rfl ?_ ?_ ?_ ?_ ?_ ?_ ?_)
  · exact World.ownsRow_lit w #[] 0 (Nat.le_refl _) (by decide) rfl
  · simp; omega
  · exact hnews.out _ ((Below.refl _ _).alloc (Nat.le_refl _) _)
  · intro u hu
    rw [List.mem_map] at hu
    obtain ⟨n, _, rfl⟩ := hu
    rfl
  · unfold maxLen; omega
  · omega
  · simp
  · intro v' w1 hown hgrow hnn
    have hB1 : Below w.heap.size w w1 := ((Below.refl _ _).alloc (Nat.le_refl _) _).grown hgrow (by simp) (fun r hr => by simp [Value.ownBlock] at hr; omega)
    obtain ⟨hlen, hv⟩ := hown
    rcases hv with ⟨hnil, _⟩ | ⟨g, cap, cur, rfl, hg1, hg2, hg3, hg4, hg5, hg6⟩
    · exact absurd hnil hnn
    have HC1 : Hid (∀ j, j < len0 → w1.cell? ⟨g, j, none⟩ = some (.int .u8 (zs[j]?.getD 0))) := by
      intro j hj
      rw [cell_of_row w1 g j cur 5 (0, 0) hg2]
      have := congrArg (fun l => l[j]?) hg6
      simp only [List.getElem?_take, List.getElem?_map] at this
      rw [if_pos (by omega), if_pos hj, Array.getElem?_toList, List.getElem?_eq_getElem (by omega)] at this
      rw [this, List.getElem?_eq_getElem (by omega)]
      rfl
    have HF1 : Hid (∀ j, w1.frozen? ⟨g, j, none⟩ = false) := fun j => frozen_of_row w1 g j cur 5 hg2
    have HB1 : Hid _ := hB1
    have HG : Hid _ := hg1
    have hcc : len0 ≤ cap := hg3
    clear hB1 hlen hg1 hg2 hg3 hg4 hg5 hg6 hnn hgrow hi hz0 hz1 hz2 hnews
    go_wp2_with (go_at_call 17; refine (wipe_none _ _ _).mono ?_; rintro e W2 ⟨rfl, hw⟩; subst hw)
    all_goals
      have HB2 : Hid (Below w.heap.size w W2) := HB1.out
      have HD : Hid (∀ j, j < len0 → W2.cell? ⟨g, j, none⟩ = some (.int .u8 (if f ≤ j ∧ j < f then 0 else zs[j]?.getD 0))) := by
        intro j hj
        rw [if_neg (by omega)]
        exact HC1.out j hj
      have HL : Hid (∀ j, j < len0 → W2.cell? (x.add j) = some (.int .u8 (zs[j]?.getD 0))) := by
        intro j hj
        have h1 := HC.out j (by omega)
        rw [List.getD_eq_getElem?_getD] at h1
        exact (HB2.out.cell (World.block_lt_of_cell? w _ h1)).trans h1
      go_wp2_with fail
      go_loopw [8] (fun i wr => ∃ (k n : Nat), k ≤ len0 ∧ i = .int .i64 k ∧ wr = W2.drewN n) (fun i _ => len0 - (intOf i).toNat)
      case atStart => exact ⟨0, 0, Nat.zero_le _, rfl, rfl⟩
      case round =>
        obtain ⟨k, n, hk, rfl, rfl⟩ := hrel
        by_cases hlt : k < len0
        · have hc1 := HD.out k hlt
          have hc2 := HL.out k hlt
          obtain ⟨b, off, spot⟩ := x
          have hspot : spot = none := by
            have h0 := HL.out 0 (by omega)
            simpa [Addr.add] using World.cell?_spot h0
          subst hspot
          rw [add_mid] at hc2
          generalize zs[k]?.getD 0 = z at hc1 hc2
          clear HD HL HC HB2
          by_cases h1 : k < f
          · have b1 : decide (f ≤ k) = false := by simp; omega
            have b2 : decide (k < f) = true := by simp; omega
            rw [if_neg (by omega)] at hc1
            go_wp2
            go_quiet (fail)
            go_wp2
            go_roundw
            case rel => exact ⟨k + 1, _, by omega, by go_num, rfl⟩
            case measure => simp [intOf]; omega
          · have b1 : decide (f ≤ k) = true := by simp; omega
            have b2 : decide (k < f) = false := by simp; omega
            have b3 : decide (k < f) = false := by simp; omega
            have b4 : decide (f ≤ k) = true := by simp; omega
            rw [if_neg (by omega)] at hc1
            go_wp2
            go_quiet (fail)
            go_wp2
            go_roundw
            case rel => exact ⟨k + 1, _, by omega, by go_num, rfl⟩
            case measure => simp [intOf]; omega

        · have hk' : k = len0 := by omega
          subst hk'
          go_wp2_with (first | (go_at_call 17; refine (wipe_none _ _ _).mono ?_; rintro e w' ⟨rfl, hw⟩; subst hw) | (go_at_call 8; refine (known_any _).mono ?_; rintro e w' ⟨rfl, hb⟩))
          go_ret
          exact ⟨rfl, (below_drewN' HB2.out n).trans (hb.mono HB2.out.size)⟩

set_option maxRecDepth 100000 in
set_option maxHeartbeats 1000000 in
theorem wipes_some (x : Addr) (len0 cap0 : Nat) (f t : Nat) (zs : List Int) (w : World) (hft : f < t) (htl : t ≤ len0) (hlc : len0 ≤ cap0) (hcap : cap0 ≤ 140737488351232) (hz : zs.length = cap0)
    (hcell : ∀ i, i < zs.length → w.cell? (x.add i) = some (.int .u8 (zs.getD i 0))) :
    Calls Try.prog 6 #[.slice (some x) len0 cap0, .int .i64 f, .int .i64 t] w fun e w' => e = .returned (.bool true) ∧ Below w.heap.size w w' := by
  obtain ⟨i0, hi, hz0, hz1, hz2⟩ := info_parts info5
  have HC : Hid _ := hcell
  clear hcell
  have hnews : Hid (∀ W, Below w.heap.size w W → ∀ j u, ((zs.take len0).map (Value.int .u8))[j]? = some u → W.cell? (x.add j) = some u) := by
    intro W hb j u hj
    rw [List.getElem?_map, List.getElem?_take] at hj
    split at hj
    · rename_i hlt
      rw [List.getElem?_eq_getElem (by omega)] at hj
      have h1 := HC.out j (by omega)
      rw [hb.cell (World.block_lt_of_cell? w _ h1 |> fun h => by exact h), h1]
      simpa [show j < zs.length by omega] using hj
    · simp at hj
  go_enter Try.func6, Try.ntmps6
  go_wp2_with (at_builtin; refine wpList_append_own _ rfl _ _ 41 rfl w.heap.size 5 i0 (.int .u8 0) 1 1 Try.underlying41 hi hz0 hz1 hz2 rfl (by decide) _ 0 [] rfl ?_ x len0 cap0 ((zs.take len0).map (Value.int .u8)) rfl ?_ ?_ ?_ ?_ ?_ ?_ ?_)
  · exact World.ownsRow_lit w #[] 0 (Nat.le_refl _) (by decide) rfl
  · simp; omega
  · exact hnews.out _ ((Below.refl _ _).alloc (Nat.le_refl _) _)
  · intro u hu
    rw [List.mem_map] at hu
    obtain ⟨n, _, rfl⟩ := hu
    rfl
  · unfold maxLen; omega
  · omega
  · simp
  · intro v' w1 hown hgrow hnn
    have hB1 : Below w.heap.size w w1 := ((Below.refl _ _).alloc (Nat.le_refl _) _).grown hgrow (by simp) (fun r hr => by simp [Value.ownBlock] at hr; omega)
    obtain ⟨hlen, hv⟩ := hown
    rcases hv with ⟨hnil, _⟩ | ⟨g, cap, cur, rfl, hg1, hg2, hg3, hg4, hg5, hg6⟩
    · exact absurd hnil hnn
    have HC1 : Hid (∀ j, j < len0 → w1.cell? ⟨g, j, none⟩ = some (.int .u8 (zs[j]?.getD 0))) := by
      intro j hj
      rw [cell_of_row w1 g j cur 5 (0, 0) hg2]
      have := congrArg (fun l => l[j]?) hg6
      simp only [List.getElem?_take, List.getElem?_map] at this
      rw [if_pos (by omega), if_pos hj, Array.getElem?_toList, List.getElem?_eq_getElem (by omega)] at this
      rw [this, List.getElem?_eq_getElem (by omega)]
      rfl
    have HF1 : Hid (∀ j, w1.frozen? ⟨g, j, none⟩ = false) := fun j => frozen_of_row w1 g j cur 5 hg2
    have HB1 : Hid _ := hB1
    have HG : Hid _ := hg1
    have hcc : len0 ≤ cap := hg3
    clear hB1 hlen hg1 hg2 hg3 hg4 hg5 hg6 hnn hgrow hi hz0 hz1 hz2 hnews
    have hcf : ¬ cap = f := by omega
    go_wp2_with fail
    refine (wipe_some g f (t - f) (cap - f) (by omega) w1 ?_ ?_).mono ?_
    · intro j hj
      rw [HC1.out (f + j) (by omega)]
      rfl
    · intro j hj
      exact HF1.out _
    rintro e W2 ⟨rfl, hw⟩
    have hbut := but_setCells g (List.replicate (t - f) (.int .u8 0)) f w1
    have HB2 : Hid (Below w.heap.size w W2) := by
      rw [hw]
      exact HB1.out.trans (hbut.below (fun k hk => by rw [hk]; exact HG.out))
    have HD : Hid (∀ j, j < len0 → W2.cell? ⟨g, j, none⟩ = some (.int .u8 (if f ≤ j ∧ j < t then 0 else zs[j]?.getD 0))) := by
      intro j hj
      rw [hw]
      by_cases hin : f ≤ j ∧ j < t
      · rw [if_pos hin]
        have := World.cell?_setCells_in g (List.replicate (t - f) (.int .u8 0)) f w1 (fun i hi => by
          rw [HC1.out (f + i) (by simp at hi; omega)]; rfl) (j - f) (by simp; omega)
        rw [List.getElem_replicate, show f + (j - f) = j by omega] at this
        exact this
      · rw [if_neg hin, World.cell?_setCells_out g _ f w1 ⟨g, j, none⟩ (fun _ _ => by simp; omega)]
        exact HC1.out j hj
    clear hw hbut
    have HL : Hid (∀ j, j < len0 → W2.cell? (x.add j) = some (.int .u8 (zs[j]?.getD 0))) := by
      intro j hj
      have h1 := HC.out j (by omega)
      rw [List.getD_eq_getElem?_getD] at h1
      exact (HB2.out.cell (World.block_lt_of_cell? w _ h1)).trans h1
    go_wp2_with fail
    go_loopw [8] (fun i wr => ∃ (k n : Nat), k ≤ len0 ∧ i = .int .i64 k ∧ wr = W2.drewN n) (fun i _ => len0 - (intOf i).toNat)
    case atStart => exact ⟨0, 0, Nat.zero_le _, rfl, rfl⟩
    case round =>
      obtain ⟨k, n, hk, rfl, rfl⟩ := hrel
      by_cases hlt : k < len0
      · have hc1 := HD.out k hlt
        have hc2 := HL.out k hlt
        obtain ⟨b, off, spot⟩ := x
        have hspot : spot = none := by
          have h0 := HL.out 0 (by omega)
          simpa [Addr.add] using World.cell?_spot h0
        subst hspot
        rw [add_mid] at hc2
        generalize zs[k]?.getD 0 = z at hc1 hc2
        clear HD HL HC HB2
        by_cases h1 : k < f
        · have b1 : decide (f ≤ k) = false := by simp; omega
          have b2 : decide (k < f) = true := by simp; omega
          rw [if_neg (by omega)] at hc1
          go_wp2
          go_quiet (fail)
          go_wp2
          go_roundw
          case rel => exact ⟨k + 1, _, by omega, by go_num, rfl⟩
          case measure => simp [intOf]; omega
        · by_cases h2 : k < t
          · have b1 : decide (f ≤ k) = true := by simp; omega
            have b2 : decide (k < f) = false := by simp; omega
            have b3 : decide (k < t) = true := by simp; omega
            have b4 : decide (t ≤ k) = false := by simp; omega
            rw [if_pos (by omega)] at hc1
            go_wp2
            go_quiet (fail)
            go_wp2
            go_roundw
            case rel => exact ⟨k + 1, _, by omega, by go_num, rfl⟩
            case measure => simp [intOf]; omega

          · have b1 : decide (f ≤ k) = true := by simp; omega
            have b2 : decide (k < f) = false := by simp; omega
            have b3 : decide (k < t) = false := by simp; omega
            have b4 : decide (t ≤ k) = true := by simp; omega
            rw [if_neg (by omega)] at hc1
            go_wp2
            go_quiet (fail)
            go_wp2
            go_roundw
            case rel => exact ⟨k + 1, _, by omega, by go_num, rfl⟩
            case measure => simp [intOf]; omega

      · have hk' : k = len0 := by omega
        subst hk'
        go_wp2_with (first | (go_at_call 17; refine (wipe_none _ _ _).mono ?_; rintro e w' ⟨rfl, hw⟩; subst hw) | (go_at_call 8; refine (known_any _).mono ?_; rintro e w' ⟨rfl, hb⟩))
        go_ret
        exact ⟨rfl, (below_drewN' HB2.out n).trans (hb.mono HB2.out.size)⟩

set_option maxRecDepth 100000 in
set_option maxHeartbeats 1000000 in
theorem wipes_nil (w : World) :
    Calls Try.prog 6 #[.slice none 0 0, .int .i64 0, .int .i64 0] w fun e w' => e = .returned (.bool true) ∧ Below w.heap.size w w' := by
  obtain ⟨i0, hi, hz0, hz1, hz2⟩ := info_parts info5
  go_enter Try.func6, Try.ntmps6
  go_wp2_with (first | (at_builtin; refine wpList_append_own_none rfl _ _ 41 rfl w.heap.size 5 i0 1 Try.underlying41 hi _ 0 [] rfl (World.ownsRow_lit w #[] 0 (Nat.le_refl _) (by decide) rfl) rfl ?_) | (go_at_call 17; refine (wipe_none _ _ _).mono ?_; rintro e w' ⟨rfl, hw⟩; subst hw))
  refine wp_loop_rounds 1 ?_
  rw [rounds_succ]
  go_wp2_with (first | (go_at_call 17; refine (wipe_none _ _ _).mono ?_; rintro e w' ⟨rfl, hw⟩; subst hw) | (go_at_call 8; refine (known_any _).mono ?_; rintro e w' ⟨rfl, hb⟩))
  go_ret
  exact ⟨rfl, ((Below.refl _ _).alloc (Nat.le_refl _) _).trans (hb.mono (by simp))⟩
theorem wipes_walk (a0 : Option Addr) (len0 cap0 : Nat) (zs : List Int) (f t : Int) (w : World) (h : IsRow .u8 w a0 len0 cap0 zs) (hc : cap0 ≤ 140737488351232) :
    Calls Try.prog 6 #[.slice a0 len0 cap0, .int .i64 f, .int .i64 t] w fun e w' => e = .returned (.bool true) ∧ Below w.heap.size w w' := by
  by_cases hbad : f < 0 ∨ t < f ∨ (len0 : Int) < t
  · exact wipes_bad a0 len0 cap0 f t w hbad
  · obtain ⟨fn, rfl⟩ := Int.eq_ofNat_of_zero_le (show 0 ≤ f by omega)
    obtain ⟨tn, rfl⟩ := Int.eq_ofNat_of_zero_le (show 0 ≤ t by omega)
    rcases h with ⟨rfl, rfl, rfl, rfl⟩ | ⟨x, rfl, hl, hm, hz, hcell, hwz⟩
    · have e1 : fn = 0 := by omega
      have e2 : tn = 0 := by omega
      subst e1
      subst e2
      exact wipes_nil w
    · by_cases e : fn = tn
      · subst e
        exact wipes_empty x len0 cap0 fn zs w (by omega) hl hc hz hcell
      · exact wipes_some x len0 cap0 fn tn zs w (by omega) (by omega) hl hc hz hcell
theorem open_isRow {H : Type} {enc : TypeId × Value → H} {P : Program} {ts : List TypeId} {ds : List (DataW H)} {W : World} {j : Nat} {t e : TypeId} {k : IntKind} {a : Option Addr} {len cap : Nat} {d : DataW H} {p : List MemPlace}
    (ht : P.underlying t = some (.slice e)) (he : P.underlying e = some (.int k)) (hce : P.cellsOf e = 1) (hsz : (DataW.weightsEach P ts ds).all (· ≤ reachBytes) = true) (htj : ts[j]? = some t) (hdj : ds[j]? = some d)
    (h : DataW.Trod enc P W 0 (fun _ => true) true t (.slice a len cap) d p) : ∃ zs, IsRow k W a len cap zs ∧ cap * P.bytesOf e ≤ reachBytes := by
  obtain ⟨fuel, hf⟩ := h
  rcases open_ints ht he hce hf with ⟨hcs, _⟩ | ⟨x, l, c, zs, hcs, _, hl, hm, hz, hx, hcell, hwz⟩
  · simp [Value.cells] at hcs
    obtain ⟨rfl, rfl, rfl⟩ := hcs
    exact ⟨[], .inl ⟨rfl, rfl, rfl, rfl⟩, by simp⟩
  · simp [Value.cells] at hcs
    obtain ⟨rfl, rfl, rfl⟩ := hcs
    have hz' : zs.length = cap := by simpa using hz
    refine ⟨zs, .inr ⟨_, rfl, hl, hm, hz', hcell, hwz⟩, ?_⟩
    simp only [Prod.mk.injEq] at hx
    obtain ⟨rfl, _⟩ := hx
    have := sized_slice hsz htj hdj ht
    simp only [lits, List.length_map, List.length_take, List.length_drop] at this
    rw [show min len zs.length + (zs.length - len) = cap by omega] at this
    exact this
theorem bytes5 : Try.prog.bytesOf 5 = 1 := by kernel_rfl
set_option maxRecDepth 100000 in
theorem wipes_lifted (os : Os) (started : os.Started) (H : Type) (enc : TypeId × Value → H) :
    ReturnsInHanded {} Try.checked os 6 .any (Rows.maskWipesSpec.pre6 enc Try.prog Try.f6 Rows.maskWipesRow.domain false) (Rows.maskWipesSpec.post enc Try.prog Try.f6 false true false false) := by
  refine returnsInHanded_of_change_sized (C := Try.checked) own started (by kernel_rfl) Try.func6
    (ChangeSpec.witness6 (enc := enc) (C := Try.checked) false ⟨#[], #[.slice none 0 0, .int .i64 0, .int .i64 0], []⟩ 8 (by kernel_rfl) (by kernel_rfl) (by kernel_rfl) (by kernel_rfl)) ?_
  intro W base args ds gs before hval0 hW hcnd hsz0 _
  have hsz : (DataW.weightsEach Try.prog (Try.f6.params.toList ++ Rows.maskWipesSpec.plain.varTypes Try.prog) (ds ++ gs)).all (· ≤ reachBytes) = true := hsz0
  clear hsz0
  have hval : ∀ (j : Nat) t v, Try.f6.params[j]? = some t → args[j]? = some v → Value.okWide Try.prog W .any base t v := hval0
  have hW' := hW
  obtain ⟨p, q, hA0, hV, rfl, hfz, hnd⟩ := hW
  have hA : DataW.TrodAll enc Try.prog W 0 (fun _ => true) true Try.f6.params.toList args.toList ds p := hA0
  rw [Try.params6] at hA hval hsz
  have hAll := fun W' (hb : Below W.heap.size W W') => trodAll_below laidOut hb _ _ _ _ (by kernel_rfl) hA
  obtain ⟨v0, vs0, d0, ds0, p0, q0, hargs, rfl, rfl, h0, r0⟩ := trodAll_cons hA
  obtain ⟨v1, vs1, d1, ds1, p1, q1, rfl, rfl, rfl, h1, r1⟩ := trodAll_cons r0
  obtain ⟨v2, vs2, d2, ds2, p2, q2, rfl, rfl, rfl, h2, r2⟩ := trodAll_cons r1
  obtain ⟨rfl, rfl, rfl⟩ := trodAll_nil r2
  obtain rfl : args = #[v0, v1, v2] := by cases args; simp_all
  obtain ⟨rfl, rfl⟩ := trodVars_none hV
  obtain ⟨a0, len0, cap0, rfl⟩ := okWide_slice Try.underlying41 (hval 0 41 v0 rfl rfl)
  obtain ⟨z0, w0, hb0⟩ := open_isRow (j := 0) Try.underlying41 Try.underlying5 (by kernel_rfl) hsz rfl rfl h0
  obtain ⟨a1, rfl, rfl, rfl, w1⟩ := open_int Try.underlying3 (hval 1 3 v1 rfl rfl) h1
  obtain ⟨a2, rfl, rfl, rfl, w2⟩ := open_int Try.underlying3 (hval 2 3 v2 rfl rfl) h2
  clear hA0 hval0
  refine (wipes_walk a0 len0 cap0 z0 a1 a2 W w0 (by rw [bytes5] at hb0; simp only [reachBytes] at hb0; omega)).mono fun e W' ⟨he, bel⟩ => ?_
  subst he
  exact ⟨_, rfl, _, _, _, [], _, [], hW', trodAll_mk1 (shut_bool Try.underlying4 _), hAll W' bel, rfl, bel.frame _, fun h => by cases h⟩

theorem wipes_proved : Rows.MaskWipesSaid :=
  OpenClaim.holds_of_wide 6 Try.f6 rfl rfl rfl rfl rfl rfl rfl ⟨rfl, rfl, rfl, rfl, rfl⟩ rfl rfl rfl rfl rfl (by kernel_rfl) Try.func6 (by kernel_rfl)
    (of_decide_eq_true (by kernel_rfl)) (by unfold Func.isWrapper; first | (rw [if_pos (by decide +kernel)]; kernel_rfl) | (rw [if_neg (by decide +kernel)]; exact ⟨rfl, rfl⟩))
    (fun os started H enc _ => wipes_lifted os started H enc)
end Go.Proofs.Ytgcijghhgcegcaa
