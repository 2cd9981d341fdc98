import Derived.Test.YtfobiejgkdbidabTraceEv
import Derived.RegionIn
namespace Go.Proofs.Ytfobiejgkdbidab
set_option linter.unusedSimpArgs false
open Go.ChangeShapes Go.WideShapes Go.ChangeAt Go.RowKit Go.Pin Go.Shelf
attribute [local go_sem] Oper.semAt_some
theorem rn_snoc (l : List (Int × Int)) (x : Int × Int) : rn (l ++ [x]) = rnStep (rn l) x := by simp [rn]
set_option maxRecDepth 100000 in
set_option maxHeartbeats 2000000 in
theorem runs_in (v vs : Value) (l : List (Int × Int)) (hl : l.length ≤ 1000000) (w : World) (hr : RecO w v vs l) :
    CallsIn Fence.wide 5 Try.prog 7 #[v] w fun e W' => ∃ u, e = .returned u ∧ W'.ownsRow w.heap.size 38 3 u (rn l).length (rnC (rn l)) ∧ Below w.heap.size w W' := by
  obtain ⟨i0, hi, hz0, hz1, hz2⟩ := info_parts info55
  have hmx : Try.prog.follows .mixedOrders = true := by kernel_rfl
  have HI : Hid _ := And.intro hi (And.intro hz0 (And.intro hz1 hz2))
  clear hi hz0 hz1 hz2
  have HR : Hid (RecO w v vs l) := hr
  have hv : ∃ p, v = .pointer p := by rcases hr with ⟨rfl, _⟩ | ⟨_, _, rfl, _⟩ <;> exact ⟨_, rfl⟩
  clear hr
  obtain ⟨p, rfl⟩ := hv
  refine callsIn_of_wp_marks Try.func7 rfl trivial ?_ rfl
  simp only [Try.ntmps7, List.size_toArray, List.length_cons, List.length_nil, Nat.reduceAdd, Nat.reduceSub, Array.replicate_succ, Array.replicate_zero, List.push_toArray, List.append_toArray, List.nil_append, List.cons_append]
  gi_wp2_with (first | (refine ⟨trivial, ?_⟩; gi_at_call 15; refine (callsIn_wide.2 (since_any _ 0 _ ⟨_, rfl⟩)).mono ?_; rintro e w' ⟨rfl, rfl⟩))
  have bO := ((Boxed.new w 29 (.slice none 0 0)).alloc (.cells #[.pointer p] 23)).alloc (.cells #[.int .i64 0] 3)
  have bR := (Boxed.new (w.alloc (.cells #[.slice none 0 0] 29)) 23 (.pointer p)).alloc (.cells #[.int .i64 0] 3)
  have bN := Boxed.new ((w.alloc (.cells #[.slice none 0 0] 29)).alloc (.cells #[.pointer p] 23)) 3 (.int .i64 0)
  simp only [World.size_alloc] at bR bN
  have hB0 : Below w.heap.size w (((w.alloc (.cells #[.slice none 0 0] 29)).alloc (.cells #[.pointer p] 23)).alloc (.cells #[.int .i64 0] 3)) := (((Below.refl _ w).alloc (Nat.le_refl _) _).alloc (by simp) _).alloc (by simp; omega) _
  have hsz : (((w.alloc (.cells #[.slice none 0 0] 29)).alloc (.cells #[.pointer p] 23)).alloc (.cells #[.int .i64 0] 3)).heap.size = w.heap.size + 3 := by simp
  obtain ⟨W0, hW0⟩ : ∃ W0, ((w.alloc (.cells #[.slice none 0 0] 29)).alloc (.cells #[.pointer p] 23)).alloc (.cells #[.int .i64 0] 3) = W0 := ⟨_, rfl⟩
  rw [hW0] at bO bR bN hB0 hsz ⊢
  clear hW0
  have hvb : ∀ k, vs.ownBlock = some k → k < w.heap.size := fun k hk => (HR.out.owns.lt k hk).2
  have hbeh : beh l 0 = l := by simp [beh]
  refine wpIn_rangeFunc_ownH (F := Fence.wide) (n := 5) rfl (by decide) (gf := 24) (lb := #[.pointer (some ⟨w.heap.size + 1, 0, none⟩), .pointer (some ⟨w.heap.size + 1 + 1, 0, none⟩)]) rfl trivial (enters_of Try.func24 (by kernel_rfl) rfl)
    (since_stops (w.heap.size + 1) (w.heap.size + 1 + 1) w.heap.size (.pointer p) vs 0 l hl W0 (HR.out.below hB0) hvb (by omega) bR.cell bN.cell) belowK_t (belowK_b (by omega)) (Below.refl _ _) (fun _ => rfl)
    (fun pre W => (∃ u, Boxed W w.heap.size 29 u ∧ W.ownsRow w.heap.size 38 3 u (rn pre).length (rnC (rn pre)) ∧ (rn pre = [] → u = .slice none 0 0)) ∧ Below w.heap.size w W)
    (fun _ _ _ => False)
    (OwnFrom.and (Own.from (holdsRow_own w.heap.size w.heap.size 29 38 3 (fun pre => (rn pre).length) (fun pre => rnC (rn pre)) (fun pre u => rn pre = [] → u = .slice none 0 0)) _) (ownFrom_below (Nat.le_refl _) (by omega)))
    (fun _ _ _ _ _ hs _ _ => hs)
    ⟨⟨_, bO, World.ownsRow_nil _ _ _ _, fun _ => rfl⟩, hB0⟩
    (fun x a' W => ∃ Bx, Boxed2 W Bx 36 (.int .i64 x.1) (.int .i64 x.2) ∧ a' = { tmps := #[.pointer p, undef, .slice none 0 0, .pointer (some ⟨w.heap.size, 0, none⟩), .pointer (some ⟨Bx, 0, none⟩), undef, .pointer p, .func (.func 24) #[] #[.pointer (some ⟨w.heap.size + 1, 0, none⟩), .pointer (some ⟨w.heap.size + 1 + 1, 0, none⟩)], evV x, undef, undef, undef, undef, undef, undef, undef, undef, undef, undef, undef, undef, undef, undef, undef, undef, undef, undef, undef, undef, undef, undef, undef, undef, undef, undef, undef, undef], defers := [] })
    (fun x a' _ X Y row hs hg hr => by obtain ⟨Bx, h2, h3⟩ := hs; exact ⟨Bx, h2.turn hg (fun r e => (hr r e).2), h3⟩)
    ?assign ?body ?done ?stop
  case assign =>
    rintro l1 pre ⟨x1, x2⟩ W K ⟨⟨u, bO1, hr1, hnil⟩, hB1⟩ hK
    simp only [evV] at hK ⊢
    gi_wp2
    exact hK _ _ ((KeepsOthers.alloc _ _).from _) ((Below.refl _ W).alloc hB1.size _) ⟨⟨u, bO1.alloc _, hr1.alloc _, hnil⟩, hB1.alloc hB1.size _⟩ ⟨W.heap.size, Boxed2.new W 36 _ _, rfl⟩
  case body =>
    rintro l1 pre ⟨x1, x2⟩ a' W hl1 ⟨r, hr1⟩ ⟨⟨u, bO1, hrw, hnil⟩, hB1⟩ ⟨Bx, bX, rfl⟩ hlt
    have cO := bO1.cell
    have cX0 := bX.cell0
    have cX1 := bX.cell1
    simp only at cX0 cX1
    have HRW : Hid (W.ownsRow w.heap.size 38 3 u (rn pre).length (rnC (rn pre))) := hrw
    have HB1 : Hid (Below w.heap.size w W) := hB1
    have HO1 : Hid (Boxed W w.heap.size 29 u) := bO1
    have hbd := rn_bound pre
    have HST : Hid _ := rn_snoc pre (x1, x2)
    clear bX hr1 hrw hB1 bO1
    generalize rn pre = acc at *
    rcases List.eq_nil_or_concat acc with rfl | ⟨q, ⟨k, v, t⟩, rfl⟩
    · obtain rfl := hnil rfl
      clear hnil hbd
      gi_wp2
      refine wpIn_mono (Q := fun e a w' => e = .normal ∧ (∃ u12 u13 u14 u15 u16 u17 u18 u19 u20 u21, a = { tmps := #[.pointer p, undef, .slice none 0 0, .pointer (some ⟨w.heap.size, 0, none⟩), .pointer (some ⟨Bx, 0, none⟩), .int .i64 (-1), .pointer p, .func (.func 24) #[] #[.pointer (some ⟨w.heap.size + 1, 0, none⟩), .pointer (some ⟨w.heap.size + 1 + 1, 0, none⟩)], evV (x1, x2), .slice none 0 0, .int .i64 0, .int .i64 (-1), u12, u13, u14, u15, u16, u17, u18, u19, u20, u21, .bool false, undef, undef, undef, undef, undef, undef, undef, undef, undef, undef, undef, undef, undef, undef], defers := [] }) ∧ w' = W.drew) ?reg ?rest
      case reg =>
        gi_region_with_o (fail)
        all_goals exact ⟨rfl, ⟨_, _, _, _, _, _, _, _, _, _, rfl⟩, rfl⟩
      case rest =>
        rintro _ _ _ ⟨rfl, ⟨u12, u13, u14, u15, u16, u17, u18, u19, u20, u21, rfl⟩, rfl⟩
        skip
        gi_wp2_with (gi_at_builtin; refine wpListIn_append_own _ rfl _ _ 29 rfl w.heap.size 38 i0 (.agg #[.int .i64 0, .int .i64 0, .int .i64 0]) 3 24 Try.underlying29 HI.out.1 HI.out.2.1 HI.out.2.2.1 HI.out.2.2.2 rfl (by decide) _ 0 (rnC []) rfl ?ow ⟨W.heap.size, 0, none⟩ 1 1 [.int .i64 x1, .int .i64 x2, .int .i64 1] rfl rfl ?_ ?_ ?_ ?_ ?_ ?_)
        case ow => exact HRW.out.alloc _
        · intro j u hj
          match j, hj with
          | 0, hj => simp at hj; subst hj; simp [Addr.add]
          | 1, hj => simp at hj; subst hj; simp [Addr.add]
          | 2, hj => simp at hj; subst hj; simp [Addr.add]
        · intro u hu
          simp at hu
          rcases hu with rfl | rfl | rfl <;> rfl
        · unfold maxLen; omega
        · omega
        · have := HB1.out.size; simp; omega
        · intro v' w2 hown' hgrow _
          obtain ⟨g', cap', rfl⟩ := ownsRow_succ hown'
          obtain ⟨hv1, hv2, hr2, hk2, hb2⟩ := HO1.out.appended (by decide) HRW.out HB1.out.size (Nat.le_refl _) hown' (tmp := .cells #[.int .i64 x1, .int .i64 x2, .int .i64 1] 38) ⟨hgrow.os, hgrow.tape, hgrow.output, hgrow.size, hgrow.block⟩
          have hc1 := hv1.cell
          have hf1 := hv1.frozen
          have H2 : Hid (_ ∧ _ ∧ _ ∧ _) := ⟨hv2, hr2, hk2, hb2⟩
          clear hown' hgrow hv1 hv2 hr2 hk2 hb2
          gi_wp2
          obtain ⟨hv2, hr2, hk2, hb2⟩ := H2.out
          refine ⟨hk2.from _, hb2, ⟨_, hv2, ?_, ?_⟩, HB1.out.trans hb2⟩
          · rw [HST.out, rnStep_new]; exact hr2
          · rw [HST.out, rnStep_new]; simp
    · obtain ⟨g, cap, hu⟩ : ∃ g cap, u = .slice (some ⟨g, 0, none⟩) (q.length + 1) cap := by
        rcases HRW.out.2 with ⟨_, h0⟩ | ⟨g, cap, _, rfl, _⟩
        · simp at h0
        · exact ⟨g, cap, by simp⟩
      subst hu
      rw [List.concat_eq_append] at HRW HST
      have hq1 : (q ++ [(k, v, t)]).length = q.length + 1 := by simp
      rw [hq1] at HRW
      have hx := HRW.out.cells (g := g) rfl
      have hf := HRW.out.frozenAt (q.length * 3 + 2)
      have hgb := (HRW.out.lt g rfl).1
      obtain ⟨p1, p2, p3⟩ := rnC_at (q ++ [(k, v, t)]) q.length (k, v, t) (by simp)
      have d1 := hx _ _ p1
      have d2 := hx _ _ p2
      have d3 := hx _ _ p3
      rw [add_mid, Nat.zero_add] at d1 d2 d3
      simp only at d1 d2 d3
      clear hx p1 p2 p3 hnil
      have hq : q.length ≤ 1000000 := by have := hbd.1; simp at this; omega
      have hlast : wrap64 (q.length : Int) = q.length := by unfold wrap64; omega
      have ht1 := (hbd.2 (k, v, t) (by simp)).1
      have ht2 := (hbd.2 (k, v, t) (by simp)).2
      simp only at ht1 ht2
      clear hbd
      by_cases hk : k = x1
      · by_cases hv : v = x2
        · subst hk
          subst hv
          have hst := HRW.out.stored (q.length * 3 + 2) (.int .i64 (t + 1))
          have hne := HO1.out.not_row (by decide) HRW.out
          have HS : Hid (_ ∧ _) := ⟨hst, hne⟩
          clear hst hne
          gi_wp2
          refine wpIn_mono (Q := fun e a w' => e = .normal ∧ (∃ u12 u13 u14 u15 u16 u17 u18 u19 u20 u21, a = { tmps := #[.pointer p, undef, .slice none 0 0, .pointer (some ⟨w.heap.size, 0, none⟩), .pointer (some ⟨Bx, 0, none⟩), .int .i64 q.length, .pointer p, .func (.func 24) #[] #[.pointer (some ⟨w.heap.size + 1, 0, none⟩), .pointer (some ⟨w.heap.size + 1 + 1, 0, none⟩)], evV (k, v), .slice (some ⟨g, 0, none⟩) (q.length + 1) cap, .int .i64 (q.length + 1), .int .i64 q.length, u12, u13, u14, u15, u16, u17, u18, u19, u20, u21, .bool true, undef, undef, undef, undef, undef, undef, undef, undef, undef, undef, undef, undef, undef, undef], defers := [] }) ∧ w' = W.drew) ?reg ?rest
          case reg =>
            gi_region_with_o (fail)
            all_goals exact ⟨rfl, ⟨_, _, _, _, _, _, _, _, _, _, rfl⟩, rfl⟩
          case rest =>
            rintro _ _ _ ⟨rfl, ⟨u12, u13, u14, u15, u16, u17, u18, u19, u20, u21, rfl⟩, rfl⟩
            skip
            gi_wp2
            have hkk : Boxed (W.setCell ⟨g, q.length * 3 + 2, none⟩ (.int .i64 (t + 1))) w.heap.size 29 (.slice (some ⟨g, 0, none⟩) (q.length + 1) cap) := HO1.out.kept HS.out.1.2 HS.out.2
            have hko := (KeepsOthers.setCell W ⟨g, q.length * 3 + 2, none⟩ (.int .i64 (t + 1))).from W0.heap.size
            have hbl := (Below.refl w.heap.size W).setCell (p := ⟨g, q.length * 3 + 2, none⟩) hgb (.int .i64 (t + 1))
            have hset : (rnC (q ++ [(k, v, t)])).set (q.length * 3 + 2) (.int .i64 (t + 1)) = rnC (q ++ [(k, v, t + 1)]) := by
              rw [rnC_app, rnC_app, List.set_append_right _ _ (by rw [rnC_len]; omega), rnC_len, Nat.add_sub_cancel_left]
              rfl
            refine ⟨⟨hko.size, hko.same⟩, ⟨hbl.os, hbl.tape, hbl.output, hbl.size, hbl.block⟩, ⟨_, hkk, ?_, ?_⟩, HB1.out.trans ⟨hbl.os, hbl.tape, hbl.output, hbl.size, hbl.block⟩⟩
            · rw [HST.out, rnStep_like, List.length_append, ← hset]
              exact HS.out.1.1
            · rw [HST.out, rnStep_like]; simp
        · have hv' : (v == x2) = false := by simp [hv]
          subst hk
          have HNE : Hid (v ≠ x2) := hv
          clear hv
          gi_wp2
          refine wpIn_mono (Q := fun e a w' => e = .normal ∧ (∃ u12 u13 u14 u15 u16 u17 u18 u19 u20 u21, a = { tmps := #[.pointer p, undef, .slice none 0 0, .pointer (some ⟨w.heap.size, 0, none⟩), .pointer (some ⟨Bx, 0, none⟩), .int .i64 q.length, .pointer p, .func (.func 24) #[] #[.pointer (some ⟨w.heap.size + 1, 0, none⟩), .pointer (some ⟨w.heap.size + 1 + 1, 0, none⟩)], evV (k, x2), .slice (some ⟨g, 0, none⟩) (q.length + 1) cap, .int .i64 (q.length + 1), .int .i64 q.length, u12, u13, u14, u15, u16, u17, u18, u19, u20, u21, .bool false, undef, undef, undef, undef, undef, undef, undef, undef, undef, undef, undef, undef, undef, undef], defers := [] }) ∧ w' = W.drew) ?reg ?rest
          case reg =>
            gi_region_with_o (fail)
            all_goals exact ⟨rfl, ⟨_, _, _, _, _, _, _, _, _, _, rfl⟩, rfl⟩
          case rest =>
            rintro _ _ _ ⟨rfl, ⟨u12, u13, u14, u15, u16, u17, u18, u19, u20, u21, rfl⟩, rfl⟩
            skip
            gi_wp2_with (gi_at_builtin; refine wpListIn_append_own _ rfl _ _ 29 rfl w.heap.size 38 i0 (.agg #[.int .i64 0, .int .i64 0, .int .i64 0]) 3 24 Try.underlying29 HI.out.1 HI.out.2.1 HI.out.2.2.1 HI.out.2.2.2 rfl (by decide) _ (q.length + 1) (rnC (q ++ [(k, v, t)])) rfl ?ow ⟨W.heap.size, 0, none⟩ 1 1 [.int .i64 k, .int .i64 x2, .int .i64 1] rfl rfl ?_ ?_ ?_ ?_ ?_ ?_)
            case ow => exact HRW.out.alloc _
            · intro j u hj
              match j, hj with
              | 0, hj => simp at hj; subst hj; simp [Addr.add]
              | 1, hj => simp at hj; subst hj; simp [Addr.add]
              | 2, hj => simp at hj; subst hj; simp [Addr.add]
            · intro u hu
              simp at hu
              rcases hu with rfl | rfl | rfl <;> rfl
            · unfold maxLen; omega
            · omega
            · have := HB1.out.size; simp; omega
            · intro v' w2 hown' hgrow _
              obtain ⟨g', cap', rfl⟩ := ownsRow_succ hown'
              obtain ⟨hv1, hv2, hr2, hk2, hb2⟩ := HO1.out.appended (by decide) HRW.out HB1.out.size (Nat.le_refl _) hown' (tmp := .cells #[.int .i64 k, .int .i64 x2, .int .i64 1] 38) ⟨hgrow.os, hgrow.tape, hgrow.output, hgrow.size, hgrow.block⟩
              have hc1 := hv1.cell
              have hf1 := hv1.frozen
              have H2 : Hid (_ ∧ _ ∧ _ ∧ _) := ⟨hv2, hr2, hk2, hb2⟩
              clear hown' hgrow hv1 hv2 hr2 hk2 hb2
              gi_wp2
              obtain ⟨hv2, hr2, hk2, hb2⟩ := H2.out
              refine ⟨hk2.from _, hb2, ⟨_, hv2, ?_, ?_⟩, HB1.out.trans hb2⟩
              · rw [HST.out, rnStep_unlike q k v t (k, x2) (fun h => HNE.out h.2), List.length_append, rnC_app, hq1]; exact hr2
              · rw [HST.out, rnStep_unlike q k v t (k, x2) (fun h => HNE.out h.2)]; simp
      · have hk' : (k == x1) = false := by simp [hk]
        have HNE : Hid (k ≠ x1) := hk
        clear hk
        gi_wp2
        refine wpIn_mono (Q := fun e a w' => e = .normal ∧ (∃ u12 u13 u14 u15 u16 u17 u18 u19 u20 u21, a = { tmps := #[.pointer p, undef, .slice none 0 0, .pointer (some ⟨w.heap.size, 0, none⟩), .pointer (some ⟨Bx, 0, none⟩), .int .i64 q.length, .pointer p, .func (.func 24) #[] #[.pointer (some ⟨w.heap.size + 1, 0, none⟩), .pointer (some ⟨w.heap.size + 1 + 1, 0, none⟩)], evV (x1, x2), .slice (some ⟨g, 0, none⟩) (q.length + 1) cap, .int .i64 (q.length + 1), .int .i64 q.length, u12, u13, u14, u15, u16, u17, u18, u19, u20, u21, .bool false, undef, undef, undef, undef, undef, undef, undef, undef, undef, undef, undef, undef, undef, undef], defers := [] }) ∧ w' = W.drew) ?reg ?rest
        case reg =>
          gi_region_with_o (fail)
          all_goals exact ⟨rfl, ⟨_, _, _, _, _, _, _, _, _, _, rfl⟩, rfl⟩
        case rest =>
          rintro _ _ _ ⟨rfl, ⟨u12, u13, u14, u15, u16, u17, u18, u19, u20, u21, rfl⟩, rfl⟩
          skip
          gi_wp2_with (gi_at_builtin; refine wpListIn_append_own _ rfl _ _ 29 rfl w.heap.size 38 i0 (.agg #[.int .i64 0, .int .i64 0, .int .i64 0]) 3 24 Try.underlying29 HI.out.1 HI.out.2.1 HI.out.2.2.1 HI.out.2.2.2 rfl (by decide) _ (q.length + 1) (rnC (q ++ [(k, v, t)])) rfl ?ow ⟨W.heap.size, 0, none⟩ 1 1 [.int .i64 x1, .int .i64 x2, .int .i64 1] rfl rfl ?_ ?_ ?_ ?_ ?_ ?_)
          case ow => exact HRW.out.alloc _
          · intro j u hj
            match j, hj with
            | 0, hj => simp at hj; subst hj; simp [Addr.add]
            | 1, hj => simp at hj; subst hj; simp [Addr.add]
            | 2, hj => simp at hj; subst hj; simp [Addr.add]
          · intro u hu
            simp at hu
            rcases hu with rfl | rfl | rfl <;> rfl
          · unfold maxLen; omega
          · omega
          · have := HB1.out.size; simp; omega
          · intro v' w2 hown' hgrow _
            obtain ⟨g', cap', rfl⟩ := ownsRow_succ hown'
            obtain ⟨hv1, hv2, hr2, hk2, hb2⟩ := HO1.out.appended (by decide) HRW.out HB1.out.size (Nat.le_refl _) hown' (tmp := .cells #[.int .i64 x1, .int .i64 x2, .int .i64 1] 38) ⟨hgrow.os, hgrow.tape, hgrow.output, hgrow.size, hgrow.block⟩
            have hc1 := hv1.cell
            have hf1 := hv1.frozen
            have H2 : Hid (_ ∧ _ ∧ _ ∧ _) := ⟨hv2, hr2, hk2, hb2⟩
            clear hown' hgrow hv1 hv2 hr2 hk2 hb2
            gi_wp2
            obtain ⟨hv2, hr2, hk2, hb2⟩ := H2.out
            refine ⟨hk2.from _, hb2, ⟨_, hv2, ?_, ?_⟩, HB1.out.trans hb2⟩
            · rw [HST.out, rnStep_unlike q k v t (x1, x2) (fun h => HNE.out h.1), List.length_append, rnC_app, hq1]; exact hr2
            · rw [HST.out, rnStep_unlike q k v t (x1, x2) (fun h => HNE.out h.1)]; simp
  case done =>
    rintro D ys W hD hys ⟨⟨u, bO1, hr1, _⟩, hB1⟩ hK
    rw [hbeh] at hys
    subst hys
    have cO := bO1.cell
    gi_wp2
    refine ⟨by simp, .inl ⟨_, _, rfl, run_takeDeferred hK, ?_⟩⟩
    exact ⟨_, results_tmp rfl _ _ _, u, rfl, ownsRow_putObj hr1 _ hK rfl, hB1.trans (belowK_b (w := w) (Nat.le_refl _) W D _ _ (by omega) hK rfl rfl)⟩
  case stop =>
    rintro D c pre W _ _ h _
    exact h.elim
theorem tRuns_any (v vs : Value) (l : List (Int × Int)) (hl : l.length ≤ 1000000) (w : World) (hr : RecO w v vs l) :
    Calls Try.prog 7 #[v] w fun e W' => ∃ u, e = .returned u ∧ W'.ownsRow w.heap.size 38 3 u (rn l).length (rnC (rn l)) ∧ Below w.heap.size w W' :=
  callsIn_wide.1 (runs_in v vs l hl w hr)
end Go.Proofs.Ytfobiejgkdbidab
