import Derived.Maps.AppendAt
import Derived.Test.YtlffamcifahbjaaMgap
import Derived.Test.YtlffamcifahbjaaMgao
import Derived.Test.YtlffamcifahbjaaMgai
import Derived.Test.YtlffamcifahbjaaMgan
namespace Go.Proofs.Ytlffamcifahbjaa
set_option linter.unusedSimpArgs false
open Go.ChangeShapes Go.WideShapes Go.ChangeAt Go.RowKit Go.Pin Go.Shelf
attribute [local go_sem] Oper.semAt_some
set_option maxRecDepth 100000 in
theorem since_any (v : Value) (n : Int) (w : World) (hv : ∃ p, v = .pointer p) :
    Calls Try.prog 29 #[v, .int .i64 n] w fun e w' => e = .returned (.func (.func 48) #[] #[.pointer (some ⟨w.heap.size, 0, none⟩), .pointer (some ⟨w.heap.size + 1, 0, none⟩)]) ∧ w' = (w.alloc (.cells #[v] 24)).alloc (.cells #[.int .i64 n] 3) := by
  obtain ⟨p, rfl⟩ := hv
  go_enter Try.func29, Try.ntmps29
  go_wp2
  go_ret
  exact ⟨rfl, rfl⟩
theorem grow_of_lt {n₀ : Nat} {W X : World} (h : Below n₀ W X) : Grow (fun k => n₀ ≤ k) W X := ⟨h.os, h.tape, h.output, h.size, fun k _ hn => h.block k (by omega)⟩
theorem since_stops (b1 b2 n₀ : Nat) (v vs : Value) (n : Int) (l : List (Int × Int)) (hl : l.length ≤ 1000000) (w : World) (hr : RecO w v vs l) (hv : ∀ k, vs.ownBlock = some k → k < n₀) (hn : n₀ ≤ w.heap.size)
    (h1 : w.cell? ⟨b1, 0, none⟩ = some v) (h2 : w.cell? ⟨b2, 0, none⟩ = some (.int .i64 n)) :
    SeqStopsK Fence.wide 4 Try.prog 48 #[.pointer (some ⟨b1, 0, none⟩), .pointer (some ⟨b2, 0, none⟩)] (fun x : Int × Int => #[evV x]) (Below n₀) (fun ys => ys = beh l n) (fun pre => pre <+: beh l n) l.length w := by
  intro l' J Jx W hW hJ hJx hY h0
  have hr' := hr.below hW
  have c1 : W.cell? ⟨b1, 0, none⟩ = some v := (hW.cell (p := ⟨b1, 0, none⟩) (World.block_lt_of_cell? w _ h1)).trans h1
  have c2 : W.cell? ⟨b2, 0, none⟩ = some (.int .i64 n) := (hW.cell (p := ⟨b2, 0, none⟩) (World.block_lt_of_cell? w _ h2)).trans h2
  refine (since1_in l' b1 b2 v vs n l hl (fun pre X => J pre X ∧ Below n₀ W X) Jx W ?_ ?_ ?_ hr' c1 c2 ⟨h0, Below.refl _ _⟩).mono ?_
  · intro pre X o ⟨hj, hb⟩
    exact ⟨hJ pre X _ none hj (World.grownBy_alloc X o none) (fun r e => by cases e), hb.alloc (by have := hb.size; have := hW.size; omega) o⟩
  · intro pre X ⟨_, hb⟩
    exact sl_grow (grow_of_lt hb) hr'.sl (fun k hk => by have := hv k hk; omega)
  · intro pre x X ⟨hj, hb⟩ hlt _
    obtain ⟨fn, tmps, assign, body, hy, hR⟩ := hY pre x X hj hlt
    refine ⟨fn, tmps, assign, body, hy, hR.mono ?_⟩
    rintro e X' (⟨rfl, hj', hk⟩ | ⟨rfl, hj'⟩)
    · exact .inl ⟨rfl, hj', hb.trans hk⟩
    · exact .inr ⟨rfl, hj'⟩
  · rintro e W' ⟨he, ⟨hj, _⟩ | ⟨pre, hp, hj⟩⟩
    · exact ⟨he, .inl ⟨_, rfl, hj⟩⟩
    · exact ⟨he, .inr ⟨_, hp, hj⟩⟩
/-- a variable's box of two cells -/
def Boxed2 (W : World) (B : Nat) (t : TypeId) (a b : Value) : Prop := W.heap[B]? = some (.cells #[a, b] t (0, 0))
theorem Boxed2.cell0 {W : World} {B : Nat} {t : TypeId} {a b : Value} (h : Boxed2 W B t a b) : W.cell? ⟨B, 0, none⟩ = some a := by simp [World.cell?, show W.heap[B]? = _ from h]
theorem Boxed2.cell1 {W : World} {B : Nat} {t : TypeId} {a b : Value} (h : Boxed2 W B t a b) : W.cell? ⟨B, 1, none⟩ = some b := by simp [World.cell?, show W.heap[B]? = _ from h]
theorem Boxed2.new (W : World) (t : TypeId) (a b : Value) : Boxed2 (W.alloc (.cells #[a, b] t)) W.heap.size t a b := World.alloc_heap_new W _
theorem Boxed2.turn {X Y : World} {row : Option Nat} {B : Nat} {t : TypeId} {a b : Value} (h : Boxed2 X B t a b) (hg : X.grownBy Y row) (hr : ∀ r, row = some r → ∃ o : Obj, X.heap[r]? = some o ∧ o.isCells = false) : Boxed2 Y B t a b :=
  (hg.block B (Array.getElem?_eq_some_iff.1 h).1 (fun e => by obtain ⟨o, ho, hc⟩ := hr B e.symm; rw [show X.heap[B]? = _ from h] at ho; cases ho; cases hc)).trans h
set_option maxRecDepth 100000 in
set_option maxHeartbeats 2000000 in
theorem events_in (v vs : Value) (l : List (Int × Int)) (hl : l.length ≤ 1000000) (w : World) (hr : RecO w v vs l) :
    CallsIn Fence.wide 5 Try.prog 12 #[v] w fun e W' => ∃ u, e = .returned u ∧ W'.ownsRow w.heap.size 31 2 u l.length (evC l) ∧ Below w.heap.size w W' := by
  obtain ⟨i0, hi, hz0, hz1, hz2⟩ := info_parts info37
  have HI : Hid _ := And.intro hi (And.intro hz0 (And.intro hz1 hz2))
  clear hi hz0 hz1 hz2
  have HR : Hid (RecO w v vs l) := hr
  have hv : ∃ p, v = .pointer p := by rcases hr with ⟨rfl, _⟩ | ⟨_, _, rfl, _⟩ <;> exact ⟨_, rfl⟩
  clear hr
  obtain ⟨p, rfl⟩ := hv
  refine callsIn_of_wp_marks Try.func12 rfl trivial ?_ rfl
  simp only [Try.ntmps12, List.size_toArray, List.length_cons, List.length_nil, Nat.reduceAdd, Nat.reduceSub, Array.replicate_succ, Array.replicate_zero, List.push_toArray, List.append_toArray, List.nil_append, List.cons_append]
  gi_wp2_with (first | (refine ⟨trivial, ?_⟩; gi_at_call 28; refine (callsIn_wide.2 (total_any _ _ l _ HR.out)).mono ?_; rintro e w' ⟨rfl, rfl⟩) | (gi_at_make; refine wpListIn_make_own _ rfl _ _ 28 rfl w'.heap.size 31 i0 (.agg #[.int .i64 0, .int .i64 0]) 2 Try.underlying28 HI.out.1 HI.out.2.1 HI.out.2.2.1 .i64 .i64 l.length l.length rfl rfl rfl (by rw [HI.out.2.2.2]; omega) (by unfold maxLen; omega) (Nat.le_refl _) ?_; intro w1 hown hgrow) | (refine ⟨trivial, ?_⟩; gi_at_call 29; refine (callsIn_wide.2 (since_any _ 0 _ ⟨_, rfl⟩)).mono ?_; rintro e w' ⟨rfl, rfl⟩))
  have hB1 : Below w'.heap.size w' w1 := (Below.refl _ w').grown hgrow (Nat.le_refl _) (fun k e => by cases e)
  have hs1 := hB1.size
  have bO := ((Boxed.new w1 28 (.slice (some ⟨w'.heap.size, 0, none⟩) 0 l.length)).alloc (.cells #[.pointer p] 24)).alloc (.cells #[.int .i64 0] 3)
  have bR := (Boxed.new (w1.alloc (.cells #[.slice (some ⟨w'.heap.size, 0, none⟩) 0 l.length] 28)) 24 (.pointer p)).alloc (.cells #[.int .i64 0] 3)
  have bN := Boxed.new ((w1.alloc (.cells #[.slice (some ⟨w'.heap.size, 0, none⟩) 0 l.length] 28)).alloc (.cells #[.pointer p] 24)) 3 (.int .i64 0)
  simp only [World.size_alloc] at bR bN
  have hB0 : Below w'.heap.size w' (((w1.alloc (.cells #[.slice (some ⟨w'.heap.size, 0, none⟩) 0 l.length] 28)).alloc (.cells #[.pointer p] 24)).alloc (.cells #[.int .i64 0] 3)) := ((hB1.alloc (by omega) _).alloc (by simp; omega) _).alloc (by simp; omega) _
  have hrow := ((hown.alloc (.cells #[.slice (some ⟨w'.heap.size, 0, none⟩) 0 l.length] 28)).alloc (.cells #[.pointer p] 24)).alloc (.cells #[.int .i64 0] 3)
  have hsz : (((w1.alloc (.cells #[.slice (some ⟨w'.heap.size, 0, none⟩) 0 l.length] 28)).alloc (.cells #[.pointer p] 24)).alloc (.cells #[.int .i64 0] 3)).heap.size = w1.heap.size + 3 := by simp
  obtain ⟨W0, hW0⟩ : ∃ W0, ((w1.alloc (.cells #[.slice (some ⟨w'.heap.size, 0, none⟩) 0 l.length] 28)).alloc (.cells #[.pointer p] 24)).alloc (.cells #[.int .i64 0] 3) = W0 := ⟨_, rfl⟩
  rw [hW0] at bO bR bN hB0 hrow hsz ⊢
  clear hW0 hown hgrow hB1
  obtain ⟨o0, ho0⟩ : ∃ o0, w1.heap.size = o0 := ⟨_, rfl⟩
  rw [ho0] at bO bR bN hs1 hsz ⊢
  clear ho0 w1
  have hvb : ∀ k, vs.ownBlock = some k → k < w'.heap.size := fun k hk => (HR.out.owns.lt k hk).2
  have hbeh : beh l 0 = l := by simp [beh]
  refine wpIn_rangeFunc_ownH (F := Fence.wide) (n := 5) rfl (by decide) (gf := 48) (lb := #[.pointer (some ⟨o0 + 1, 0, none⟩), .pointer (some ⟨o0 + 1 + 1, 0, none⟩)]) rfl trivial (enters_of Try.func48 (by kernel_rfl) rfl)
    (since_stops (o0 + 1) (o0 + 1 + 1) w'.heap.size (.pointer p) vs 0 l hl W0 (HR.out.below hB0) hvb (by omega) bR.cell bN.cell) belowK_t (belowK_b (by omega)) (Below.refl _ _) (fun _ => rfl)
    (fun pre W => (∃ u, Boxed W o0 28 u ∧ W.ownsRow w'.heap.size 31 2 u pre.length (evC pre) ∧ True) ∧ Below w'.heap.size w' W)
    (fun _ _ _ => False)
    (OwnFrom.and (Own.from (holdsRow_own w'.heap.size o0 28 31 2 (fun pre => List.length pre) (fun pre => evC pre) (fun _ _ => True)) _) (ownFrom_below (Nat.le_refl _) (by omega)))
    (fun _ _ _ _ _ hs _ _ => hs)
    ⟨⟨_, bO, hrow, trivial⟩, hB0⟩
    (fun x a' W => ∃ Bx, Boxed2 W Bx 31 (.int .i64 x.1) (.int .i64 x.2) ∧ a' = { tmps := #[.pointer p, undef, .slice none 0 0, .pointer (some ⟨o0, 0, none⟩), .pointer (some ⟨Bx, 0, none⟩), .pointer p, .int .i64 l.length, .slice (some ⟨w'.heap.size, 0, none⟩) 0 l.length, .pointer p, .func (.func 48) #[] #[.pointer (some ⟨o0 + 1, 0, none⟩), .pointer (some ⟨o0 + 1 + 1, 0, none⟩)], evV x, undef, undef, undef, undef, undef], defers := [] })
    (fun x a' _ X Y row hs hg hr => by obtain ⟨Bx, h2, h3⟩ := hs; exact ⟨Bx, h2.turn hg (fun r e => (hr r e).2), h3⟩)
    ?assign ?body ?done ?stop
  case assign =>
    rintro l1 pre ⟨x1, x2⟩ W K ⟨⟨u, bO1, hr1, _⟩, hB1⟩ hK
    simp only [evV] at hK ⊢
    gi_wp2
    exact hK _ _ ((KeepsOthers.alloc _ _).from _) ((Below.refl _ W).alloc hB1.size _) ⟨⟨u, bO1.alloc _, hr1.alloc _, trivial⟩, hB1.alloc hB1.size _⟩ ⟨W.heap.size, Boxed2.new W 31 _ _, rfl⟩
  case body =>
    rintro l1 pre ⟨x1, x2⟩ a' W hl1 ⟨r, hr1⟩ ⟨⟨u, bO1, hrw, _⟩, hB1⟩ ⟨Bx, bX, rfl⟩ hlt
    have cO := bO1.cell
    have cX0 := bX.cell0
    have cX1 := bX.cell1
    simp only at cX0 cX1
    have HRW : Hid (W.ownsRow w'.heap.size 31 2 u pre.length (evC pre)) := hrw
    have HB1 : Hid (Below w'.heap.size w' W) := hB1
    have HO1 : Hid (Boxed W o0 28 u) := bO1
    clear bX hr1 hrw hB1 bO1
    gi_wp2_with (gi_at_builtin; refine wpListIn_append_own _ rfl _ _ 28 rfl w'.heap.size 31 i0 (.agg #[.int .i64 0, .int .i64 0]) 2 16 Try.underlying28 HI.out.1 HI.out.2.1 HI.out.2.2.1 HI.out.2.2.2 rfl (by decide) _ pre.length (evC pre) rfl (HRW.out.alloc _) ⟨W.heap.size, 0, none⟩ 1 1 [.int .i64 x1, .int .i64 x2] rfl rfl ?_ ?_ ?_ ?_ ?_ ?_)
    · intro j u hj
      match j, hj with
      | 0, hj => simp at hj; subst hj; simp [Addr.add]
      | 1, hj => simp at hj; subst hj; simp [Addr.add]
    · intro u hu
      simp at hu
      rcases hu with rfl | rfl <;> rfl
    · unfold maxLen; omega
    · omega
    · have := HB1.out.size; simp; omega
    · intro v' w2 hown' hgrow _
      obtain ⟨g', cap', rfl⟩ := ownsRow_succ hown'
      obtain ⟨hv1, hv2, hr2, hk2, hb2⟩ := HO1.out.appended (by decide) HRW.out HB1.out.size hs1 hown' hgrow
      have hc1 := hv1.cell
      have hf1 := hv1.frozen
      have H2 : Hid (_ ∧ _ ∧ _ ∧ _) := ⟨hv2, hr2, hk2, hb2⟩
      clear hown' hgrow hv1 hv2 hr2 hk2 hb2
      gi_wp2
      obtain ⟨hv2, hr2, hk2, hb2⟩ := H2.out
      exact ⟨hk2.from _, hb2, ⟨_, hv2, by rw [List.length_append, evC_app]; exact hr2, trivial⟩, HB1.out.trans hb2⟩
  case done =>
    rintro D ys W hD rfl ⟨⟨u, bO1, hr1, _⟩, hB1⟩ hK
    have cO := bO1.cell
    gi_wp2
    refine ⟨by simp, .inl ⟨_, _, rfl, run_takeDeferred hK, ?_⟩⟩
    exact ⟨_, results_tmp rfl _ _ _, u, rfl, ownsRow_putObj hr1 _ hK rfl, hB1.trans (belowK_b (w := w') (Nat.le_refl _) W D _ _ (by omega) hK rfl rfl)⟩
  case stop =>
    rintro D c pre W _ _ h _
    exact h.elim
theorem tEvents_any (v vs : Value) (l : List (Int × Int)) (hl : l.length ≤ 1000000) (w : World) (hr : RecO w v vs l) :
    Calls Try.prog 12 #[v] w fun e W' => ∃ u, e = .returned u ∧ W'.ownsRow w.heap.size 31 2 u l.length (evC l) ∧ Below w.heap.size w W' :=
  callsIn_wide.1 (events_in v vs l hl w hr)
end Go.Proofs.Ytlffamcifahbjaa
namespace Go.Proofs.Ytlffamcifahbjaa
set_option linter.unusedSimpArgs false
open Go.ChangeShapes Go.WideShapes Go.ChangeAt Go.RowKit Go.Pin
set_option maxRecDepth 100000 in
set_option maxHeartbeats 1000000 in
theorem events_any (va vb : Value) (la lb : List (Int × Int)) (w : World) (ha : Sl w va 2 (evC la) la.length) (hb : Sl w vb 2 (evC lb) lb.length) (hl : la.length ≤ 1000000000) :
    Calls Try.prog 14 #[va, vb] w fun e w' => e = .returned (.bool (la == lb)) ∧ ∃ n, w' = w.drewN n := by
  obtain ⟨_, aa, ca, rfl, _, ha⟩ := ha
  obtain ⟨_, ab, cb, rfl, _, hb⟩ := hb
  by_cases hlen : la.length = lb.length
  · have h1 : ((la.length : Int) != (lb.length : Int)) = false := by simp; omega
    have HA : Hid _ := ha
    have HB : Hid _ := hb
    have HN : Hid _ := hlen
    rw [← hlen] at h1 HB ⊢
    clear ha hb hlen
    generalize hn : la.length = n at *
    have HL : Hid _ := hn
    clear hn
    go_enter Try.func14, Try.ntmps14
    go_wp2
    go_loopw [5] (fun v wr => ∃ i m : Nat, i ≤ n ∧ v = .int .i64 i ∧ wr = w.drewN m ∧ ∀ j, j < i → la[j]? = lb[j]?) (fun v _ => n - (intOf v).toNat)
    case atStart => exact ⟨0, 0, Nat.zero_le _, rfl, rfl, fun j hj => by omega⟩
    case round =>
      obtain ⟨i, m, hi, rfl, rfl, hall⟩ := hrel
      have HALL : Hid _ := hall
      clear hall
      by_cases hlt : i < n
      · rcases HA.out with h0 | ⟨ba, oa, rfl, hca⟩
        · omega
        rcases HB.out with h0 | ⟨bb, ob, rfl, hcb⟩
        · omega
        obtain ⟨⟨xk, xv⟩, e1⟩ : ∃ x, la[i]? = some x := ⟨_, List.getElem?_eq_getElem (by rw [HL.out]; exact hlt)⟩
        obtain ⟨⟨yk, yv⟩, e2⟩ : ∃ x, lb[i]? = some x := ⟨_, List.getElem?_eq_getElem (by rw [← HN.out]; exact hlt)⟩
        obtain ⟨p1, p2⟩ := evC_at la i _ e1
        obtain ⟨q1, q2⟩ := evC_at lb i _ e2
        have c1 := hca _ _ p1
        have c2 := hca _ _ p2
        have c3 := hcb _ _ q1
        have c4 := hcb _ _ q2
        have E1 : Hid _ := e1
        have E2 : Hid _ := e2
        clear hca hcb p1 p2 q1 q2 e1 e2 HA HB
        simp only at c1 c2 c3 c4
        rw [← Nat.add_assoc] at c2 c4
        by_cases hk : xk = yk
        · by_cases hv : xv = yv
          · subst hk
            subst hv
            go_wp2
            go_quiet (fail)
            go_wp2
            go_roundw
            case rel =>
              refine ⟨i + 1, _, by omega, by go_num, rfl, fun j hj => ?_⟩
              by_cases hji : j = i
              · subst hji; rw [E1.out, E2.out]
              · exact HALL.out j (by omega)
            case measure => simp [intOf]; omega
          · have hv' : (xv == yv) = false := by simp [hv]
            subst hk
            have hne : (la == lb) = false := by
              simp
              intro e
              have := E1.out
              rw [e, E2.out] at this
              simp only [Option.some.injEq, Prod.mk.injEq] at this
              exact hv this.2.symm
            clear hv
            go_wp2
            go_quiet (fail)
            go_wp2
            go_ret
            exact ⟨by rw [hne]; rfl, _, drewN_add _ _ _⟩
        · have hk' : (xk == yk) = false := by simp [hk]
          have hne : (la == lb) = false := by
            simp
            intro e
            have := E1.out
            rw [e, E2.out] at this
            simp only [Option.some.injEq, Prod.mk.injEq] at this
            exact hk this.1.symm
          clear hk
          go_wp2
          go_quiet (fail)
          go_wp2
          go_ret
          exact ⟨by rw [hne]; rfl, _, drewN_add _ _ _⟩
      · have hi' : i = n := by omega
        subst hi'
        go_wp2
        go_ret
        refine ⟨?_, _, rfl⟩
        have : la = lb := by
          apply List.ext_getElem?
          intro j
          by_cases hj : j < i
          · exact HALL.out j hj
          · rw [List.getElem?_eq_none (by rw [HL.out]; omega), List.getElem?_eq_none (by rw [← HN.out]; omega)]
        rw [this]
        simp
  · have h1 : ((la.length : Int) != (lb.length : Int)) = true := by simp; omega
    have h2 : (la == lb) = false := by
      simp
      intro e
      exact hlen (by rw [e])
    rw [h2]
    clear ha hb hl
    go_enter Try.func14, Try.ntmps14
    go_wp2
    go_ret
    exact ⟨rfl, 0, rfl⟩

end Go.Proofs.Ytlffamcifahbjaa
namespace Go.Proofs.Ytlffamcifahbjaa
set_option linter.unusedSimpArgs false
set_option linter.unusedVariables false
open Go.ChangeShapes Go.WideShapes Go.ChangeAt Go.RowKit Go.Pin
def opv (os : List Int) : List (Int × Int) := os.map fun o => (3, o)
theorem opv_take (os : List Int) (i : Nat) (o : Int) (h : os[i]? = some o) : opv (os.take (i + 1)) = opv (os.take i) ++ [(3, o)] := by
  unfold opv
  rw [List.take_add_one, h]
  simp
set_option maxRecDepth 100000 in
set_option maxHeartbeats 1000000 in
theorem with_any (B : Nat) (vl vo : Value) (L : List (Int × Int)) (os : List Int) (w : World) (hB : B ≤ w.heap.size) (hown : w.ownsRow B 31 2 vl L.length (evC L)) (ho : Sl w vo 1 (os.map (Value.int .i64)) os.length)
    (hs : ∀ b o n c, vo = .slice (some ⟨b, o, none⟩) n c → vl.ownBlock ≠ some b) (hn : L.length + os.length ≤ 1000000) :
    Calls Try.prog 37 #[vl, vo] w fun e w' => ∃ v, e = .returned v ∧ w'.ownsRow B 31 2 v (L ++ opv os).length (evC (L ++ opv os)) ∧ Grow (fun k => vl.ownBlock = some k) w w' ∧ (v.ownBlock = vl.ownBlock ∨ ∃ g, v.ownBlock = some g ∧ w.heap.size ≤ g) := by
  obtain ⟨_, ao, co, rfl, _, ho⟩ := ho
  obtain ⟨i0, hi, hz0, hz1, hz2⟩ := info_parts info37
  have HI : Hid _ := And.intro hi (And.intro hz0 (And.intro hz1 hz2))
  have HO0 : Hid (w.ownsRow B 31 2 vl L.length (evC L)) := hown
  have HOS : Hid _ := ho
  have HS : Hid _ := hs
  have HBB : Hid (B ≤ w.heap.size) := hB
  clear hi hz0 hz1 hz2 hown ho hs hB
  generalize hn' : os.length = n at *
  have HL : Hid (os.length = n) := hn'
  clear hn'
  go_enter Try.func37, Try.ntmps37
  go_wp2
  go_loopw [0, 5] (fun v iv wr => ∃ i : Nat, i ≤ n ∧ iv = .int .i64 i ∧ wr.ownsRow B 31 2 v (L ++ opv (os.take i)).length (evC (L ++ opv (os.take i))) ∧ Grow (fun k => vl.ownBlock = some k) w wr ∧ (v.ownBlock = vl.ownBlock ∨ ∃ g, v.ownBlock = some g ∧ w.heap.size ≤ g)) (fun _ iv _ => n - (intOf iv).toNat)
  case atStart => exact ⟨0, Nat.zero_le _, rfl, by simpa [opv] using HO0.out, ⟨rfl, rfl, rfl, Nat.le_refl _, fun _ _ _ => rfl⟩, .inl rfl⟩
  case round =>
    obtain ⟨i, hin, rfl, hown, hgr, hat⟩ := hrel
    have hlen : (L ++ opv (os.take i)).length = L.length + i := by rw [List.length_append, opv, List.length_map, List.length_take, HL.out, Nat.min_eq_left hin]
    by_cases hlt : i < n
    · rcases HOS.out with h0 | ⟨bo, oo, rfl, hco⟩
      · omega
      obtain ⟨o, e1⟩ : ∃ o, os[i]? = some o := ⟨_, List.getElem?_eq_getElem (by rw [HL.out]; exact hlt)⟩
      have p1 : (os.map (Value.int .i64))[i]? = some (.int .i64 o) := by rw [List.getElem?_map, e1]; rfl
      have c1 := hco _ _ p1
      have hbo : bo < w.heap.size := World.block_lt_of_cell? w _ c1
      have hne : vl.ownBlock ≠ some bo := HS.out _ _ _ _ rfl
      have d1 : wr.cell? ⟨bo, oo + i, none⟩ = some (.int .i64 o) := by
        rw [← c1]
        simp only [World.cell?, hgr.block bo hbo hne]
      have HST : Hid (opv (os.take (i + 1)) = opv (os.take i) ++ [(3, o)]) := opv_take os i o e1
      have HG : Hid (Grow (fun k => vl.ownBlock = some k) w wr) := hgr
      have HA : Hid _ := hat
      have HO : Hid (wr.ownsRow B 31 2 _ _ _) := hown
      have HLN : Hid ((L ++ opv (os.take i)).length = L.length + i) := hlen
      have HBO : Hid (bo < w.heap.size ∧ vl.ownBlock ≠ some bo) := ⟨hbo, hne⟩
      clear hco p1 c1 e1 hown hgr hat hbo hne
      generalize opv (os.take i) = acc at *
      go_wp2_with (first | (at_builtin; refine wpList_append_own_at _ rfl _ _ 28 rfl B 31 i0 (.agg #[.int .i64 0, .int .i64 0]) 2 16 Try.underlying28 HI.out.1 HI.out.2.1 HI.out.2.2.1 HI.out.2.2.2 rfl (by decide) _ (L ++ acc).length (evC (L ++ acc)) rfl (HO.out.alloc _) ⟨wr.heap.size, 0, none⟩ 1 1 [.int .i64 3, .int .i64 o] rfl rfl ?_ ?_ ?_ ?_ ?_ ?_))
      · intro j u hj
        match j, hj with
        | 0, hj => simp at hj; subst hj; simp [Addr.add]
        | 1, hj => simp at hj; subst hj; simp [Addr.add]
      · intro u hu
        simp at hu
        rcases hu with rfl | rfl <;> rfl
      · unfold maxLen; omega
      · omega
      · have := HG.out.size; have := HBB.out; simp; omega
      · intro v' w1 hown' hgrow hnn hat'
        have R1 : w1.ownsRow B 31 2 v' (L ++ opv (os.take (i + 1))).length (evC (L ++ opv (os.take (i + 1)))) := by
          rw [HST.out, ← List.append_assoc, List.length_append, evC_app, HLN.out]
          exact hown'
        have hsz := HG.out.size
        have R2 : Grow (fun k => vl.ownBlock = some k) w w1 := by
          refine ⟨hgrow.os.trans HG.out.os, hgrow.tape.trans HG.out.tape, hgrow.output.trans HG.out.output, ?_, fun k hk hS => ?_⟩
          · have := hgrow.size
            simp at this
            omega
          · refine (hgrow.block k (by simp; omega) ?_).trans ?_
            · rcases HA.out with h | ⟨g, h, hge⟩
              · rw [h]; exact fun e => hS e.symm
              · rw [h]; intro e; injection e with e; omega
            · rw [heap_alloc_any, if_neg (by omega)]
              exact HG.out.block k hk hS
        have R3 : v'.ownBlock = vl.ownBlock ∨ ∃ g, v'.ownBlock = some g ∧ w.heap.size ≤ g := by
          rcases hat' with h | h
          · rw [h]; exact HA.out
          · exact .inr ⟨_, h, by omega⟩
        have HR1 : Hid _ := R1
        have HR2 : Hid _ := R2
        have HR3 : Hid _ := R3
        clear hown' hgrow hnn hat' R1 R2 R3 hsz
        go_wp2
        go_roundw
        case rel => exact ⟨i + 1, by omega, by go_num, HR1.out, HR2.out, HR3.out⟩
        case measure => simp [intOf]; omega
    · have hi' : i = n := by omega
      subst hi'
      have ht : os.take os.length = os := List.take_length
      have HT : Hid (os.take i = os) := by rw [← HL.out]; exact ht
      rw [HT.out] at hown
      have HO : Hid (wr.ownsRow B 31 2 _ _ _) := hown
      have HG : Hid (Grow (fun k => vl.ownBlock = some k) w wr) := hgr
      have HA : Hid _ := hat
      clear hown hgr hat ht hlen
      go_wp2
      go_ret
      exact ⟨_, rfl, HO.out, HG.out, HA.out⟩
end Go.Proofs.Ytlffamcifahbjaa
namespace Go.Proofs.Ytlffamcifahbjaa
set_option linter.unusedSimpArgs false
set_option linter.unusedSectionVars false
open Go.ChangeShapes Go.WideShapes Go.ChangeAt Go.RowKit Go.Pin Go.Fld
/-- a Recorder, or none, and boxes beside it, all from B on -/
structure Ev (B : Nat) (w : World) (rv : Value) (l : List (Int × Int)) (bx : List (Nat × Obj)) (wr : World) : Prop where
  old : Below B w wr
  le : B ≤ wr.heap.size
  ge : ∀ p ∈ bx, B ≤ p.1
  at' : ∀ p ∈ bx, wr.heap[p.1]? = some p.2
  rc : rv = .pointer none ∨ ∃ R vs, rv = .pointer (some ⟨R, 0, none⟩) ∧ Rec B wr R vs l ∧ ∀ p ∈ bx, ¬ Blk R vs p.1
theorem heap_lt {w : World} {g : Nat} {o : Obj} (h : w.heap[g]? = some o) : g < w.heap.size := (Array.getElem?_eq_some_iff.1 h).1
section
variable {B : Nat} {w : World} {rv : Value} {l : List (Int × Int)} {bx : List (Nat × Obj)} {wr w' : World}
theorem Ev.row (h : Ev B w rv l bx wr) {g : Nat} {x : Obj} (hp : (g, x) ∈ bx) : wr.heap[g]? = some x := h.at' _ hp
theorem Ev.lt (h : Ev B w rv l bx wr) {g : Nat} {x : Obj} (hp : (g, x) ∈ bx) : g < wr.heap.size := heap_lt (h.row hp)
theorem Ev.below (h : Ev B w rv l bx wr) (hb : Below wr.heap.size wr w') : Ev B w rv l bx w' := by
  refine ⟨h.old.trans (hb.mono h.le), Nat.le_trans h.le hb.size, h.ge, fun p hp => (hb.block _ (heap_lt (h.at' p hp))).trans (h.at' p hp), ?_⟩
  rcases h.rc with e | ⟨R, vs, e, h2, h3⟩
  · exact .inl e
  · exact .inr ⟨R, vs, e, h2.below hb, h3⟩
theorem Ev.drew (h : Ev B w rv l bx wr) : Ev B w rv l bx wr.drew := h.below ⟨rfl, rfl, rfl, Nat.le_refl _, fun _ _ => rfl⟩
theorem Ev.sub (h : Ev B w rv l bx wr) {by' : List (Nat × Obj)} (hs : ∀ p ∈ by', p ∈ bx) : Ev B w rv l by' wr := by
  refine ⟨h.old, h.le, fun p hp => h.ge p (hs p hp), fun p hp => h.at' p (hs p hp), ?_⟩
  rcases h.rc with e | ⟨R, vs, e, h2, h3⟩
  · exact .inl e
  · exact .inr ⟨R, vs, e, h2, fun p hp => h3 p (hs p hp)⟩
theorem Ev.new (h : Ev B w rv l bx wr) (x : Obj) : Ev B w rv l ((wr.heap.size, x) :: bx) (wr.alloc x) := by
  have hb : Below wr.heap.size wr (wr.alloc x) := (Below.refl _ _).alloc (Nat.le_refl _) _
  have h' := h.below hb
  refine ⟨h'.old, h'.le, fun p hp => ?_, fun p hp => ?_, ?_⟩
  · rcases List.mem_cons.1 hp with rfl | hp
    · exact h.le
    · exact h.ge p hp
  · rcases List.mem_cons.1 hp with rfl | hp
    · simp only [heap_alloc_any, if_true]
    · exact h'.at' p hp
  · rcases h.rc with e | ⟨R, vs, e, h2, h3⟩
    · exact .inl e
    · refine .inr ⟨R, vs, e, h2.below hb, fun p hp => ?_⟩
      rcases List.mem_cons.1 hp with rfl | hp
      · intro hk; have := h2.lt _ hk; simp at this
      · exact h3 p hp
/-- a box is written -/
theorem Ev.set (h : Ev B w rv l bx wr) {g : Nat} {o y : Obj} {b2 : List (Nat × Obj)} (e : bx = (g, o) :: b2) (hne : ∀ p ∈ b2, p.1 ≠ g) (hb : But (fun k => k = g) wr w') (hy : w'.heap[g]? = some y) : Ev B w rv l ((g, y) :: b2) w' := by
  subst e
  have hg : B ≤ g := h.ge (g, o) (by simp)
  refine ⟨h.old.trans (hb.below (fun k hk => by omega)), by rw [hb.size]; exact h.le, fun p hp => ?_, fun p hp => ?_, ?_⟩
  · rcases List.mem_cons.1 hp with rfl | hp
    · exact hg
    · exact h.ge p (by simp [hp])
  · rcases List.mem_cons.1 hp with rfl | hp
    · exact hy
    · exact (hb.block _ (hne p hp)).trans (h.at' p (by simp [hp]))
  · rcases h.rc with e | ⟨R, vs, e, h2, h3⟩
    · exact .inl e
    · have hgr : Grow (fun k => k = g) wr w' := ⟨hb.os, hb.tape, hb.output, by rw [hb.size]; exact Nat.le_refl _, fun k _ hk => hb.block k hk⟩
      refine .inr ⟨R, vs, e, h2.grow hgr (fun k hk hn => by subst hn; exact h3 (k, o) (by simp) hk), fun p hp => ?_⟩
      rcases List.mem_cons.1 hp with rfl | hp
      · exact h3 (g, o) (by simp)
      · exact h3 p (by simp [hp])
/-- one operation is logged -/
theorem Ev.op (h : Ev B w rv l bx wr) (hl : l.length ≤ 1000000) (v : Int) : ∃ Q, Opc rv v wr Q ∧ ∀ w', Opd Q wr w' → Ev B w rv (l ++ [(3, v)]) bx w' := by
  rcases h.rc with e | ⟨R, vs, e, h2, h3⟩
  · subst e
    exact ⟨_, opc_nil v wr, fun w' ho => by
      have := h.below ho.nil
      exact ⟨this.old, this.le, this.ge, this.at', .inl rfl⟩⟩
  · subst e
    refine ⟨_, opc_rec v h2 hl, fun w' ho => ?_⟩
    obtain ⟨vs', g1, g2, g3⟩ := Opd.rec h2 ho
    have hR := h2.lt R (.inl rfl)
    refine ⟨h.old.trans (g2.below h2.ge h.le), Nat.le_trans h.le g2.size, h.ge, fun p hp => (g2.block _ (heap_lt (h.at' p hp)) (h3 p hp)).trans (h.at' p hp), .inr ⟨R, vs', rfl, g1, fun p hp hk => ?_⟩⟩
    have hlt : p.1 < wr.heap.size := heap_lt (h.at' p hp)
    rcases hk with hk | hk
    · exact h3 p hp (.inl hk)
    · rcases g3 with g3 | ⟨g, g3, hge⟩
      · exact h3 p hp (.inr (g3 ▸ hk))
      · rw [g3] at hk; injection hk with hk; omega
/-- Op itself -/
theorem v_op (h : Ev B w rv l bx wr) (hl : l.length ≤ 1000000) (v : Int) : Calls Try.prog 44 #[rv, .int .i64 v] wr fun e w' => e = .returned (.tuple #[]) ∧ Ev B w rv (l ++ [(3, v)]) bx w' := by
  obtain ⟨Q, h1, h2⟩ := h.op hl v
  exact (h1.call wr (Below.refl _ _)).mono fun e w' hh => ⟨hh.1, h2 w' ⟨wr, w', Below.refl _ _, hh.2, ⟨rfl, rfl, rfl, Nat.le_refl _, fun _ _ _ => rfl⟩⟩⟩
theorem ev_nil (w : World) (bx : List (Nat × Obj)) (h : ∀ p ∈ bx, w.heap[p.1]? = some p.2) (l : List (Int × Int)) : Ev 0 w (.pointer none) l bx w :=
  ⟨Below.refl _ _, Nat.zero_le _, fun _ _ => Nat.zero_le _, h, .inl rfl⟩
theorem ev_nil' (w : World) : Ev w.heap.size w (.pointer none) [] [] w :=
  ⟨Below.refl _ _, Nat.le_refl _, by simp, by simp, .inl rfl⟩
theorem ev_new (w : World) : Ev w.heap.size w (.pointer (some ⟨w.heap.size, 0, none⟩)) [] [] (w.alloc (.cells #[.slice none 0 0, .int .i64 0] 46)) :=
  ⟨(Below.refl _ _).alloc (Nat.le_refl _) _, by simp, by simp, by simp, .inr ⟨_, _, rfl, rec_new w, by simp⟩⟩
end
theorem o_add {a b : List Int} (ha : Lim a) (hb : Lim b) : ∃ x, Lim x ∧ num x = (num a + num b) % P ∧
    Hid (∀ B w rv l bx wr, Ev B w rv l bx wr → l.length ≤ 1000000 → Calls Try.prog 40 #[rv, .agg (VI .u64 a), .agg (VI .u64 b)] wr fun e w' => e = .returned (.agg (VI .u64 x)) ∧ Ev B w rv (l ++ [(3, 1)]) bx w') := by
  refine ⟨_, add_lim ha hb, num_add ha hb, fun B w rv l bx wr h hl => ?_⟩
  obtain ⟨Q, h1, h2⟩ := h.op hl 1
  exact (add_any _ _ _ ha hb wr Q h1).mono fun er w' hh => ⟨hh.1, h2 w' hh.2⟩
theorem o_sub {a b : List Int} (ha : Lim a) (hb : Lim b) : ∃ x, Lim x ∧ num x = (num a + (P - num b)) % P ∧
    Hid (∀ B w rv l bx wr, Ev B w rv l bx wr → l.length ≤ 1000000 → Calls Try.prog 42 #[rv, .agg (VI .u64 a), .agg (VI .u64 b)] wr fun e w' => e = .returned (.agg (VI .u64 x)) ∧ Ev B w rv (l ++ [(3, 2)]) bx w') := by
  refine ⟨_, subs_lim ha hb, num_sub ha hb, fun B w rv l bx wr h hl => ?_⟩
  obtain ⟨Q, h1, h2⟩ := h.op hl 2
  exact (sub_any _ _ _ ha hb wr Q h1).mono fun er w' hh => ⟨hh.1, h2 w' hh.2⟩
theorem o_mul {a b : List Int} (ha : Lim a) (hb : Lim b) : ∃ x, Lim x ∧ num x = num a * num b % P ∧
    Hid (∀ B w rv l bx wr, Ev B w rv l bx wr → l.length ≤ 1000000 → Calls Try.prog 25 #[rv, .agg (VI .u64 a), .agg (VI .u64 b)] wr fun e w' => e = .returned (.agg (VI .u64 x)) ∧ Ev B w rv (l ++ [(3, 3)]) bx w') := by
  refine ⟨_, prod_lim ha hb, num_prod ha hb, fun B w rv l bx wr h hl => ?_⟩
  obtain ⟨Q, h1, h2⟩ := h.op hl 3
  exact (mul_any _ _ _ ha hb wr Q h1).mono fun er w' hh => ⟨hh.1, h2 w' hh.2⟩
theorem o_square {a : List Int} (ha : Lim a) : ∃ x, Lim x ∧ num x = num a * num a % P ∧
    Hid (∀ B w rv l bx wr, Ev B w rv l bx wr → l.length ≤ 1000000 → Calls Try.prog 41 #[rv, .agg (VI .u64 a)] wr fun e w' => e = .returned (.agg (VI .u64 x)) ∧ Ev B w rv (l ++ [(3, 4)]) bx w') := by
  refine ⟨_, prod_lim ha ha, num_prod ha ha, fun B w rv l bx wr h hl => ?_⟩
  obtain ⟨Q, h1, h2⟩ := h.op hl 4
  exact (square_any _ _ ha wr Q h1).mono fun er w' hh => ⟨hh.1, h2 w' hh.2⟩
theorem o_scale {a : List Int} (ha : Lim a) : ∃ x, Lim x ∧ num x = num a * 121665 % P ∧
    Hid (∀ B w rv l bx wr, Ev B w rv l bx wr → l.length ≤ 1000000 → Calls Try.prog 43 #[rv, .agg (VI .u64 a), .int .u32 121665] wr fun e w' => e = .returned (.agg (VI .u64 x)) ∧ Ev B w rv (l ++ [(3, 5)]) bx w') := by
  have hs : Lim [121665, 0, 0, 0, 0] := lim_small 121665 (by decide) (by decide)
  have hn : num (prod a [121665, 0, 0, 0, 0]) = num a * 121665 % P := by
    rw [num_prod ha hs]
    have := num_small 121665 (by decide)
    rw [show ([121665, 0, 0, 0, 0] : List Int) = [((121665 : Nat) : Int), 0, 0, 0, 0] from rfl, this]
  refine ⟨_, prod_lim ha hs, hn, fun B w rv l bx wr h hl => ?_⟩
  obtain ⟨Q, h1, h2⟩ := h.op hl 5
  exact (scale_any _ _ 121665 (by decide) (by decide) ha wr Q h1).mono fun er w' hh => ⟨hh.1, h2 w' hh.2⟩
theorem o_invert {a : List Int} (ha : Lim a) : ∃ x, Lim x ∧ num x = qwn (num a) 5 ∧
    Hid (∀ B w rv l bx wr, Ev B w rv l bx wr → l.length ≤ 1000000 → Calls Try.prog 26 #[rv, .agg (VI .u64 a)] wr fun e w' => e = .returned (.agg (VI .u64 x)) ∧ Ev B w rv (l ++ [(3, 6)]) bx w') := by
  refine ⟨_, qw_lim ha 5, num_qw ha 5, fun B w rv l bx wr h hl => ?_⟩
  obtain ⟨Q, h1, h2⟩ := h.op hl 6
  exact (invert_any _ _ ha wr Q h1).mono fun er w' hh => ⟨hh.1, h2 w' hh.2⟩
/-! a row in a block -/
theorem heap_setCells_other (b : Nat) : ∀ (vs : List Value) (o : Nat) (w : World) (k : Nat), k ≠ b → (w.setCells b o vs).heap[k]? = w.heap[k]?
  | [], _, _, _, _ => rfl
  | v :: r, o, w, k, h => by rw [World.setCells, heap_setCells_other b r _ _ k h, heap_setCell_other _ _ _ _ h]
theorem but_setCells (b : Nat) : ∀ (vs : List Value) (o : Nat) (w : World), But (fun k => k = b) w (w.setCells b o vs)
  | [], _, _ => But.refl _ _
  | v :: r, o, w => by
    rw [World.setCells]
    exact But.trans ((But.refl (fun k => k = b) w).setCell (p := ⟨b, o, none⟩) rfl v) (but_setCells b r _ _)
theorem VI_set (k : IntKind) (pre post : List Int) (y x : Int) : (VI k (pre ++ y :: post)).setIfInBounds pre.length (.int k x) = VI k (pre ++ x :: post) := by
  unfold VI
  rw [List.setIfInBounds_toArray]
  simp [List.set_append_right]
theorem heap_setCells_mid (b : Nat) {T : TypeId} : ∀ (x old pre post : List Int) (w : World), old.length = x.length → w.heap[b]? = some (.cells (VI .u64 (pre ++ (old ++ post))) T (0, 0)) →
    (w.setCells b pre.length (x.map (Value.int .u64))).heap[b]? = some (.cells (VI .u64 (pre ++ (x ++ post))) T (0, 0))
  | [], old, pre, post, w, hl, h => by
    have : old = [] := List.length_eq_zero_iff.1 (by simpa using hl)
    subst this
    exact h
  | z :: x, [], pre, post, w, hl, h => by simp at hl
  | z :: x, y :: old, pre, post, w, hl, h => by
    rw [List.map_cons, World.setCells]
    have h1 := heap_setCell_same w b pre.length _ _ (Value.int .u64 z) h
    rw [List.cons_append, VI_set] at h1
    have h2 := heap_setCells_mid (T := T) b x old (pre ++ [z]) post _ (by simpa using hl) (by rw [h1]; simp)
    rw [List.length_append] at h2
    simpa using h2
theorem range_mid {w : World} {b : Nat} {T : TypeId} {pre a post : List Int} (h : w.heap[b]? = some (.cells (VI .u64 (pre ++ (a ++ post))) T (0, 0))) : w.rangeAt b pre.length (a.map (Value.int .u64)) := by
  intro j v hv
  rw [cell_of_row w b (pre.length + j) _ T (0, 0) h]
  rw [List.getElem?_map] at hv
  cases hj : a[j]? with
  | none => rw [hj] at hv; cases hv
  | some x =>
    rw [hj] at hv
    have hlt : j < a.length := (List.getElem?_eq_some_iff.1 hj).1
    simp only [VI, List.getElem?_toArray, List.getElem?_map]
    rw [List.getElem?_append_right (by omega), Nat.add_sub_cancel_left, List.getElem?_append_left hlt, hj]
    exact hv
theorem there_mid {w : World} {b : Nat} {T : TypeId} {cs : Array Value} (h : w.heap[b]? = some (.cells cs T (0, 0))) (o n : Nat) (hn : o + n ≤ cs.size) : w.there b o n := by
  intro j hj
  refine ⟨?_, by simp [World.frozen?, h]⟩
  rw [cell_of_row w b (o + j) _ T (0, 0) h]
  simp; omega
/-- an Element's box; the four of the ladder -/
abbrev bxE (x : List Int) : Obj := .cells (VI .u64 x) 51
abbrev bxK (x : List Int) : Obj := .cells (VI .u8 x) 23
def ro (a b c d : List Int) : Obj := .cells (VI .u64 (a ++ (b ++ (c ++ d)))) 54
theorem infoE5 {x : List Int} (h : x.length = 5) : (Try.prog.info? 51).map (·.size) = some x.length := by rw [h]; kernel_rfl
theorem infoE5' {x : List Int} (h : x.length = 5) : (Try.prog.info? 51).map (·.size) = some (VI .u64 x).size := by rw [VI_size, h]; kernel_rfl
section
variable {w : World} {T : Nat} {a b c d : List Int} (ha : a.length = 5) (hb : b.length = 5) (hc : c.length = 5) (hd : d.length = 5) (h : w.heap[T]? = some (ro a b c d))
include ha hb hc hd h
theorem ro_0 : w.rangeAt T 0 (a.map (Value.int .u64)) := range_mid (pre := []) h
theorem ro_5 : w.rangeAt T 5 (b.map (Value.int .u64)) := by have := range_mid (pre := a) h; rwa [ha] at this
theorem ro_10 : w.rangeAt T 10 (c.map (Value.int .u64)) := by
  have := range_mid (pre := a ++ b) (a := c) (post := d) (by unfold ro at h; simpa using h); rwa [List.length_append, ha, hb] at this
theorem ro_15 : w.rangeAt T 15 (d.map (Value.int .u64)) := by
  have := range_mid (pre := a ++ (b ++ c)) (a := d) (post := []) (by unfold ro at h; simpa using h); rwa [List.length_append, List.length_append, ha, hb, hc] at this
theorem ro_th (o : Nat) (ho : o ≤ 15) : w.there T o 5 := there_mid h o 5 (by rw [VI_size]; simp [ha, hb, hc, hd]; omega)
variable {x : List Int} (hx : x.length = 5)
include hx
theorem ro_s0 : (w.setCells T 0 (x.map (Value.int .u64))).heap[T]? = some (ro x b c d) := heap_setCells_mid T x a [] (b ++ (c ++ d)) w (ha.trans hx.symm) h
theorem ro_s5 : (w.setCells T 5 (x.map (Value.int .u64))).heap[T]? = some (ro a x c d) := by have := heap_setCells_mid T x b a (c ++ d) w (hb.trans hx.symm) h; rwa [ha] at this
theorem ro_s10 : (w.setCells T 10 (x.map (Value.int .u64))).heap[T]? = some (ro a b x d) := by
  have := heap_setCells_mid T x c (a ++ b) d w (hc.trans hx.symm) (by unfold ro at h; simpa using h)
  rw [List.length_append, ha, hb] at this
  unfold ro; simpa using this
theorem ro_s15 : (w.setCells T 15 (x.map (Value.int .u64))).heap[T]? = some (ro a b c x) := by
  have := heap_setCells_mid T x d (a ++ (b ++ c)) [] w (hd.trans hx.symm) (by unfold ro at h; simpa using h)
  rw [List.length_append, List.length_append, ha, hb, hc] at this
  unfold ro; simpa using this
end
theorem whole_set {w : World} {g : Nat} {z x : List Int} (h : w.heap[g]? = some (bxE z)) (hl : z.length = x.length) : (w.setCells g 0 (x.map (Value.int .u64))).heap[g]? = some (bxE x) := by
  have := heap_setCells_mid g x z [] [] w hl (by simpa using h)
  simpa using this
theorem zeroE : VI .u64 [0, 0, 0, 0, 0] = #[.int .u64 0, .int .u64 0, .int .u64 0, .int .u64 0, .int .u64 0] := rfl
end Go.Proofs.Ytlffamcifahbjaa
