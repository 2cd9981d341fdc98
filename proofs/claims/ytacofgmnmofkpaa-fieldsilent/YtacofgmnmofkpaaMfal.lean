import Derived.Maps.AppendAt
import Derived.Deep.RegionHeld3
import Derived.Deep.MidRow
import Derived.Test.YtacofgmnmofkpaaMfak
import Derived.Test.YtacofgmnmofkpaaMfaj
import Derived.Test.YtacofgmnmofkpaaMfag
import Derived.Test.YtacofgmnmofkpaaMfai
import Derived.Test.YtacofgmnmofkpaaMfaa
namespace Go.Proofs.Ytacofgmnmofkpaa
set_option linter.unusedSimpArgs false
open Go.ChangeShapes Go.WideShapes Go.ChangeAt Go.RowKit Go.Pin Go.Shelf
attribute [local go_sem] Oper.semAt_some
set_option maxRecDepth 100000 in
theorem since_any (v : Value) (n : Int) (w : World) (hv : ∃ p, v = .pointer p) :
    Calls Try.prog 25 #[v, .int .i64 n] w fun e w' => e = .returned (.func (.func 51) #[] #[.pointer (some ⟨w.heap.size, 0, none⟩), .pointer (some ⟨w.heap.size + 1, 0, none⟩)]) ∧ w' = (w.alloc (.cells #[v] 23)).alloc (.cells #[.int .i64 n] 3) := by
  obtain ⟨p, rfl⟩ := hv
  go_enter Try.func25, Try.ntmps25
  go_wp2
  go_ret
  exact ⟨rfl, rfl⟩
theorem grow_of_lt {n₀ : Nat} {W X : World} (h : Below n₀ W X) : Grow (fun k => n₀ ≤ k) W X := ⟨h.os, h.tape, h.output, h.size, fun k _ hn => h.block k (by omega)⟩
theorem since_stops (b1 b2 n₀ : Nat) (v vs : Value) (n : Int) (l : List (Int × Int)) (hl : l.length ≤ 1000000) (w : World) (hr : RecO w v vs l) (hv : ∀ k, vs.ownBlock = some k → k < n₀) (hn : n₀ ≤ w.heap.size)
    (h1 : w.cell? ⟨b1, 0, none⟩ = some v) (h2 : w.cell? ⟨b2, 0, none⟩ = some (.int .i64 n)) :
    SeqStopsK Fence.wide 4 Try.prog 51 #[.pointer (some ⟨b1, 0, none⟩), .pointer (some ⟨b2, 0, none⟩)] (fun x : Int × Int => #[evV x]) (Below n₀) (fun ys => ys = beh l n) (fun pre => pre <+: beh l n) l.length w := by
  intro l' J Jx W hW hJ hJx hY h0
  have hr' := hr.below hW
  have c1 : W.cell? ⟨b1, 0, none⟩ = some v := (hW.cell (p := ⟨b1, 0, none⟩) (World.block_lt_of_cell? w _ h1)).trans h1
  have c2 : W.cell? ⟨b2, 0, none⟩ = some (.int .i64 n) := (hW.cell (p := ⟨b2, 0, none⟩) (World.block_lt_of_cell? w _ h2)).trans h2
  refine (since1_in l' b1 b2 v vs n l hl (fun pre X => J pre X ∧ Below n₀ W X) Jx W ?_ ?_ ?_ hr' c1 c2 ⟨h0, Below.refl _ _⟩).mono ?_
  · intro pre X o ⟨hj, hb⟩
    exact ⟨hJ pre X _ none hj (World.grownBy_alloc X o none) (fun r e => by cases e), hb.alloc (by have := hb.size; have := hW.size; omega) o⟩
  · intro pre X ⟨_, hb⟩
    exact sl_grow (grow_of_lt hb) hr'.sl (fun k hk => by have := hv k hk; omega)
  · intro pre x X ⟨hj, hb⟩ hlt _
    obtain ⟨fn, tmps, assign, body, hy, hR⟩ := hY pre x X hj hlt
    refine ⟨fn, tmps, assign, body, hy, hR.mono ?_⟩
    rintro e X' (⟨rfl, hj', hk⟩ | ⟨rfl, hj'⟩)
    · exact .inl ⟨rfl, hj', hb.trans hk⟩
    · exact .inr ⟨rfl, hj'⟩
  · rintro e W' ⟨he, ⟨hj, _⟩ | ⟨pre, hp, hj⟩⟩
    · exact ⟨he, .inl ⟨_, rfl, hj⟩⟩
    · exact ⟨he, .inr ⟨_, hp, hj⟩⟩
/-- a variable's box of two cells -/
def Boxed2 (W : World) (B : Nat) (t : TypeId) (a b : Value) : Prop := W.heap[B]? = some (.cells #[a, b] t (0, 0))
theorem Boxed2.cell0 {W : World} {B : Nat} {t : TypeId} {a b : Value} (h : Boxed2 W B t a b) : W.cell? ⟨B, 0, none⟩ = some a := by simp [World.cell?, show W.heap[B]? = _ from h]
theorem Boxed2.cell1 {W : World} {B : Nat} {t : TypeId} {a b : Value} (h : Boxed2 W B t a b) : W.cell? ⟨B, 1, none⟩ = some b := by simp [World.cell?, show W.heap[B]? = _ from h]
theorem Boxed2.new (W : World) (t : TypeId) (a b : Value) : Boxed2 (W.alloc (.cells #[a, b] t)) W.heap.size t a b := World.alloc_heap_new W _
theorem Boxed2.turn {X Y : World} {row : Option Nat} {B : Nat} {t : TypeId} {a b : Value} (h : Boxed2 X B t a b) (hg : X.grownBy Y row) (hr : ∀ r, row = some r → ∃ o : Obj, X.heap[r]? = some o ∧ o.isCells = false) : Boxed2 Y B t a b :=
  (hg.block B (Array.getElem?_eq_some_iff.1 h).1 (fun e => by obtain ⟨o, ho, hc⟩ := hr B e.symm; rw [show X.heap[B]? = _ from h] at ho; cases ho; cases hc)).trans h
set_option maxRecDepth 100000 in
set_option maxHeartbeats 2000000 in
theorem events_in (v vs : Value) (l : List (Int × Int)) (hl : l.length ≤ 1000000) (w : World) (hr : RecO w v vs l) :
    CallsIn Fence.wide 5 Try.prog 9 #[v] w fun e W' => ∃ u, e = .returned u ∧ W'.ownsRow w.heap.size 36 2 u l.length (evC l) ∧ Below w.heap.size w W' := by
  obtain ⟨i0, hi, hz0, hz1, hz2⟩ := info_parts info37
  have HI : Hid _ := And.intro hi (And.intro hz0 (And.intro hz1 hz2))
  clear hi hz0 hz1 hz2
  have HR : Hid (RecO w v vs l) := hr
  have hv : ∃ p, v = .pointer p := by rcases hr with ⟨rfl, _⟩ | ⟨_, _, rfl, _⟩ <;> exact ⟨_, rfl⟩
  clear hr
  obtain ⟨p, rfl⟩ := hv
  refine callsIn_of_wp_marks Try.func9 rfl trivial ?_ rfl
  simp only [Try.ntmps9, List.size_toArray, List.length_cons, List.length_nil, Nat.reduceAdd, Nat.reduceSub, Array.replicate_succ, Array.replicate_zero, List.push_toArray, List.append_toArray, List.nil_append, List.cons_append]
  gi_wp2_with (first | (refine ⟨trivial, ?_⟩; gi_at_call 13; refine (callsIn_wide.2 (total_any _ _ l _ HR.out)).mono ?_; rintro e w' ⟨rfl, rfl⟩) | (gi_at_make; refine wpListIn_make_own _ rfl _ _ 26 rfl w'.heap.size 36 i0 (.agg #[.int .i64 0, .int .i64 0]) 2 Try.underlying26 HI.out.1 HI.out.2.1 HI.out.2.2.1 .i64 .i64 l.length l.length rfl rfl rfl (by rw [HI.out.2.2.2]; omega) (by unfold maxLen; omega) (Nat.le_refl _) ?_; intro w1 hown hgrow) | (refine ⟨trivial, ?_⟩; gi_at_call 25; refine (callsIn_wide.2 (since_any _ 0 _ ⟨_, rfl⟩)).mono ?_; rintro e w' ⟨rfl, rfl⟩))
  have hB1 : Below w'.heap.size w' w1 := (Below.refl _ w').grown hgrow (Nat.le_refl _) (fun k e => by cases e)
  have hs1 := hB1.size
  have bO := ((Boxed.new w1 26 (.slice (some ⟨w'.heap.size, 0, none⟩) 0 l.length)).alloc (.cells #[.pointer p] 23)).alloc (.cells #[.int .i64 0] 3)
  have bR := (Boxed.new (w1.alloc (.cells #[.slice (some ⟨w'.heap.size, 0, none⟩) 0 l.length] 26)) 23 (.pointer p)).alloc (.cells #[.int .i64 0] 3)
  have bN := Boxed.new ((w1.alloc (.cells #[.slice (some ⟨w'.heap.size, 0, none⟩) 0 l.length] 26)).alloc (.cells #[.pointer p] 23)) 3 (.int .i64 0)
  simp only [World.size_alloc] at bR bN
  have hB0 : Below w'.heap.size w' (((w1.alloc (.cells #[.slice (some ⟨w'.heap.size, 0, none⟩) 0 l.length] 26)).alloc (.cells #[.pointer p] 23)).alloc (.cells #[.int .i64 0] 3)) := ((hB1.alloc (by omega) _).alloc (by simp; omega) _).alloc (by simp; omega) _
  have hrow := ((hown.alloc (.cells #[.slice (some ⟨w'.heap.size, 0, none⟩) 0 l.length] 26)).alloc (.cells #[.pointer p] 23)).alloc (.cells #[.int .i64 0] 3)
  have hsz : (((w1.alloc (.cells #[.slice (some ⟨w'.heap.size, 0, none⟩) 0 l.length] 26)).alloc (.cells #[.pointer p] 23)).alloc (.cells #[.int .i64 0] 3)).heap.size = w1.heap.size + 3 := by simp
  obtain ⟨W0, hW0⟩ : ∃ W0, ((w1.alloc (.cells #[.slice (some ⟨w'.heap.size, 0, none⟩) 0 l.length] 26)).alloc (.cells #[.pointer p] 23)).alloc (.cells #[.int .i64 0] 3) = W0 := ⟨_, rfl⟩
  rw [hW0] at bO bR bN hB0 hrow hsz ⊢
  clear hW0 hown hgrow hB1
  obtain ⟨o0, ho0⟩ : ∃ o0, w1.heap.size = o0 := ⟨_, rfl⟩
  rw [ho0] at bO bR bN hs1 hsz ⊢
  clear ho0 w1
  have hvb : ∀ k, vs.ownBlock = some k → k < w'.heap.size := fun k hk => (HR.out.owns.lt k hk).2
  have hbeh : beh l 0 = l := by simp [beh]
  refine wpIn_rangeFunc_ownH (F := Fence.wide) (n := 5) rfl (by decide) (gf := 51) (lb := #[.pointer (some ⟨o0 + 1, 0, none⟩), .pointer (some ⟨o0 + 1 + 1, 0, none⟩)]) rfl trivial (enters_of Try.func51 (by kernel_rfl) rfl)
    (since_stops (o0 + 1) (o0 + 1 + 1) w'.heap.size (.pointer p) vs 0 l hl W0 (HR.out.below hB0) hvb (by omega) bR.cell bN.cell) belowK_t (belowK_b (by omega)) (Below.refl _ _) (fun _ => rfl)
    (fun pre W => (∃ u, Boxed W o0 26 u ∧ W.ownsRow w'.heap.size 36 2 u pre.length (evC pre) ∧ True) ∧ Below w'.heap.size w' W)
    (fun _ _ _ => False)
    (OwnFrom.and (Own.from (holdsRow_own w'.heap.size o0 26 36 2 (fun pre => List.length pre) (fun pre => evC pre) (fun _ _ => True)) _) (ownFrom_below (Nat.le_refl _) (by omega)))
    (fun _ _ _ _ _ hs _ _ => hs)
    ⟨⟨_, bO, hrow, trivial⟩, hB0⟩
    (fun x a' W => ∃ Bx, Boxed2 W Bx 36 (.int .i64 x.1) (.int .i64 x.2) ∧ a' = { tmps := #[.pointer p, undef, .slice none 0 0, .pointer (some ⟨o0, 0, none⟩), .pointer (some ⟨Bx, 0, none⟩), .pointer p, .int .i64 l.length, .slice (some ⟨w'.heap.size, 0, none⟩) 0 l.length, .pointer p, .func (.func 51) #[] #[.pointer (some ⟨o0 + 1, 0, none⟩), .pointer (some ⟨o0 + 1 + 1, 0, none⟩)], evV x, undef, undef, undef, undef, undef], defers := [] })
    (fun x a' _ X Y row hs hg hr => by obtain ⟨Bx, h2, h3⟩ := hs; exact ⟨Bx, h2.turn hg (fun r e => (hr r e).2), h3⟩)
    ?assign ?body ?done ?stop
  case assign =>
    rintro l1 pre ⟨x1, x2⟩ W K ⟨⟨u, bO1, hr1, _⟩, hB1⟩ hK
    simp only [evV] at hK ⊢
    gi_wp2
    exact hK _ _ ((KeepsOthers.alloc _ _).from _) ((Below.refl _ W).alloc hB1.size _) ⟨⟨u, bO1.alloc _, hr1.alloc _, trivial⟩, hB1.alloc hB1.size _⟩ ⟨W.heap.size, Boxed2.new W 36 _ _, rfl⟩
  case body =>
    rintro l1 pre ⟨x1, x2⟩ a' W hl1 ⟨r, hr1⟩ ⟨⟨u, bO1, hrw, _⟩, hB1⟩ ⟨Bx, bX, rfl⟩ hlt
    have cO := bO1.cell
    have cX0 := bX.cell0
    have cX1 := bX.cell1
    simp only at cX0 cX1
    have HRW : Hid (W.ownsRow w'.heap.size 36 2 u pre.length (evC pre)) := hrw
    have HB1 : Hid (Below w'.heap.size w' W) := hB1
    have HO1 : Hid (Boxed W o0 26 u) := bO1
    clear bX hr1 hrw hB1 bO1
    gi_wp2_with (gi_at_builtin; refine wpListIn_append_own _ rfl _ _ 26 rfl w'.heap.size 36 i0 (.agg #[.int .i64 0, .int .i64 0]) 2 16 Try.underlying26 HI.out.1 HI.out.2.1 HI.out.2.2.1 HI.out.2.2.2 rfl (by decide) _ pre.length (evC pre) rfl (HRW.out.alloc _) ⟨W.heap.size, 0, none⟩ 1 1 [.int .i64 x1, .int .i64 x2] rfl rfl ?_ ?_ ?_ ?_ ?_ ?_)
    · intro j u hj
      match j, hj with
      | 0, hj => simp at hj; subst hj; simp [Addr.add]
      | 1, hj => simp at hj; subst hj; simp [Addr.add]
    · intro u hu
      simp at hu
      rcases hu with rfl | rfl <;> rfl
    · unfold maxLen; omega
    · omega
    · have := HB1.out.size; simp; omega
    · intro v' w2 hown' hgrow _
      obtain ⟨g', cap', rfl⟩ := ownsRow_succ hown'
      obtain ⟨hv1, hv2, hr2, hk2, hb2⟩ := HO1.out.appended (by decide) HRW.out HB1.out.size hs1 hown' hgrow
      have hc1 := hv1.cell
      have hf1 := hv1.frozen
      have H2 : Hid (_ ∧ _ ∧ _ ∧ _) := ⟨hv2, hr2, hk2, hb2⟩
      clear hown' hgrow hv1 hv2 hr2 hk2 hb2
      gi_wp2
      obtain ⟨hv2, hr2, hk2, hb2⟩ := H2.out
      exact ⟨hk2.from _, hb2, ⟨_, hv2, by rw [List.length_append, evC_app]; exact hr2, trivial⟩, HB1.out.trans hb2⟩
  case done =>
    rintro D ys W hD rfl ⟨⟨u, bO1, hr1, _⟩, hB1⟩ hK
    have cO := bO1.cell
    gi_wp2
    refine ⟨by simp, .inl ⟨_, _, rfl, run_takeDeferred hK, ?_⟩⟩
    exact ⟨_, results_tmp rfl _ _ _, u, rfl, ownsRow_putObj hr1 _ hK rfl, hB1.trans (belowK_b (w := w') (Nat.le_refl _) W D _ _ (by omega) hK rfl rfl)⟩
  case stop =>
    rintro D c pre W _ _ h _
    exact h.elim
theorem tEvents_any (v vs : Value) (l : List (Int × Int)) (hl : l.length ≤ 1000000) (w : World) (hr : RecO w v vs l) :
    Calls Try.prog 9 #[v] w fun e W' => ∃ u, e = .returned u ∧ W'.ownsRow w.heap.size 36 2 u l.length (evC l) ∧ Below w.heap.size w W' :=
  callsIn_wide.1 (events_in v vs l hl w hr)
end Go.Proofs.Ytacofgmnmofkpaa
namespace Go.Proofs.Ytacofgmnmofkpaa
set_option linter.unusedSimpArgs false
open Go.ChangeShapes Go.WideShapes Go.ChangeAt Go.RowKit Go.Pin
set_option maxRecDepth 100000 in
set_option maxHeartbeats 1000000 in
theorem events_any (va vb : Value) (la lb : List (Int × Int)) (w : World) (ha : Sl w va 2 (evC la) la.length) (hb : Sl w vb 2 (evC lb) lb.length) (hl : la.length ≤ 1000000000) :
    Calls Try.prog 18 #[va, vb] w fun e w' => e = .returned (.bool (la == lb)) ∧ ∃ n, w' = w.drewN n := by
  obtain ⟨_, aa, ca, rfl, _, ha⟩ := ha
  obtain ⟨_, ab, cb, rfl, _, hb⟩ := hb
  by_cases hlen : la.length = lb.length
  · have h1 : ((la.length : Int) != (lb.length : Int)) = false := by simp; omega
    have HA : Hid _ := ha
    have HB : Hid _ := hb
    have HN : Hid _ := hlen
    rw [← hlen] at h1 HB ⊢
    clear ha hb hlen
    generalize hn : la.length = n at *
    have HL : Hid _ := hn
    clear hn
    go_enter Try.func18, Try.ntmps18
    go_wp2
    go_loopw [5] (fun v wr => ∃ i m : Nat, i ≤ n ∧ v = .int .i64 i ∧ wr = w.drewN m ∧ ∀ j, j < i → la[j]? = lb[j]?) (fun v _ => n - (intOf v).toNat)
    case atStart => exact ⟨0, 0, Nat.zero_le _, rfl, rfl, fun j hj => by omega⟩
    case round =>
      obtain ⟨i, m, hi, rfl, rfl, hall⟩ := hrel
      have HALL : Hid _ := hall
      clear hall
      by_cases hlt : i < n
      · rcases HA.out with h0 | ⟨ba, oa, rfl, hca⟩
        · omega
        rcases HB.out with h0 | ⟨bb, ob, rfl, hcb⟩
        · omega
        obtain ⟨⟨xk, xv⟩, e1⟩ : ∃ x, la[i]? = some x := ⟨_, List.getElem?_eq_getElem (by rw [HL.out]; exact hlt)⟩
        obtain ⟨⟨yk, yv⟩, e2⟩ : ∃ x, lb[i]? = some x := ⟨_, List.getElem?_eq_getElem (by rw [← HN.out]; exact hlt)⟩
        obtain ⟨p1, p2⟩ := evC_at la i _ e1
        obtain ⟨q1, q2⟩ := evC_at lb i _ e2
        have c1 := hca _ _ p1
        have c2 := hca _ _ p2
        have c3 := hcb _ _ q1
        have c4 := hcb _ _ q2
        have E1 : Hid _ := e1
        have E2 : Hid _ := e2
        clear hca hcb p1 p2 q1 q2 e1 e2 HA HB
        simp only at c1 c2 c3 c4
        rw [← Nat.add_assoc] at c2 c4
        by_cases hk : xk = yk
        · by_cases hv : xv = yv
          · subst hk
            subst hv
            go_wp2
            go_quiet (fail)
            go_wp2
            go_roundw
            case rel =>
              refine ⟨i + 1, _, by omega, by go_num, rfl, fun j hj => ?_⟩
              by_cases hji : j = i
              · subst hji; rw [E1.out, E2.out]
              · exact HALL.out j (by omega)
            case measure => simp [intOf]; omega
          · have hv' : (xv == yv) = false := by simp [hv]
            subst hk
            have hne : (la == lb) = false := by
              simp
              intro e
              have := E1.out
              rw [e, E2.out] at this
              simp only [Option.some.injEq, Prod.mk.injEq] at this
              exact hv this.2.symm
            clear hv
            go_wp2
            go_quiet (fail)
            go_wp2
            go_ret
            exact ⟨by rw [hne]; rfl, _, drewN_add _ _ _⟩
        · have hk' : (xk == yk) = false := by simp [hk]
          have hne : (la == lb) = false := by
            simp
            intro e
            have := E1.out
            rw [e, E2.out] at this
            simp only [Option.some.injEq, Prod.mk.injEq] at this
            exact hk this.1.symm
          clear hk
          go_wp2
          go_quiet (fail)
          go_wp2
          go_ret
          exact ⟨by rw [hne]; rfl, _, drewN_add _ _ _⟩
      · have hi' : i = n := by omega
        subst hi'
        go_wp2
        go_ret
        refine ⟨?_, _, rfl⟩
        have : la = lb := by
          apply List.ext_getElem?
          intro j
          by_cases hj : j < i
          · exact HALL.out j hj
          · rw [List.getElem?_eq_none (by rw [HL.out]; omega), List.getElem?_eq_none (by rw [← HN.out]; omega)]
        rw [this]
        simp
  · have h1 : ((la.length : Int) != (lb.length : Int)) = true := by simp; omega
    have h2 : (la == lb) = false := by
      simp
      intro e
      exact hlen (by rw [e])
    rw [h2]
    clear ha hb hl
    go_enter Try.func18, Try.ntmps18
    go_wp2
    go_ret
    exact ⟨rfl, 0, rfl⟩

end Go.Proofs.Ytacofgmnmofkpaa
namespace Go.Proofs.Ytacofgmnmofkpaa
set_option linter.unusedSimpArgs false
set_option linter.unusedSectionVars false
open Go.ChangeShapes Go.WideShapes Go.ChangeAt Go.RowKit Go.Pin Go.Fld
/-- a Recorder, or none, and boxes beside it, all from B on -/
structure Ev (B : Nat) (w : World) (rv : Value) (l : List (Int × Int)) (bx : List (Nat × Obj)) (wr : World) : Prop where
  old : Below B w wr
  le : B ≤ wr.heap.size
  ge : ∀ p ∈ bx, B ≤ p.1
  at' : ∀ p ∈ bx, wr.heap[p.1]? = some p.2
  rc : rv = .pointer none ∨ ∃ R vs, rv = .pointer (some ⟨R, 0, none⟩) ∧ Rec B wr R vs l ∧ ∀ p ∈ bx, ¬ Blk R vs p.1
theorem heap_lt {w : World} {g : Nat} {o : Obj} (h : w.heap[g]? = some o) : g < w.heap.size := (Array.getElem?_eq_some_iff.1 h).1
section
variable {B : Nat} {w : World} {rv : Value} {l : List (Int × Int)} {bx : List (Nat × Obj)} {wr w' : World}
theorem Ev.row (h : Ev B w rv l bx wr) {g : Nat} {x : Obj} (hp : (g, x) ∈ bx) : wr.heap[g]? = some x := h.at' _ hp
theorem Ev.lt (h : Ev B w rv l bx wr) {g : Nat} {x : Obj} (hp : (g, x) ∈ bx) : g < wr.heap.size := heap_lt (h.row hp)
theorem Ev.below (h : Ev B w rv l bx wr) (hb : Below wr.heap.size wr w') : Ev B w rv l bx w' := by
  refine ⟨h.old.trans (hb.mono h.le), Nat.le_trans h.le hb.size, h.ge, fun p hp => (hb.block _ (heap_lt (h.at' p hp))).trans (h.at' p hp), ?_⟩
  rcases h.rc with e | ⟨R, vs, e, h2, h3⟩
  · exact .inl e
  · exact .inr ⟨R, vs, e, h2.below hb, h3⟩
theorem Ev.drew (h : Ev B w rv l bx wr) : Ev B w rv l bx wr.drew := h.below ⟨rfl, rfl, rfl, Nat.le_refl _, fun _ _ => rfl⟩
theorem Ev.sub (h : Ev B w rv l bx wr) {by' : List (Nat × Obj)} (hs : ∀ p ∈ by', p ∈ bx) : Ev B w rv l by' wr := by
  refine ⟨h.old, h.le, fun p hp => h.ge p (hs p hp), fun p hp => h.at' p (hs p hp), ?_⟩
  rcases h.rc with e | ⟨R, vs, e, h2, h3⟩
  · exact .inl e
  · exact .inr ⟨R, vs, e, h2, fun p hp => h3 p (hs p hp)⟩
theorem Ev.new (h : Ev B w rv l bx wr) (x : Obj) : Ev B w rv l ((wr.heap.size, x) :: bx) (wr.alloc x) := by
  have hb : Below wr.heap.size wr (wr.alloc x) := (Below.refl _ _).alloc (Nat.le_refl _) _
  have h' := h.below hb
  refine ⟨h'.old, h'.le, fun p hp => ?_, fun p hp => ?_, ?_⟩
  · rcases List.mem_cons.1 hp with rfl | hp
    · exact h.le
    · exact h.ge p hp
  · rcases List.mem_cons.1 hp with rfl | hp
    · simp only [heap_alloc_any, if_true]
    · exact h'.at' p hp
  · rcases h.rc with e | ⟨R, vs, e, h2, h3⟩
    · exact .inl e
    · refine .inr ⟨R, vs, e, h2.below hb, fun p hp => ?_⟩
      rcases List.mem_cons.1 hp with rfl | hp
      · intro hk; have := h2.lt _ hk; simp at this
      · exact h3 p hp
/-- a box is written -/
theorem Ev.set (h : Ev B w rv l bx wr) {g : Nat} {o y : Obj} {b2 : List (Nat × Obj)} (e : bx = (g, o) :: b2) (hne : ∀ p ∈ b2, p.1 ≠ g) (hb : But (fun k => k = g) wr w') (hy : w'.heap[g]? = some y) : Ev B w rv l ((g, y) :: b2) w' := by
  subst e
  have hg : B ≤ g := h.ge (g, o) (by simp)
  refine ⟨h.old.trans (hb.below (fun k hk => by omega)), by rw [hb.size]; exact h.le, fun p hp => ?_, fun p hp => ?_, ?_⟩
  · rcases List.mem_cons.1 hp with rfl | hp
    · exact hg
    · exact h.ge p (by simp [hp])
  · rcases List.mem_cons.1 hp with rfl | hp
    · exact hy
    · exact (hb.block _ (hne p hp)).trans (h.at' p (by simp [hp]))
  · rcases h.rc with e | ⟨R, vs, e, h2, h3⟩
    · exact .inl e
    · have hgr : Grow (fun k => k = g) wr w' := ⟨hb.os, hb.tape, hb.output, by rw [hb.size]; exact Nat.le_refl _, fun k _ hk => hb.block k hk⟩
      refine .inr ⟨R, vs, e, h2.grow hgr (fun k hk hn => by subst hn; exact h3 (k, o) (by simp) hk), fun p hp => ?_⟩
      rcases List.mem_cons.1 hp with rfl | hp
      · exact h3 (g, o) (by simp)
      · exact h3 p (by simp [hp])
/-- one operation is logged -/
theorem Ev.op (h : Ev B w rv l bx wr) (hl : l.length ≤ 1000000) (v : Int) : ∃ Q, Opc rv v wr Q ∧ ∀ w', Opd Q wr w' → Ev B w rv (l ++ [(3, v)]) bx w' := by
  rcases h.rc with e | ⟨R, vs, e, h2, h3⟩
  · subst e
    exact ⟨_, opc_nil v wr, fun w' ho => by
      have := h.below ho.nil
      exact ⟨this.old, this.le, this.ge, this.at', .inl rfl⟩⟩
  · subst e
    refine ⟨_, opc_rec v h2 hl, fun w' ho => ?_⟩
    obtain ⟨vs', g1, g2, g3⟩ := Opd.rec h2 ho
    have hR := h2.lt R (.inl rfl)
    refine ⟨h.old.trans (g2.below h2.ge h.le), Nat.le_trans h.le g2.size, h.ge, fun p hp => (g2.block _ (heap_lt (h.at' p hp)) (h3 p hp)).trans (h.at' p hp), .inr ⟨R, vs', rfl, g1, fun p hp hk => ?_⟩⟩
    have hlt : p.1 < wr.heap.size := heap_lt (h.at' p hp)
    rcases hk with hk | hk
    · exact h3 p hp (.inl hk)
    · rcases g3 with g3 | ⟨g, g3, hge⟩
      · exact h3 p hp (.inr (g3 ▸ hk))
      · rw [g3] at hk; injection hk with hk; omega
/-- Op itself -/
theorem v_op (h : Ev B w rv l bx wr) (hl : l.length ≤ 1000000) (v : Int) : Calls Try.prog 29 #[rv, .int .i64 v] wr fun e w' => e = .returned (.tuple #[]) ∧ Ev B w rv (l ++ [(3, v)]) bx w' := by
  obtain ⟨Q, h1, h2⟩ := h.op hl v
  exact (h1.call wr (Below.refl _ _)).mono fun e w' hh => ⟨hh.1, h2 w' ⟨wr, w', Below.refl _ _, hh.2, ⟨rfl, rfl, rfl, Nat.le_refl _, fun _ _ _ => rfl⟩⟩⟩
theorem ev_nil (w : World) (bx : List (Nat × Obj)) (h : ∀ p ∈ bx, w.heap[p.1]? = some p.2) (l : List (Int × Int)) : Ev 0 w (.pointer none) l bx w :=
  ⟨Below.refl _ _, Nat.zero_le _, fun _ _ => Nat.zero_le _, h, .inl rfl⟩
theorem ev_nil' (w : World) : Ev w.heap.size w (.pointer none) [] [] w :=
  ⟨Below.refl _ _, Nat.le_refl _, by simp, by simp, .inl rfl⟩
theorem ev_new (w : World) : Ev w.heap.size w (.pointer (some ⟨w.heap.size, 0, none⟩)) [] [] (w.alloc (.cells #[.slice none 0 0, .int .i64 0] 82)) :=
  ⟨(Below.refl _ _).alloc (Nat.le_refl _) _, by simp, by simp, by simp, .inr ⟨_, _, rfl, rec_new w, by simp⟩⟩
end
theorem o_add {a b : List Int} (ha : Lim a) (hb : Lim b) : ∃ x, Lim x ∧ num x = (num a + num b) % P ∧
    Hid (∀ B w rv l bx wr, Ev B w rv l bx wr → l.length ≤ 1000000 → Calls Try.prog 34 #[rv, .agg (VI .u64 a), .agg (VI .u64 b)] wr fun e w' => e = .returned (.agg (VI .u64 x)) ∧ Ev B w rv (l ++ [(3, 1)]) bx w') := by
  refine ⟨_, add_lim ha hb, num_add ha hb, fun B w rv l bx wr h hl => ?_⟩
  obtain ⟨Q, h1, h2⟩ := h.op hl 1
  exact (add_any _ _ _ ha hb wr Q h1).mono fun er w' hh => ⟨hh.1, h2 w' hh.2⟩
theorem o_sub {a b : List Int} (ha : Lim a) (hb : Lim b) : ∃ x, Lim x ∧ num x = (num a + (P - num b)) % P ∧
    Hid (∀ B w rv l bx wr, Ev B w rv l bx wr → l.length ≤ 1000000 → Calls Try.prog 37 #[rv, .agg (VI .u64 a), .agg (VI .u64 b)] wr fun e w' => e = .returned (.agg (VI .u64 x)) ∧ Ev B w rv (l ++ [(3, 2)]) bx w') := by
  refine ⟨_, subs_lim ha hb, num_sub ha hb, fun B w rv l bx wr h hl => ?_⟩
  obtain ⟨Q, h1, h2⟩ := h.op hl 2
  exact (sub_any _ _ _ ha hb wr Q h1).mono fun er w' hh => ⟨hh.1, h2 w' hh.2⟩
theorem o_mul {a b : List Int} (ha : Lim a) (hb : Lim b) : ∃ x, Lim x ∧ num x = num a * num b % P ∧
    Hid (∀ B w rv l bx wr, Ev B w rv l bx wr → l.length ≤ 1000000 → Calls Try.prog 39 #[rv, .agg (VI .u64 a), .agg (VI .u64 b)] wr fun e w' => e = .returned (.agg (VI .u64 x)) ∧ Ev B w rv (l ++ [(3, 3)]) bx w') := by
  refine ⟨_, prod_lim ha hb, num_prod ha hb, fun B w rv l bx wr h hl => ?_⟩
  obtain ⟨Q, h1, h2⟩ := h.op hl 3
  exact (mul_any _ _ _ ha hb wr Q h1).mono fun er w' hh => ⟨hh.1, h2 w' hh.2⟩
theorem o_square {a : List Int} (ha : Lim a) : ∃ x, Lim x ∧ num x = num a * num a % P ∧
    Hid (∀ B w rv l bx wr, Ev B w rv l bx wr → l.length ≤ 1000000 → Calls Try.prog 41 #[rv, .agg (VI .u64 a)] wr fun e w' => e = .returned (.agg (VI .u64 x)) ∧ Ev B w rv (l ++ [(3, 4)]) bx w') := by
  refine ⟨_, prod_lim ha ha, num_prod ha ha, fun B w rv l bx wr h hl => ?_⟩
  obtain ⟨Q, h1, h2⟩ := h.op hl 4
  exact (square_any _ _ ha wr Q h1).mono fun er w' hh => ⟨hh.1, h2 w' hh.2⟩
theorem o_scale {a : List Int} (ha : Lim a) (n : Nat) (hn : n < 4294967296) : ∃ x, Lim x ∧ num x = num a * n % P ∧
    Hid (∀ B w rv l bx wr, Ev B w rv l bx wr → l.length ≤ 1000000 → Calls Try.prog 42 #[rv, .agg (VI .u64 a), .int .u32 (n : Int)] wr fun e w' => e = .returned (.agg (VI .u64 x)) ∧ Ev B w rv (l ++ [(3, 5)]) bx w') := by
  have hs : Lim [(n : Int), 0, 0, 0, 0] := lim_small (n : Int) (by omega) (by omega)
  have hx : num (prod a [(n : Int), 0, 0, 0, 0]) = num a * n % P := by
    rw [num_prod ha hs, num_small n hn]
  refine ⟨_, prod_lim ha hs, hx, fun B w rv l bx wr h hl => ?_⟩
  obtain ⟨Q, h1, h2⟩ := h.op hl 5
  exact (scale_any _ _ (n : Int) (by omega) (by omega) ha wr Q h1).mono fun er w' hh => ⟨hh.1, h2 w' hh.2⟩
theorem o_invert {a : List Int} (ha : Lim a) : ∃ x, Lim x ∧ num x = qwn (num a) 5 ∧
    Hid (∀ B w rv l bx wr, Ev B w rv l bx wr → l.length ≤ 1000000 → Calls Try.prog 44 #[rv, .agg (VI .u64 a)] wr fun e w' => e = .returned (.agg (VI .u64 x)) ∧ Ev B w rv (l ++ [(3, 6)]) bx w') := by
  refine ⟨_, qw_lim ha 5, num_qw ha 5, fun B w rv l bx wr h hl => ?_⟩
  obtain ⟨Q, h1, h2⟩ := h.op hl 6
  exact (invert_any _ _ ha wr Q h1).mono fun er w' hh => ⟨hh.1, h2 w' hh.2⟩
end Go.Proofs.Ytacofgmnmofkpaa
namespace Go.Proofs.Ytacofgmnmofkpaa
set_option linter.unusedSimpArgs false
set_option linter.unusedVariables false
open Go.ChangeShapes Go.WideShapes Go.ChangeAt Go.RowKit Go.Pin
/-! regions whose operations are a constant, frames that are a letter -/
def opsOf : Code → Array Oper
  | .region _ ops _ => ops
  | _ => #[]
def opIs (ops : Array Oper) (i : Nat) (op : Op) (d : Option Nat) : Prop := (ops[i]?).map (fun o => (o.guard, o.op, o.dst)) = some (none, op, d)
theorem opIs.get {ops : Array Oper} {i : Nat} {op : Op} {d : Option Nat} (h : opIs ops i op d) : ∃ o, ops[i]? = some o ∧ o.guard = none ∧ o.op = op ∧ o.dst = d := by
  obtain ⟨o, h1, h5⟩ := Option.map_eq_some_iff.1 h
  simp only [Prod.mk.injEq] at h5
  exact ⟨o, h1, h5.1, h5.2.1, h5.2.2⟩
theorem wanted_none {o : Oper} (h : o.guard = none) (y : Nat → Option Bool) : Region.wanted o y = true := by simp [Region.wanted, h]
section
variable {P : Program} {ops : Array Oper} {Q : Exit → Act → World → Prop} {S : World → Prop} {fuel : Nat} {listed : Array Bool} {a : Act} {w : World}
theorem takeH {i : Nat} {op : Op} {d : Nat} {v : Value} (hc : opIs ops i op (some d)) (hs : Region.noSelect ops = true) (hf : Region.free .any ops listed i = true) (hr : (Region.ready .any ops listed).contains i = true)
    (hQ : ∀ c (a : Act) d v w, Q (.panic c) (a.put d v) w → Q (.panic c) a w) (hrun : ∀ w, S w → ∀ o : Oper, o.op = op → (execOp a.eval o).run P w = .ok (.value v) w) (hS : S w)
    (h : wpAnyH P .any ops Q S fuel (listed.setIfInBounds i true) (a.put (some d) v) w) : wpAnyH P .any ops Q S (fuel + 1) listed a w := by
  obtain ⟨o, h1, h2, h3, h4⟩ := hc.get
  exact wpAnyH_take h1 hs hf hr (fun _ _ _ h => hQ _ _ _ _ _ h) (.inl ⟨wanted_none h2 _, fun w hw => hrun w hw o h3⟩) hS (by rw [h4]; exact h)
theorem wpAnyH_as {l l' : Array Bool} (hl : l = l') (h : wpAnyH P .any ops Q S fuel l' a w) : wpAnyH P .any ops Q S fuel l a w := by rw [hl]; exact h
/-- one operation alone may come up -/
theorem readyH {i : Nat} {op : Op} {d : Option Nat} (hc : opIs ops i op d) (hr : Region.ready .any ops listed = [i])
    (h : ∀ o : Oper, o.op = op → o.dst = d → Oper.wp P o a w (fun a' w' => S w' ∧ wpAnyH P .any ops Q S fuel (listed.setIfInBounds i true) a' w') Q) : wpAnyH P .any ops Q S (fuel + 1) listed a w := by
  obtain ⟨o, h1, h2, h3, h4⟩ := hc.get
  refine wpAnyH_all hr (by simp) (fun j hj => ?_)
  obtain rfl : j = i := by simpa using hj
  unfold wpOp
  simp only [h1]
  rw [if_pos (wanted_none h2 _)]
  exact .inl (h o h3 h4)
end
theorem eval_put_ne (a : Act) (d s : Nat) (v : Value) (h : d ≠ s) : (a.put (some d) v).eval (.tmp s) = a.eval (.tmp s) := by
  simp [Act.put, Act.eval, Array.getElem?_setIfInBounds_ne h]
theorem eval_put_eq (a : Act) (d : Nat) (v : Value) (h : d < a.tmps.size) : (a.put (some d) v).eval (.tmp d) = v := by
  simp [Act.put, Act.eval, h]
theorem size_put (a : Act) (d : Nat) (v : Value) : (a.put (some d) v).tmps.size = a.tmps.size := by simp [Act.put]
theorem run_move {P : Program} {a : Act} {o : Oper} {x : Operand} {v : Value} (ho : o.op = .move x) (he : a.eval x = v) (w : World) : (execOp a.eval o).run P w = .ok (.value v) w := by
  unfold execOp
  simp only [ho, he]
  rfl
theorem run_nilCheck {P : Program} {a : Act} {o : Oper} {x : Operand} {p : Addr} (ho : o.op = .nilCheck x) (he : a.eval x = .pointer (some p)) (w : World) : (execOp a.eval o).run P w = .ok (.value (.pointer (some p))) w := by
  unfold execOp
  simp only [ho, he]
  go_simp
end Go.Proofs.Ytacofgmnmofkpaa
namespace Go.Proofs.Ytacofgmnmofkpaa
set_option linter.unusedSimpArgs false
set_option linter.unusedVariables false
open Go.ChangeShapes Go.WideShapes Go.ChangeAt Go.RowKit Go.Pin Go.Fld
def upd {α : Type} (f : Nat → α) (c : Nat) (x : α) : Nat → α := fun i => if i = c then x else f i
theorem upd_same {α : Type} (f : Nat → α) (c : Nat) (x : α) : upd f c x c = x := if_pos rfl
theorem upd_ne {α : Type} (f : Nat → α) {c i : Nat} (x : α) (h : i ≠ c) : upd f c x i = f i := if_neg h
theorem heap_setCells_other (b : Nat) : ∀ (vs : List Value) (o : Nat) (w : World) (k : Nat), k ≠ b → (w.setCells b o vs).heap[k]? = w.heap[k]?
  | [], _, _, _, _ => rfl
  | v :: r, o, w, k, h => by rw [World.setCells, heap_setCells_other b r _ _ k h, heap_setCell_other _ _ _ _ h]
theorem size_setCells (b : Nat) : ∀ (vs : List Value) (o : Nat) (w : World), (w.setCells b o vs).heap.size = w.heap.size
  | [], _, _ => rfl
  | v :: r, o, w => by rw [World.setCells, size_setCells b r]; simp
theorem but_setCells (b : Nat) : ∀ (vs : List Value) (o : Nat) (w : World), But (fun k => k = b) w (w.setCells b o vs)
  | [], _, w => But.refl _ _
  | v :: r, o, w => by
    rw [World.setCells]
    exact But.trans ((But.refl (fun k => k = b) w).setCell (p := ⟨b, o, none⟩) rfl v) (but_setCells b r _ _)
theorem obj_setCells (b : Nat) {T : TypeId} : ∀ (vs : List Value) (o : Nat) (w : World) (n : Nat), (∃ cs : Array Value, cs.size = n ∧ w.heap[b]? = some (.cells cs T (0, 0))) → ∃ cs : Array Value, cs.size = n ∧ (w.setCells b o vs).heap[b]? = some (.cells cs T (0, 0))
  | [], _, _, _, h => h
  | v :: r, o, w, n, ⟨cs, h1, h2⟩ => by
    rw [World.setCells]
    exact obj_setCells b r _ _ n ⟨cs.setIfInBounds o v, by simpa using h1, heap_setCell_same w _ _ _ _ _ h2⟩
/-- eight Elements, eight numbers of the document, a list -/
structure Bn (g : Nat) (es : Nat → List Int) (ns : Nat → Nat) (vs : Value) (w : World) : Prop where
  obj : ∃ cs : Array Value, cs.size = 169 ∧ w.heap[g]? = some (.cells cs 53 (0, 0))
  e : ∀ i, i < 8 → ∀ j, j < 5 → w.cell? ⟨g, i * 5 + j, none⟩ = some (.int .u64 ((es i).getD j 0))
  n : ∀ i, i < 8 → ∀ j, j < 16 → w.cell? ⟨g, 40 + i * 16 + j, none⟩ = some (.int .i64 ((dg (ns i)).getD j 0))
  l : w.cell? ⟨g, 168, none⟩ = some vs
  lim : ∀ i, i < 8 → Lim (es i)
  nl : ∀ i, i < 8 → ns i < P
section
variable {g : Nat} {es : Nat → List Int} {ns : Nat → Nat} {vs : Value} {w : World} (h : Bn g es ns vs w)
include h
theorem Bn.lt : g < w.heap.size := by obtain ⟨_, _, h⟩ := h.obj; exact heap_lt h
theorem Bn.fz (j : Nat) : w.frozen? ⟨g, j, none⟩ = false := by obtain ⟨cs, _, hc⟩ := h.obj; exact frozen_of_row w _ _ _ _ hc
theorem Bn.of_block {w' : World} (hb : w'.heap[g]? = w.heap[g]?) : Bn g es ns vs w' :=
  ⟨by obtain ⟨cs, h1, h2⟩ := h.obj; exact ⟨cs, h1, hb.trans h2⟩, fun i hi j hj => (World.cell?_of_block (a := ⟨g, i * 5 + j, none⟩) hb).trans (h.e i hi j hj), fun i hi j hj => (World.cell?_of_block (a := ⟨g, 40 + i * 16 + j, none⟩) hb).trans (h.n i hi j hj), (World.cell?_of_block (a := ⟨g, 168, none⟩) hb).trans h.l, h.lim, h.nl⟩
theorem Bn.rangeE {i : Nat} (hi : i < 8) : w.rangeAt g (i * 5) ((es i).map (Value.int .u64)) := by
  intro j v hv
  have hl := (h.lim i hi).len
  have hj : j < (es i).length := by simpa using (List.getElem?_eq_some_iff.1 hv).1
  rw [List.getElem?_map, List.getElem?_eq_getElem hj] at hv
  rw [h.e i hi j (by omega), ← hv, List.getD_eq_getElem?_getD, List.getElem?_eq_getElem hj]
  rfl
theorem Bn.rangeN {i : Nat} (hi : i < 8) : w.rangeAt g (40 + i * 16) ((dg (ns i)).map (Value.int .i64)) := by
  intro j v hv
  have hj : j < (dg (ns i)).length := by simpa using (List.getElem?_eq_some_iff.1 hv).1
  rw [List.getElem?_map, List.getElem?_eq_getElem hj] at hv
  rw [h.n i hi j (by simpa using hj), ← hv, List.getD_eq_getElem?_getD, List.getElem?_eq_getElem hj]
  rfl
theorem Bn.thereE {c : Nat} (hc : c < 8) : w.there g (c * 5) 5 := fun j hj => ⟨by rw [h.e c hc j hj]; rfl, h.fz _⟩
theorem Bn.thereN {c : Nat} (hc : c < 8) : w.there g (40 + c * 16) 16 := fun j hj => ⟨by rw [h.n c hc j hj]; rfl, h.fz _⟩
theorem Bn.setE {c : Nat} (hc : c < 8) {z : List Int} (hz : Lim z) : Bn g (upd es c z) ns vs (w.setCells g (c * 5) (z.map (Value.int .u64))) := by
  have hl : (z.map (Value.int .u64)).length = 5 := by rw [List.length_map]; exact hz.len
  refine ⟨obj_setCells g _ _ _ _ h.obj, fun i hi j hj => ?_, fun i hi j hj => ?_, ?_, fun i hi => ?_, h.nl⟩
  · by_cases e : i = c
    · subst e
      have hjz : j < z.length := by rw [hz.len]; exact hj
      rw [World.cell?_setCells_in g _ _ w (fun k hk => (h.thereE hi k (by omega)).1) j (by omega), upd_same, List.getElem_map, List.getD_eq_getElem?_getD, List.getElem?_eq_getElem hjz]
      rfl
    · rw [World.cell?_setCells_out g _ _ w _ (fun _ _ => by simp only; omega), upd_ne _ _ e]
      exact h.e i hi j hj
  · rw [World.cell?_setCells_out g _ _ w _ (fun _ _ => by simp only; omega)]
    exact h.n i hi j hj
  · rw [World.cell?_setCells_out g _ _ w _ (fun _ _ => by simp only; omega)]; exact h.l
  · by_cases e : i = c
    · subst e; rw [upd_same]; exact hz
    · rw [upd_ne _ _ e]; exact h.lim i hi
theorem Bn.setN {c : Nat} (hc : c < 8) (m : Nat) (hm : m < P) : Bn g es (upd ns c m) vs (w.setCells g (40 + c * 16) ((dg m).map (Value.int .i64))) := by
  have hl : ((dg m).map (Value.int .i64)).length = 16 := by simp
  refine ⟨obj_setCells g _ _ _ _ h.obj, fun i hi j hj => ?_, fun i hi j hj => ?_, ?_, h.lim, fun i hi => ?_⟩
  · rw [World.cell?_setCells_out g _ _ w _ (fun _ _ => by simp only; omega)]
    exact h.e i hi j hj
  · by_cases e : i = c
    · subst e
      have hjz : j < (dg m).length := by simpa using hj
      rw [World.cell?_setCells_in g _ _ w (fun k hk => (h.thereN hi k (by omega)).1) j (by omega), upd_same, List.getElem_map, List.getD_eq_getElem?_getD, List.getElem?_eq_getElem hjz]
      rfl
    · rw [World.cell?_setCells_out g _ _ w _ (fun _ _ => by simp only; omega), upd_ne _ _ e]
      exact h.n i hi j hj
  · rw [World.cell?_setCells_out g _ _ w _ (fun _ _ => by simp only; omega)]; exact h.l
  · by_cases e : i = c
    · subst e; rw [upd_same]; exact hm
    · rw [upd_ne _ _ e]; exact h.nl i hi
theorem Bn.setL (v : Value) : Bn g es ns v (w.setCell ⟨g, 168, none⟩ v) := by
  obtain ⟨cs, h1, h2⟩ := h.obj
  exact ⟨⟨cs.setIfInBounds 168 v, by simpa using h1, heap_setCell_same w _ _ _ _ _ h2⟩, fun i hi j hj => by rw [World.cell?_setCell_other _ _ _ _ (by simp <;> omega)]; exact h.e i hi j hj, fun i hi j hj => by rw [World.cell?_setCell_other _ _ _ _ (by simp <;> omega)]; exact h.n i hi j hj, World.cell?_setCell_same _ _ _ h.l, h.lim, h.nl⟩
end
end Go.Proofs.Ytacofgmnmofkpaa
namespace Go.Proofs.Ytacofgmnmofkpaa
set_option linter.unusedSimpArgs false
set_option linter.unusedVariables false
open Go.ChangeShapes Go.WideShapes Go.ChangeAt Go.RowKit Go.Pin Go.Fld
theorem owns_of {w w' : World} {base : Nat} {e : TypeId} {size : Nat} {v : Value} {n : Nat} {xs : List Value} (ho : w.ownsRow base e size v n xs) (hb : ∀ k, v.ownBlock = some k → w'.heap[k]? = w.heap[k]?) : w'.ownsRow base e size v n xs := by
  refine ⟨ho.1, ?_⟩
  rcases ho.2 with h | ⟨q, cap, cur, rfl, hb', hq, hr⟩
  · exact .inl h
  · exact .inr ⟨q, cap, cur, rfl, hb', (hb q rfl).trans hq, hr⟩
/-- a bank with its list, a Recorder or none, and boxes beside them -/
structure SB (B : Nat) (w : World) (rv : Value) (lr : List (Int × Int)) (g : Nat) (es : Nat → List Int) (ns : Nat → Nat) (vs : Value) (ll : List (Int × Int)) (bx : List (Nat × Obj)) (W : World) : Prop where
  bn : Bn g es ns vs W
  own : W.ownsRow B 36 2 vs ll.length (evC ll)
  ev : ∃ o rb, (∀ k, vs.ownBlock = some k → ∃ o', (k, o') ∈ rb) ∧ (∀ p ∈ rb, vs.ownBlock = some p.1) ∧ Ev B w rv lr ((g, o) :: (rb ++ bx)) W
  dis : ∀ p ∈ bx, p.1 ≠ g ∧ vs.ownBlock ≠ some p.1
section
variable {B : Nat} {w : World} {rv : Value} {lr : List (Int × Int)} {g : Nat} {es : Nat → List Int} {ns : Nat → Nat} {vs : Value} {ll : List (Int × Int)} {bx : List (Nat × Obj)} {W W' : World}
theorem Bn.apart (h : Bn g es ns vs W) (ho : W.ownsRow B 36 2 vs ll.length (evC ll)) : vs.ownBlock ≠ some g := by
  intro e
  obtain ⟨cs, _, hc⟩ := h.obj
  rcases ho.2 with ⟨rfl, _⟩ | ⟨q, cap, cur, rfl, _, hg, _⟩
  · simp [Value.ownBlock] at e
  · obtain rfl : q = g := by simpa [Value.ownBlock] using e
    have := hc.symm.trans hg
    simp at this
theorem SB.old (h : SB B w rv lr g es ns vs ll bx W) : Below B w W := by obtain ⟨o, rb, _, _, he⟩ := h.ev; exact he.old
theorem SB.row (h : SB B w rv lr g es ns vs ll bx W) {k : Nat} {x : Obj} (hp : (k, x) ∈ bx) : W.heap[k]? = some x := by
  obtain ⟨o, rb, _, _, he⟩ := h.ev
  exact he.row (by simp [hp])
/-- the same boxes in another world -/
theorem SB.of_ev (h : SB B w rv lr g es ns vs ll bx W) {lr' : List (Int × Int)} (hc : ∀ b, Ev B w rv lr b W → Ev B w rv lr' b W') : SB B w rv lr' g es ns vs ll bx W' := by
  obtain ⟨o, rb, h1, h2, he⟩ := h.ev
  have he' := hc _ he
  have hg : W'.heap[g]? = W.heap[g]? := by rw [he.row (g := g) (x := o) (by simp), he'.row (g := g) (x := o) (by simp)]
  refine ⟨h.bn.of_block hg, owns_of h.own (fun k hk => ?_), ⟨o, rb, h1, h2, he'⟩, h.dis⟩
  obtain ⟨o', ho⟩ := h1 k hk
  rw [he.row (g := k) (x := o') (by simp [ho]), he'.row (g := k) (x := o') (by simp [ho])]
theorem SB.below (h : SB B w rv lr g es ns vs ll bx W) (hb : Below W.heap.size W W') : SB B w rv lr g es ns vs ll bx W' := h.of_ev (fun b he => he.below hb)
theorem SB.drew (h : SB B w rv lr g es ns vs ll bx W) : SB B w rv lr g es ns vs ll bx W.drew := h.of_ev (fun b he => he.drew)
theorem SB.calls (h : SB B w rv lr g es ns vs ll bx W) {f : Nat} {args : Array Value} {x : Value} {lr' : List (Int × Int)} (hc : ∀ b, Ev B w rv lr b W → Calls Try.prog f args W fun e w' => e = .returned x ∧ Ev B w rv lr' b w') :
    Calls Try.prog f args W fun e w' => e = .returned x ∧ SB B w rv lr' g es ns vs ll bx w' := by
  obtain ⟨o, rb, h1, h2, he⟩ := h.ev
  refine (hc _ he).mono fun e w' hh => ⟨hh.1, ?_⟩
  have he' := hh.2
  have hg : w'.heap[g]? = W.heap[g]? := by rw [he.row (g := g) (x := o) (by simp), he'.row (g := g) (x := o) (by simp)]
  refine ⟨h.bn.of_block hg, owns_of h.own (fun k hk => ?_), ⟨o, rb, h1, h2, he'⟩, h.dis⟩
  obtain ⟨o', ho⟩ := h1 k hk
  rw [he.row (g := k) (x := o') (by simp [ho]), he'.row (g := k) (x := o') (by simp [ho])]
/-- a cell of the bank's block alone is written -/
theorem SB.put (h : SB B w rv lr g es ns vs ll bx W) {es' : Nat → List Int} {ns' : Nat → Nat} (hb : But (fun k => k = g) W W') (hbn : Bn g es' ns' vs W') : SB B w rv lr g es' ns' vs ll bx W' := by
  obtain ⟨o, rb, h1, h2, he⟩ := h.ev
  have ha := h.bn.apart h.own
  obtain ⟨cs, _, hc⟩ := hbn.obj
  refine ⟨hbn, owns_of h.own (fun k hk => hb.block k (fun e => ha (e ▸ hk))), ⟨_, rb, h1, h2, he.set rfl (fun p hp => ?_) hb hc⟩, h.dis⟩
  rcases List.mem_append.1 hp with hp | hp
  · exact fun e => ha (e ▸ h2 p hp)
  · exact (h.dis p hp).1
theorem SB.setE (h : SB B w rv lr g es ns vs ll bx W) {c : Nat} (hc : c < 8) {z : List Int} (hz : Lim z) : SB B w rv lr g (upd es c z) ns vs ll bx (W.setCells g (c * 5) (z.map (Value.int .u64))) := h.put (but_setCells _ _ _ _) (h.bn.setE hc hz)
theorem SB.setN (h : SB B w rv lr g es ns vs ll bx W) {c : Nat} (hc : c < 8) {m : Nat} (hm : m < P) : SB B w rv lr g es (upd ns c m) vs ll bx (W.setCells g (40 + c * 16) ((dg m).map (Value.int .i64))) := h.put (but_setCells _ _ _ _) (h.bn.setN hc m hm)
theorem SB.new (h : SB B w rv lr g es ns vs ll bx W) (x : Obj) : SB B w rv lr g es ns vs ll ((W.heap.size, x) :: bx) (W.alloc x) := by
  obtain ⟨o, rb, h1, h2, he⟩ := h.ev
  have hb := h.below ((Below.refl _ _).alloc (Nat.le_refl _) x)
  have hn := he.new x
  refine ⟨hb.bn, hb.own, ⟨o, rb, h1, h2, hn.sub (fun p hp => ?_)⟩, fun p hp => ?_⟩
  · simp only [List.mem_cons, List.mem_append] at hp ⊢
    rcases hp with h | h | h | h
    · exact .inr (.inl h)
    · exact .inr (.inr (.inl h))
    · exact .inl h
    · exact .inr (.inr (.inr h))
  · rcases List.mem_cons.1 hp with rfl | hp
    · exact ⟨fun e => by have := h.bn.lt; simp only at e; omega, fun e => by have := (h.own.lt _ e).2; simp only at this; omega⟩
    · exact h.dis p hp
theorem SB.sub (h : SB B w rv lr g es ns vs ll bx W) {b2 : List (Nat × Obj)} (hs : ∀ p ∈ b2, p ∈ bx) : SB B w rv lr g es ns vs ll b2 W := by
  obtain ⟨o, rb, h1, h2, he⟩ := h.ev
  refine ⟨h.bn, h.own, ⟨o, rb, h1, h2, he.sub (fun p hp => ?_)⟩, fun p hp => h.dis p (hs p hp)⟩
  simp only [List.mem_cons, List.mem_append] at hp ⊢
  rcases hp with h | h | h
  · exact .inl h
  · exact .inr (.inl h)
  · exact .inr (.inr (hs p h))
end
set_option maxRecDepth 100000 in
set_option maxHeartbeats 2000000 in
theorem logs_any {B : Nat} {w : World} {rv : Value} {lr : List (Int × Int)} {g : Nat} {es : Nat → List Int} {ns : Nat → Nat} {vs : Value} {ll : List (Int × Int)} {bx : List (Nat × Obj)} {W : World} (op : Int) (h : SB B w rv lr g es ns vs ll bx W) (hl : ll.length ≤ 1000000) :
    Calls Try.prog 36 #[.pointer (some ⟨g, 0, none⟩), .int .i64 op] W fun e w' => e = .returned (.tuple #[]) ∧ ∃ vs', SB B w rv lr g es ns vs' (ll ++ [(3, op)]) bx w' := by
  obtain ⟨i0, hi, hz0, hz1, hz2⟩ := info_parts info37
  have HI : Hid (Try.prog.info? 36 = some i0 ∧ i0.zero = some (.agg #[.int .i64 0, .int .i64 0]) ∧ i0.size = 2 ∧ i0.bytes = 16) := ⟨hi, hz0, hz1, hz2⟩
  have HR : Hid (SB B w rv lr g es ns vs ll bx W) := h
  have hc0 := h.bn.l
  have hf0 := h.bn.fz 168
  have hgl := h.bn.lt
  have hBl : B ≤ W.heap.size := by obtain ⟨o, rb, _, _, he⟩ := h.ev; exact he.le
  clear hi hz0 hz1 hz2 h
  go_enter Try.func36, Try.ntmps36
  go_wp2_with (at_builtin; refine wpList_append_own_at _ rfl _ _ 26 rfl B 36 i0 (.agg #[.int .i64 0, .int .i64 0]) 2 16 Try.underlying26 HI.out.1 HI.out.2.1 HI.out.2.2.1 HI.out.2.2.2 rfl (by decide) _ ll.length (evC ll) rfl (HR.out.own.alloc _) ⟨W.heap.size, 0, none⟩ 1 1 [.int .i64 3, .int .i64 op] rfl rfl ?_ ?_ ?_ ?_ ?_ ?_)
  · intro j u hj
    match j, hj with
    | 0, hj => simp at hj; subst hj; simp [Addr.add]
    | 1, hj => simp at hj; subst hj; simp [Addr.add]
  · intro u hu
    simp at hu
    rcases hu with rfl | rfl <;> rfl
  · unfold maxLen; omega
  · omega
  · simp; omega
  · intro v' w1 hown' hgrow _ hat
    obtain ⟨q', cap', rfl⟩ : ∃ q cap, v' = .slice (some ⟨q, 0, none⟩) (ll.length + 1) cap := by
      rcases hown'.2 with ⟨_, h0⟩ | ⟨q, cap, _, rfl, _⟩
      · omega
      · exact ⟨q, cap, rfl⟩
    obtain ⟨v', hv'⟩ : ∃ v', Value.slice (some ⟨q', 0, none⟩) (ll.length + 1) cap' = v' := ⟨_, rfl⟩
    have hvb : v'.ownBlock = some q' := by rw [← hv']; rfl
    rw [hv'] at hown' hat
    have hne := HR.out.bn.apart HR.out.own
    have hblk : w1.heap[g]? = W.heap[g]? := by
      rw [hgrow.block g (by simp; omega) (fun e => hne e.symm), heap_alloc_any, if_neg (by omega)]
    have hs1 : W.heap.size + 1 ≤ w1.heap.size := by have := hgrow.size; simpa using this
    have hB1 := HR.out.bn.of_block hblk
    have hcw : w1.cell? ⟨g, 168, none⟩ = some vs := hB1.l
    have hfw : w1.frozen? ⟨g, 168, none⟩ = false := hB1.fz 168
    have hnew : q' ≠ g := by
      rintro rfl
      rcases hat with e | e
      · exact hne (e.symm.trans hvb)
      · rw [hvb] at e; injection e with e; (try simp at e); omega
    have hfin : SB B w rv lr g es ns v' (ll ++ [(3, op)]) bx (w1.setCell ⟨g, 168, none⟩ v') := by
      obtain ⟨o, rb, k1, k2, he⟩ := HR.out.ev
      have hbn := hB1.setL v'
      have hbq : (w1.setCell ⟨g, 168, none⟩ v').heap[q']? = w1.heap[q']? := heap_setCell_other _ _ _ _ hnew
      have hown2 : (w1.setCell ⟨g, 168, none⟩ v').ownsRow B 36 2 v' (ll ++ [(3, op)]).length (evC (ll ++ [(3, op)])) := by
        rw [List.length_append, evC_app]
        exact owns_of hown' (fun k hk => by rw [hvb] at hk; injection hk with hk; subst hk; exact hbq)
      obtain ⟨cs, _, hco⟩ := hbn.obj
      obtain ⟨oq, hoq⟩ : ∃ oq, w1.heap[q']? = some oq := ⟨_, Array.getElem?_eq_getElem (hown'.lt q' hvb).2⟩
      -- all blocks but the bank's and the list's are as they were
      have hkeep : ∀ k, k < W.heap.size → k ≠ g → vs.ownBlock ≠ some k → (w1.setCell ⟨g, 168, none⟩ v').heap[k]? = W.heap[k]? := fun k hk h1 h2 => by
        rw [heap_setCell_other _ _ _ _ h1, hgrow.block k (by simp; omega) (fun e => h2 e.symm), heap_alloc_any, if_neg (by omega)]
      have hgr : Grow (fun k => k = g ∨ vs.ownBlock = some k) W (w1.setCell ⟨g, 168, none⟩ v') :=
        ⟨hgrow.os, hgrow.tape, hgrow.output, by simp; omega, fun k hk hn => hkeep k hk (fun e => hn (.inl e)) (fun e => hn (.inr e))⟩
      have hqB : B ≤ q' := (hown'.lt q' hvb).1
      have hgB : B ≤ g := he.ge (g, o) (by simp)
      have hqd : ∀ p ∈ bx, q' ≠ p.1 := fun p hp e => by
        rcases hat with e2 | e2
        · exact (HR.out.dis p hp).2 (by rw [← e2, hvb, e])
        · rw [hvb] at e2; injection e2 with e2
          have := he.lt (g := p.1) (x := p.2) (by simp [hp])
          (try simp at e2); omega
      refine ⟨hbn, hown2, ⟨.cells cs 53 (0, 0), [(q', oq)], fun k hk => ⟨oq, by rw [hvb] at hk; injection hk with hk; simp [hk]⟩, fun p hp => by simp at hp; subst hp; exact hvb, ?_⟩, fun p hp => ⟨(HR.out.dis p hp).1, fun e => hqd p hp (by rw [hvb] at e; injection e)⟩⟩
      refine ⟨he.old.trans (hgr.below (fun k hk => ?_) he.le), Nat.le_trans he.le hgr.size, fun p hp => ?_, fun p hp => ?_, ?_⟩
      · rcases hk with rfl | hk
        · exact hgB
        · exact (HR.out.own.lt k hk).1
      · rcases List.mem_cons.1 hp with rfl | hp
        · exact hgB
        · rcases List.mem_cons.1 hp with rfl | hp
          · exact hqB
          · exact he.ge p (by simp at hp; simp [hp])
      · rcases List.mem_cons.1 hp with rfl | hp
        · exact hco
        · rcases List.mem_cons.1 hp with rfl | hp
          · exact hbq.trans hoq
          · have hp' : p ∈ bx := by simpa using hp
            exact (hkeep p.1 (he.lt (g := p.1) (x := p.2) (by simp [hp'])) (HR.out.dis p hp').1 (HR.out.dis p hp').2).trans (he.row (by simp [hp']))
      · rcases he.rc with e | ⟨R, vr, e, h2, h3⟩
        · exact .inl e
        · have hsep : ∀ k, Blk R vr k → ¬ (k = g ∨ vs.ownBlock = some k) := fun k hk hn => by
            rcases hn with rfl | hn
            · exact h3 (k, o) (by simp) hk
            · obtain ⟨o', ho'⟩ := k1 k hn
              exact h3 (k, o') (by simp [ho']) hk
          refine .inr ⟨R, vr, e, h2.grow hgr hsep, fun p hp hk => ?_⟩
          rcases List.mem_cons.1 hp with rfl | hp
          · exact hsep _ hk (.inl rfl)
          · rcases List.mem_cons.1 hp with rfl | hp
            · rcases hat with e2 | e2
              · exact hsep _ hk (.inr (by rw [← e2, hvb]))
              · rw [hvb] at e2; injection e2 with e2
                have := h2.lt _ hk
                (try simp at e2); (try simp at this); omega
            · exact h3 p (by simp at hp; simp [hp]) hk
    have HF : Hid (SB B w rv lr g es ns v' (ll ++ [(3, op)]) bx (w1.setCell ⟨g, 168, none⟩ v')) := hfin
    clear hfin hat hown' hgrow hne hblk hB1 hnew
    subst hv'
    go_wp2
    go_end0
    exact ⟨rfl, _, HF.out⟩
end Go.Proofs.Ytacofgmnmofkpaa
namespace Go.Proofs.Ytacofgmnmofkpaa
set_option linter.unusedSimpArgs false
set_option linter.unusedVariables false
open Go.ChangeShapes Go.WideShapes Go.ChangeAt Go.RowKit Go.Pin Go.Fld
section
variable {a : Act} {o : Oper} {x : Operand} {g : Nat}
theorem run_fieldE (ho : o.op = .fieldAddr 53 x 0) (he : a.eval x = .pointer (some ⟨g, 0, none⟩)) (w : World) : (execOp a.eval o).run Try.prog w = .ok (.value (.pointer (some ⟨g, 0, none⟩))) w := by
  unfold execOp
  simp only [ho, he]
  go_simp
theorem run_fieldN (ho : o.op = .fieldAddr 53 x 1) (he : a.eval x = .pointer (some ⟨g, 0, none⟩)) (w : World) : (execOp a.eval o).run Try.prog w = .ok (.value (.pointer (some ⟨g, 40, none⟩))) w := by
  unfold execOp
  simp only [ho, he]
  go_simp
theorem run_stData (ho : o.op = .fieldAddr 60 x 4) (he : a.eval x = .pointer (some ⟨g, 0, none⟩)) (w : World) : (execOp a.eval o).run Try.prog w = .ok (.value (.pointer (some ⟨g, 4, none⟩))) w := by
  unfold execOp
  simp only [ho, he]
  go_simp
theorem run_stN (ho : o.op = .fieldAddr 60 x 5) (he : a.eval x = .pointer (some ⟨g, 0, none⟩)) (w : World) : (execOp a.eval o).run Try.prog w = .ok (.value (.pointer (some ⟨g, 36, none⟩))) w := by
  unfold execOp
  simp only [ho, he]
  go_simp
theorem run_stBit (ho : o.op = .fieldAddr 60 x 6) (he : a.eval x = .pointer (some ⟨g, 0, none⟩)) (w : World) : (execOp a.eval o).run Try.prog w = .ok (.value (.pointer (some ⟨g, 37, none⟩))) w := by
  unfold execOp
  simp only [ho, he]
  go_simp
theorem run_indexE {y : Operand} {n : Nat} (hn : n < 8) (ho : o.op = .indexAddr 48 x y) (he : a.eval x = .pointer (some ⟨g, 0, none⟩)) (hy : a.eval y = .int .i64 (n : Int)) (w : World) : (execOp a.eval o).run Try.prog w = .ok (.value (.pointer (some ⟨g, n * 5, none⟩))) w := by
  unfold execOp
  simp only [ho, he, hy]
  go_simp
  intro h
  omega
theorem run_indexN {y : Operand} {n : Nat} (hn : n < 8) (ho : o.op = .indexAddr 51 x y) (he : a.eval x = .pointer (some ⟨g, 40, none⟩)) (hy : a.eval y = .int .i64 (n : Int)) (w : World) : (execOp a.eval o).run Try.prog w = .ok (.value (.pointer (some ⟨g, 40 + n * 16, none⟩))) w := by
  unfold execOp
  simp only [ho, he, hy]
  go_simp
  intro h
  omega
theorem run_loadE {f : Nat} {cs : List Int} (hl : cs.length = 5) (ho : o.op = .load 47 x) (he : a.eval x = .pointer (some ⟨g, f, none⟩)) (w : World) (hg : w.rangeAt g f (cs.map (Value.int .u64))) : (execOp a.eval o).run Try.prog w = .ok (.value (.agg (VI .u64 cs))) w := by
  unfold execOp
  simp only [ho, he, Instr.loadAt, Instr.sureAddr, Sem.run_bind, Sem.run_pure, Result.andThen_ok, run_loadVar_mid w g f 47 (cs.map (Value.int .u64)) _ hg Try.underlying47 rfl (by rw [List.length_map, hl]; kernel_rfl)]
  rfl
theorem run_loadN {f : Nat} {cs : List Int} (hl : cs.length = 16) (ho : o.op = .load 50 x) (he : a.eval x = .pointer (some ⟨g, f, none⟩)) (w : World) (hg : w.rangeAt g f (cs.map (Value.int .i64))) : (execOp a.eval o).run Try.prog w = .ok (.value (.agg (VI .i64 cs))) w := by
  unfold execOp
  simp only [ho, he, Instr.loadAt, Instr.sureAddr, Sem.run_bind, Sem.run_pure, Result.andThen_ok, run_loadVar_mid w g f 50 (cs.map (Value.int .i64)) _ hg Try.underlying50 rfl (by rw [List.length_map, hl]; kernel_rfl)]
  rfl
theorem run_loadK {f : Nat} {cs : List Int} (hl : cs.length = 32) (ho : o.op = .load 57 x) (he : a.eval x = .pointer (some ⟨g, f, none⟩)) (w : World) (hg : w.rangeAt g f (cs.map (Value.int .u8))) : (execOp a.eval o).run Try.prog w = .ok (.value (.agg (VI .u8 cs))) w := by
  unfold execOp
  simp only [ho, he, Instr.loadAt, Instr.sureAddr, Sem.run_bind, Sem.run_pure, Result.andThen_ok, run_loadVar_mid w g f 57 (cs.map (Value.int .u8)) _ hg Try.underlying57 rfl (by rw [List.length_map, hl]; kernel_rfl)]
  rfl
theorem run_loadU32 {f : Nat} {v : Int} (ho : o.op = .load 58 x) (he : a.eval x = .pointer (some ⟨g, f, none⟩)) (w : World) (hg : w.cell? ⟨g, f, none⟩ = some (.int .u32 v)) : (execOp a.eval o).run Try.prog w = .ok (.value (.int .u32 v)) w := by
  unfold execOp
  simp only [ho, he]
  go_simp
theorem run_loadU64 {f : Nat} {v : Int} (ho : o.op = .load 44 x) (he : a.eval x = .pointer (some ⟨g, f, none⟩)) (w : World) (hg : w.cell? ⟨g, f, none⟩ = some (.int .u64 v)) : (execOp a.eval o).run Try.prog w = .ok (.value (.int .u64 v)) w := by
  unfold execOp
  simp only [ho, he]
  go_simp
end
theorem wpCall {P : Program} {o : Oper} {a : Act} {w : World} {K : Act → World → Prop} {Q : Exit → Act → World → Prop} {f : Nat} {xs : Array Operand} {ts : Array TypeId} {args : Array Value} {v : Value} {R : World → Prop} {d : Option Nat}
    (ho : o.op = .call { callee := .value (.func f), args := xs, argTypes := ts }) (hd : o.dst = d) (ha : xs.map a.eval = args) (hen : ∀ w, (callFunc f args).run P w = .ok (.enter f args) w) (hc : Calls P f args w fun e w' => e = .returned v ∧ R w') (h : ∀ w', R w' → K (a.put d v) w') : Oper.wp P o a w K Q := by
  subst hd
  unfold Oper.wp execOp
  simp only [ho]
  go_simp
  refine hc.mono ?_
  rintro e w' ⟨rfl, hr⟩
  exact h w' hr
end Go.Proofs.Ytacofgmnmofkpaa
namespace Go.Proofs.Ytacofgmnmofkpaa
set_option linter.unusedSimpArgs false
set_option linter.unusedVariables false
open Go.ChangeShapes Go.WideShapes Go.ChangeAt Go.RowKit Go.Pin
section
variable {P : Program} {ops : Array Oper} {Q : Exit → Act → World → Prop} {S : World → Prop} {fuel : Nat} {listed : Array Bool} {a : Act} {w : World}
theorem wp_of_run {o : Oper} {v : Value} {K : Act → World → Prop} (hrun : (execOp a.eval o).run P w = .ok (.value v) w) (h : K (a.put o.dst v) w) : Oper.wp P o a w K Q := by
  unfold Oper.wp
  rw [hrun]
  exact h
/-- one operation that yields a value alone may come up -/
theorem readyLd1 {i : Nat} {op : Op} {d : Nat} {v : Value} (hc : opIs ops i op (some d)) (hr : Region.ready .any ops listed = [i]) (hS : S w)
    (hrun : ∀ o : Oper, o.op = op → (execOp a.eval o).run P w = .ok (.value v) w) (h : wpAnyH P .any ops Q S fuel (listed.setIfInBounds i true) (a.put (some d) v) w) : wpAnyH P .any ops Q S (fuel + 1) listed a w :=
  readyH hc hr (fun o h1 h2 => wp_of_run (hrun o h1) ⟨hS, by rw [h2]; exact h⟩)
/-- two of them, in either order -/
theorem readyLd2 {i j : Nat} {op oq : Op} {d e : Nat} {v u : Value} (hi : opIs ops i op (some d)) (hj : opIs ops j oq (some e)) (hde : d ≠ e) (hij : i ≠ j) (hr : Region.ready .any ops listed = [i, j])
    (hr1 : Region.ready .any ops (listed.setIfInBounds i true) = [j]) (hr2 : Region.ready .any ops (listed.setIfInBounds j true) = [i]) (hS : S w)
    (run1 : ∀ o : Oper, o.op = op → (execOp a.eval o).run P w = .ok (.value v) w) (run2 : ∀ o : Oper, o.op = oq → (execOp a.eval o).run P w = .ok (.value u) w)
    (run1' : ∀ o : Oper, o.op = op → (execOp (a.put (some e) u).eval o).run P w = .ok (.value v) w) (run2' : ∀ o : Oper, o.op = oq → (execOp (a.put (some d) v).eval o).run P w = .ok (.value u) w)
    (h : wpAnyH P .any ops Q S fuel ((listed.setIfInBounds i true).setIfInBounds j true) ((a.put (some d) v).put (some e) u) w) : wpAnyH P .any ops Q S (fuel + 2) listed a w := by
  obtain ⟨o1, h1, g1, p1, q1⟩ := hi.get
  obtain ⟨o2, h2, g2, p2, q2⟩ := hj.get
  refine wpAnyH_all hr (by simp) (fun k hk => ?_)
  simp only [List.mem_cons, List.not_mem_nil, or_false] at hk
  rcases hk with rfl | rfl
  · unfold wpOp
    simp only [h1]
    rw [if_pos (wanted_none g1 _)]
    refine .inl (wp_of_run (run1 o1 p1) ⟨hS, ?_⟩)
    rw [q1]
    exact readyLd1 hj hr1 hS run2' h
  · unfold wpOp
    simp only [h2]
    rw [if_pos (wanted_none g2 _)]
    refine .inl (wp_of_run (run2 o2 p2) ⟨hS, ?_⟩)
    rw [q2]
    refine readyLd1 hi hr2 hS run1' ?_
    have e1 : (a.put (some e) u).put (some d) v = (a.put (some d) v).put (some e) u := by
      simp only [Act.put]
      rw [Array.setIfInBounds_comm _ _ (fun e' => hde e'.symm)]
    rw [e1, Array.setIfInBounds_comm _ _ (fun e' => hij e'.symm)]
    exact h
end
end Go.Proofs.Ytacofgmnmofkpaa
namespace Go.Proofs.Ytacofgmnmofkpaa
set_option linter.unusedSimpArgs false
set_option linter.unusedVariables false
open Go.ChangeShapes Go.WideShapes Go.ChangeAt Go.RowKit Go.Pin Go.Fld
theorem wp_as {P : Program} {c c' : Code} {Q : Exit → Act → World → Prop} {a : Act} {w : World} (h : c = c') (hc : Code.wp P c' Q a w) : Code.wp P c Q a w := by rw [h]; exact hc
/-- the region number n -/
def findReg (n : Nat) : Code → Option Code
  | .region i ops d => if i = n then some (.region i ops d) else none
  | .seq a b => match findReg n a with
    | some c => some c
    | none => findReg n b
  | .block _ c => findReg n c
  | .loop c => findReg n c
  | .scope c => findReg n c
  | .cond _ a b => match findReg n a with
    | some c => some c
    | none => findReg n b
  | _ => none
/-- the box of a Step -/
def stA (K0 A0 B0 C0 : Int) (D : List Int) (N T : Int) : Array Value := #[.int .i64 K0, .int .i64 A0, .int .i64 B0, .int .i64 C0] ++ VI .u8 D ++ #[.int .u32 N, .int .u64 T]
def stO (K0 A0 B0 C0 : Int) (D : List Int) (N T : Int) : Obj := .cells (stA K0 A0 B0 C0 D N T) 60
theorem st_cell {w : World} {gx : Nat} {K0 A0 B0 C0 N T : Int} {D : List Int} (h : w.heap[gx]? = some (stO K0 A0 B0 C0 D N T)) (j : Nat) : w.cell? ⟨gx, j, none⟩ = (#[.int .i64 K0, .int .i64 A0, .int .i64 B0, .int .i64 C0] ++ VI .u8 D ++ #[.int .u32 N, .int .u64 T])[j]? := cell_of_row w gx j _ _ _ h
theorem st_data {w : World} {gx : Nat} {K0 A0 B0 C0 N T : Int} {D : List Int} (h : w.heap[gx]? = some (stO K0 A0 B0 C0 D N T)) (hl : D.length = 32) : w.rangeAt gx 4 (D.map (Value.int .u8)) := by
  intro j v hv
  have hj : j < D.length := by simpa using (List.getElem?_eq_some_iff.1 hv).1
  rw [st_cell h, Array.getElem?_append_left (by simp [VI]; omega), Array.getElem?_append_right (by simp)]
  simpa [VI] using hv
theorem st_n {w : World} {gx : Nat} {K0 A0 B0 C0 N T : Int} {D : List Int} (h : w.heap[gx]? = some (stO K0 A0 B0 C0 D N T)) (hl : D.length = 32) : w.cell? ⟨gx, 36, none⟩ = some (.int .u32 N) := by
  rw [st_cell h, Array.getElem?_append_right (by simp [VI, hl])]
  simp [VI, hl]
theorem st_bit {w : World} {gx : Nat} {K0 A0 B0 C0 N T : Int} {D : List Int} (h : w.heap[gx]? = some (stO K0 A0 B0 C0 D N T)) (hl : D.length = 32) : w.cell? ⟨gx, 37, none⟩ = some (.int .u64 T) := by
  rw [st_cell h, Array.getElem?_append_right (by simp [VI, hl])]
  simp [VI, hl]
theorem run_conv {a : Act} {o : Oper} {x : Operand} {N : Int} (hN : 0 ≤ N ∧ N < 4294967296) (ho : o.op = .convert 58 3 x) (he : a.eval x = .int .u32 N) (w : World) : (execOp a.eval o).run Try.prog w = .ok (.value (.int .i64 N)) w := by
  obtain ⟨h0, h1⟩ := hN
  unfold execOp
  simp only [ho, he]
  go_simp
  rw [IntKind.wrap_i64]; omega
theorem run_buildE {a : Act} {o : Oper} (ho : o.op = .build 47 #[]) (w : World) : (execOp a.eval o).run Try.prog w = .ok (.value (.agg (VI .u64 [0, 0, 0, 0, 0]))) w := by
  unfold execOp
  simp only [ho]
  go_simp
  rfl
theorem run_buildN {a : Act} {o : Oper} (ho : o.op = .build 50 #[]) (w : World) : (execOp a.eval o).run Try.prog w = .ok (.value (.agg (VI .i64 (dg 0)))) w := by
  unfold execOp
  simp only [ho]
  go_simp
  rfl
end Go.Proofs.Ytacofgmnmofkpaa
