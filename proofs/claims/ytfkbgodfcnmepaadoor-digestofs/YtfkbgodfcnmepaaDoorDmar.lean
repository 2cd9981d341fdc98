import Derived.Test.YtfkbgodfcnmepaaDoorDmaq
import Derived.Test.YtfkbgodfcnmepaaDoorDmag
import Derived.Test.YtfkbgodfcnmepaaDoorDmao
import Derived.Test.YtfkbgodfcnmepaaDoorDmap
import Derived.Test.YtfkbgodfcnmepaaDoorDmal
namespace Go.Proofs.YtfkbgodfcnmepaaDoor
set_option linter.unusedSimpArgs false
open Go.ChangeShapes Go.WideShapes Go.ChangeAt Go.RowKit Go.Pin Go.Shelf
attribute [local go_sem] Oper.semAt_some
set_option maxRecDepth 100000 in
theorem since_any (v : Value) (n : Int) (w : World) (hv : ∃ p, v = .pointer p) :
    Calls Tryd.prog 35 #[v, .int .i64 n] w fun e w' => e = .returned (.func (.func 48) #[] #[.pointer (some ⟨w.heap.size, 0, none⟩), .pointer (some ⟨w.heap.size + 1, 0, none⟩)]) ∧ w' = (w.alloc (.cells #[v] 23)).alloc (.cells #[.int .i64 n] 3) := by
  obtain ⟨p, rfl⟩ := hv
  go_enter Tryd.func35, Tryd.ntmps35
  go_wp2
  go_ret
  exact ⟨rfl, rfl⟩
theorem grow_of_lt {n₀ : Nat} {W X : World} (h : Below n₀ W X) : Grow (fun k => n₀ ≤ k) W X := ⟨h.os, h.tape, h.output, h.size, fun k _ hn => h.block k (by omega)⟩
theorem since_stops (b1 b2 n₀ : Nat) (v vs : Value) (n : Int) (l : List (Int × Int)) (hl : l.length ≤ 1000000) (w : World) (hr : RecO w v vs l) (hv : ∀ k, vs.ownBlock = some k → k < n₀) (hn : n₀ ≤ w.heap.size)
    (h1 : w.cell? ⟨b1, 0, none⟩ = some v) (h2 : w.cell? ⟨b2, 0, none⟩ = some (.int .i64 n)) :
    SeqStopsK Fence.wide 4 Tryd.prog 48 #[.pointer (some ⟨b1, 0, none⟩), .pointer (some ⟨b2, 0, none⟩)] (fun x : Int × Int => #[evV x]) (Below n₀) (fun ys => ys = beh l n) (fun pre => pre <+: beh l n) l.length w := by
  intro l' J Jx W hW hJ hJx hY h0
  have hr' := hr.below hW
  have c1 : W.cell? ⟨b1, 0, none⟩ = some v := (hW.cell (p := ⟨b1, 0, none⟩) (World.block_lt_of_cell? w _ h1)).trans h1
  have c2 : W.cell? ⟨b2, 0, none⟩ = some (.int .i64 n) := (hW.cell (p := ⟨b2, 0, none⟩) (World.block_lt_of_cell? w _ h2)).trans h2
  refine (since1_in l' b1 b2 v vs n l hl (fun pre X => J pre X ∧ Below n₀ W X) Jx W ?_ ?_ ?_ hr' c1 c2 ⟨h0, Below.refl _ _⟩).mono ?_
  · intro pre X o ⟨hj, hb⟩
    exact ⟨hJ pre X _ none hj (World.grownBy_alloc X o none) (fun r e => by cases e), hb.alloc (by have := hb.size; have := hW.size; omega) o⟩
  · intro pre X ⟨_, hb⟩
    exact sl_grow (grow_of_lt hb) hr'.sl (fun k hk => by have := hv k hk; omega)
  · intro pre x X ⟨hj, hb⟩ hlt _
    obtain ⟨fn, tmps, assign, body, hy, hR⟩ := hY pre x X hj hlt
    refine ⟨fn, tmps, assign, body, hy, hR.mono ?_⟩
    rintro e X' (⟨rfl, hj', hk⟩ | ⟨rfl, hj'⟩)
    · exact .inl ⟨rfl, hj', hb.trans hk⟩
    · exact .inr ⟨rfl, hj'⟩
  · rintro e W' ⟨he, ⟨hj, _⟩ | ⟨pre, hp, hj⟩⟩
    · exact ⟨he, .inl ⟨_, rfl, hj⟩⟩
    · exact ⟨he, .inr ⟨_, hp, hj⟩⟩
/-- a variable's box of two cells -/
def Boxed2 (W : World) (B : Nat) (t : TypeId) (a b : Value) : Prop := W.heap[B]? = some (.cells #[a, b] t (0, 0))
theorem Boxed2.cell0 {W : World} {B : Nat} {t : TypeId} {a b : Value} (h : Boxed2 W B t a b) : W.cell? ⟨B, 0, none⟩ = some a := by simp [World.cell?, show W.heap[B]? = _ from h]
theorem Boxed2.cell1 {W : World} {B : Nat} {t : TypeId} {a b : Value} (h : Boxed2 W B t a b) : W.cell? ⟨B, 1, none⟩ = some b := by simp [World.cell?, show W.heap[B]? = _ from h]
theorem Boxed2.new (W : World) (t : TypeId) (a b : Value) : Boxed2 (W.alloc (.cells #[a, b] t)) W.heap.size t a b := World.alloc_heap_new W _
theorem Boxed2.turn {X Y : World} {row : Option Nat} {B : Nat} {t : TypeId} {a b : Value} (h : Boxed2 X B t a b) (hg : X.grownBy Y row) (hr : ∀ r, row = some r → ∃ o : Obj, X.heap[r]? = some o ∧ o.isCells = false) : Boxed2 Y B t a b :=
  (hg.block B (Array.getElem?_eq_some_iff.1 h).1 (fun e => by obtain ⟨o, ho, hc⟩ := hr B e.symm; rw [show X.heap[B]? = _ from h] at ho; cases ho; cases hc)).trans h
set_option maxRecDepth 100000 in
set_option maxHeartbeats 2000000 in
theorem events_in (v vs : Value) (l : List (Int × Int)) (hl : l.length ≤ 1000000) (w : World) (hr : RecO w v vs l) :
    CallsIn Fence.wide 5 Tryd.prog 16 #[v] w fun e W' => ∃ u, e = .returned u ∧ W'.ownsRow w.heap.size 82 2 u l.length (evC l) ∧ Below w.heap.size w W' := by
  obtain ⟨i0, hi, hz0, hz1, hz2⟩ := info_parts info37
  have HI : Hid _ := And.intro hi (And.intro hz0 (And.intro hz1 hz2))
  clear hi hz0 hz1 hz2
  have HR : Hid (RecO w v vs l) := hr
  have hv : ∃ p, v = .pointer p := by rcases hr with ⟨rfl, _⟩ | ⟨_, _, rfl, _⟩ <;> exact ⟨_, rfl⟩
  clear hr
  obtain ⟨p, rfl⟩ := hv
  refine callsIn_of_wp_marks Tryd.func16 rfl trivial ?_ rfl
  simp only [Tryd.ntmps16, List.size_toArray, List.length_cons, List.length_nil, Nat.reduceAdd, Nat.reduceSub, Array.replicate_succ, Array.replicate_zero, List.push_toArray, List.append_toArray, List.nil_append, List.cons_append]
  gi_wp2_with (first | (refine ⟨trivial, ?_⟩; gi_at_call 34; refine (callsIn_wide.2 (total_any _ _ l _ HR.out)).mono ?_; rintro e w' ⟨rfl, rfl⟩) | (gi_at_make; refine wpListIn_make_own _ rfl _ _ 36 rfl w'.heap.size 82 i0 (.agg #[.int .i64 0, .int .i64 0]) 2 Tryd.underlying36 HI.out.1 HI.out.2.1 HI.out.2.2.1 .i64 .i64 l.length l.length rfl rfl rfl (by rw [HI.out.2.2.2]; omega) (by unfold maxLen; omega) (Nat.le_refl _) ?_; intro w1 hown hgrow) | (refine ⟨trivial, ?_⟩; gi_at_call 35; refine (callsIn_wide.2 (since_any _ 0 _ ⟨_, rfl⟩)).mono ?_; rintro e w' ⟨rfl, rfl⟩))
  have hB1 : Below w'.heap.size w' w1 := (Below.refl _ w').grown hgrow (Nat.le_refl _) (fun k e => by cases e)
  have hs1 := hB1.size
  have bO := ((Boxed.new w1 36 (.slice (some ⟨w'.heap.size, 0, none⟩) 0 l.length)).alloc (.cells #[.pointer p] 23)).alloc (.cells #[.int .i64 0] 3)
  have bR := (Boxed.new (w1.alloc (.cells #[.slice (some ⟨w'.heap.size, 0, none⟩) 0 l.length] 36)) 23 (.pointer p)).alloc (.cells #[.int .i64 0] 3)
  have bN := Boxed.new ((w1.alloc (.cells #[.slice (some ⟨w'.heap.size, 0, none⟩) 0 l.length] 36)).alloc (.cells #[.pointer p] 23)) 3 (.int .i64 0)
  simp only [World.size_alloc] at bR bN
  have hB0 : Below w'.heap.size w' (((w1.alloc (.cells #[.slice (some ⟨w'.heap.size, 0, none⟩) 0 l.length] 36)).alloc (.cells #[.pointer p] 23)).alloc (.cells #[.int .i64 0] 3)) := ((hB1.alloc (by omega) _).alloc (by simp; omega) _).alloc (by simp; omega) _
  have hrow := ((hown.alloc (.cells #[.slice (some ⟨w'.heap.size, 0, none⟩) 0 l.length] 36)).alloc (.cells #[.pointer p] 23)).alloc (.cells #[.int .i64 0] 3)
  have hsz : (((w1.alloc (.cells #[.slice (some ⟨w'.heap.size, 0, none⟩) 0 l.length] 36)).alloc (.cells #[.pointer p] 23)).alloc (.cells #[.int .i64 0] 3)).heap.size = w1.heap.size + 3 := by simp
  obtain ⟨W0, hW0⟩ : ∃ W0, ((w1.alloc (.cells #[.slice (some ⟨w'.heap.size, 0, none⟩) 0 l.length] 36)).alloc (.cells #[.pointer p] 23)).alloc (.cells #[.int .i64 0] 3) = W0 := ⟨_, rfl⟩
  rw [hW0] at bO bR bN hB0 hrow hsz ⊢
  clear hW0 hown hgrow hB1
  obtain ⟨o0, ho0⟩ : ∃ o0, w1.heap.size = o0 := ⟨_, rfl⟩
  rw [ho0] at bO bR bN hs1 hsz ⊢
  clear ho0 w1
  have hvb : ∀ k, vs.ownBlock = some k → k < w'.heap.size := fun k hk => (HR.out.owns.lt k hk).2
  have hbeh : beh l 0 = l := by simp [beh]
  refine wpIn_rangeFunc_ownH (F := Fence.wide) (n := 5) rfl (by decide) (gf := 48) (lb := #[.pointer (some ⟨o0 + 1, 0, none⟩), .pointer (some ⟨o0 + 1 + 1, 0, none⟩)]) rfl trivial (enters_of Tryd.func48 (by kernel_rfl) rfl)
    (since_stops (o0 + 1) (o0 + 1 + 1) w'.heap.size (.pointer p) vs 0 l hl W0 (HR.out.below hB0) hvb (by omega) bR.cell bN.cell) belowK_t (belowK_b (by omega)) (Below.refl _ _) (fun _ => rfl)
    (fun pre W => (∃ u, Boxed W o0 36 u ∧ W.ownsRow w'.heap.size 82 2 u pre.length (evC pre) ∧ True) ∧ Below w'.heap.size w' W)
    (fun _ _ _ => False)
    (OwnFrom.and (Own.from (holdsRow_own w'.heap.size o0 36 82 2 (fun pre => List.length pre) (fun pre => evC pre) (fun _ _ => True)) _) (ownFrom_below (Nat.le_refl _) (by omega)))
    (fun _ _ _ _ _ hs _ _ => hs)
    ⟨⟨_, bO, hrow, trivial⟩, hB0⟩
    (fun x a' W => ∃ Bx, Boxed2 W Bx 82 (.int .i64 x.1) (.int .i64 x.2) ∧ a' = { tmps := #[.pointer p, undef, .slice none 0 0, .pointer (some ⟨o0, 0, none⟩), .pointer (some ⟨Bx, 0, none⟩), .pointer p, .int .i64 l.length, .slice (some ⟨w'.heap.size, 0, none⟩) 0 l.length, .pointer p, .func (.func 48) #[] #[.pointer (some ⟨o0 + 1, 0, none⟩), .pointer (some ⟨o0 + 1 + 1, 0, none⟩)], evV x, undef, undef, undef, undef, undef], defers := [] })
    (fun x a' _ X Y row hs hg hr => by obtain ⟨Bx, h2, h3⟩ := hs; exact ⟨Bx, h2.turn hg (fun r e => (hr r e).2), h3⟩)
    ?assign ?body ?done ?stop
  case assign =>
    rintro l1 pre ⟨x1, x2⟩ W K ⟨⟨u, bO1, hr1, _⟩, hB1⟩ hK
    simp only [evV] at hK ⊢
    gi_wp2
    exact hK _ _ ((KeepsOthers.alloc _ _).from _) ((Below.refl _ W).alloc hB1.size _) ⟨⟨u, bO1.alloc _, hr1.alloc _, trivial⟩, hB1.alloc hB1.size _⟩ ⟨W.heap.size, Boxed2.new W 82 _ _, rfl⟩
  case body =>
    rintro l1 pre ⟨x1, x2⟩ a' W hl1 ⟨r, hr1⟩ ⟨⟨u, bO1, hrw, _⟩, hB1⟩ ⟨Bx, bX, rfl⟩ hlt
    have cO := bO1.cell
    have cX0 := bX.cell0
    have cX1 := bX.cell1
    simp only at cX0 cX1
    have HRW : Hid (W.ownsRow w'.heap.size 82 2 u pre.length (evC pre)) := hrw
    have HB1 : Hid (Below w'.heap.size w' W) := hB1
    have HO1 : Hid (Boxed W o0 36 u) := bO1
    clear bX hr1 hrw hB1 bO1
    gi_wp2_with (gi_at_builtin; refine wpListIn_append_own _ rfl _ _ 36 rfl w'.heap.size 82 i0 (.agg #[.int .i64 0, .int .i64 0]) 2 16 Tryd.underlying36 HI.out.1 HI.out.2.1 HI.out.2.2.1 HI.out.2.2.2 rfl (by decide) _ pre.length (evC pre) rfl (HRW.out.alloc _) ⟨W.heap.size, 0, none⟩ 1 1 [.int .i64 x1, .int .i64 x2] rfl rfl ?_ ?_ ?_ ?_ ?_ ?_)
    · intro j u hj
      match j, hj with
      | 0, hj => simp at hj; subst hj; simp [Addr.add]
      | 1, hj => simp at hj; subst hj; simp [Addr.add]
    · intro u hu
      simp at hu
      rcases hu with rfl | rfl <;> rfl
    · unfold maxLen; omega
    · omega
    · have := HB1.out.size; simp; omega
    · intro v' w2 hown' hgrow _
      obtain ⟨g', cap', rfl⟩ := ownsRow_succ hown'
      obtain ⟨hv1, hv2, hr2, hk2, hb2⟩ := HO1.out.appended (by decide) HRW.out HB1.out.size hs1 hown' hgrow
      have hc1 := hv1.cell
      have hf1 := hv1.frozen
      have H2 : Hid (_ ∧ _ ∧ _ ∧ _) := ⟨hv2, hr2, hk2, hb2⟩
      clear hown' hgrow hv1 hv2 hr2 hk2 hb2
      gi_wp2
      obtain ⟨hv2, hr2, hk2, hb2⟩ := H2.out
      exact ⟨hk2.from _, hb2, ⟨_, hv2, by rw [List.length_append, evC_app]; exact hr2, trivial⟩, HB1.out.trans hb2⟩
  case done =>
    rintro D ys W hD rfl ⟨⟨u, bO1, hr1, _⟩, hB1⟩ hK
    have cO := bO1.cell
    gi_wp2
    refine ⟨by simp, .inl ⟨_, _, rfl, run_takeDeferred hK, ?_⟩⟩
    exact ⟨_, results_tmp rfl _ _ _, u, rfl, ownsRow_putObj hr1 _ hK rfl, hB1.trans (belowK_b (w := w') (Nat.le_refl _) W D _ _ (by omega) hK rfl rfl)⟩
  case stop =>
    rintro D c pre W _ _ h _
    exact h.elim
theorem tEvents_any (v vs : Value) (l : List (Int × Int)) (hl : l.length ≤ 1000000) (w : World) (hr : RecO w v vs l) :
    Calls Tryd.prog 16 #[v] w fun e W' => ∃ u, e = .returned u ∧ W'.ownsRow w.heap.size 82 2 u l.length (evC l) ∧ Below w.heap.size w W' :=
  callsIn_wide.1 (events_in v vs l hl w hr)
end Go.Proofs.YtfkbgodfcnmepaaDoor
namespace Go.Proofs.YtfkbgodfcnmepaaDoor
set_option linter.unusedSimpArgs false
open Go.ChangeShapes Go.WideShapes Go.ChangeAt Go.RowKit Go.Pin
set_option maxRecDepth 100000 in
set_option maxHeartbeats 1000000 in
theorem rsame_any (va vb : Value) (l : List (Int × Int)) (w : World) (ha : Sl w va 2 (evC l) l.length) (hb : Sl w vb 2 (evC l) l.length) (hl : l.length ≤ 1000000000) :
    Calls Tryd.prog 15 #[va, vb] w fun e w' => e = .returned (.bool true) ∧ ∃ n, w' = w.drewN n := by
  obtain ⟨_, aa, ca, rfl, _, ha⟩ := ha
  obtain ⟨_, ab, cb, rfl, _, hb⟩ := hb
  have HA : Hid _ := ha
  have HB : Hid _ := hb
  clear ha hb
  generalize hn : l.length = n at *
  have HL : Hid _ := hn
  clear hn
  go_enter Tryd.func15, Tryd.ntmps15
  go_wp2
  go_loopw [5] (fun v wr => ∃ i m : Nat, i ≤ n ∧ v = .int .i64 i ∧ wr = w.drewN m) (fun v _ => n - (intOf v).toNat)
  case atStart => exact ⟨0, 0, Nat.zero_le _, rfl, rfl⟩
  case round =>
    obtain ⟨i, m, hi, rfl, rfl⟩ := hrel
    by_cases hlt : i < n
    · rcases HA.out with h0 | ⟨ba, oa, rfl, hca⟩
      · omega
      rcases HB.out with h0 | ⟨bb, ob, rfl, hcb⟩
      · omega
      obtain ⟨⟨xk, xv⟩, e1⟩ : ∃ x, l[i]? = some x := ⟨_, List.getElem?_eq_getElem (by rw [HL.out]; exact hlt)⟩
      obtain ⟨p1, p2⟩ := evC_at l i _ e1
      have c1 := hca _ _ p1
      have c2 := hca _ _ p2
      have c3 := hcb _ _ p1
      have c4 := hcb _ _ p2
      clear hca hcb p1 p2 e1 HA HB
      simp only at c1 c2 c3 c4
      rw [← Nat.add_assoc] at c2 c4
      go_wp2
      go_quiet (fail)
      go_wp2
      go_roundw
      case rel => exact ⟨i + 1, _, by omega, by go_num, rfl⟩
      case measure => simp [intOf]; omega
    · have hi' : i = n := by omega
      subst hi'
      go_wp2
      go_ret
      exact ⟨rfl, _, rfl⟩
end Go.Proofs.YtfkbgodfcnmepaaDoor
namespace Go.Proofs.YtfkbgodfcnmepaaDoor
set_option linter.unusedSimpArgs false
set_option linter.unusedVariables false
open Go.ChangeShapes Go.WideShapes Go.ChangeAt Go.RowKit Go.Pin Go.Str Go.Dig
theorem Ev.join {B : Nat} {w : World} {rv : Value} {l l' : List (Int × Int)} {bx bx' : List (Nat × Obj)} {W1 w2 : World} (h : Ev B w rv l bx W1) (h' : Ev W1.heap.size W1 (.pointer none) l' bx' w2) : Ev B w rv l (bx' ++ bx) w2 ∧ (∀ p ∈ bx', ∀ q ∈ bx, q.1 ≠ p.1) := by
  have hb := h.below h'.old
  refine ⟨⟨hb.old, hb.le, fun p hp => ?_, fun p hp => ?_, ?_⟩, fun p hp q hq e => ?_⟩
  · rcases List.mem_append.1 hp with hp | hp
    · exact Nat.le_trans h.le (h'.ge p hp)
    · exact h.ge p hp
  · rcases List.mem_append.1 hp with hp | hp
    · exact h'.at' p hp
    · exact hb.at' p hp
  · rcases h.rc with e | ⟨R, vs, e, g2, g3⟩
    · exact .inl e
    · rcases hb.rc with e' | ⟨R', vs', e', k2, k3⟩
      · exact .inl e'
      · refine .inr ⟨R, vs, e, g2.below h'.old, fun p hp => ?_⟩
        rcases List.mem_append.1 hp with hp | hp
        · intro hk; have := g2.lt _ hk; have := h'.ge p hp; omega
        · exact g3 p hp
  · have := heap_lt (h.at' q hq)
    have := h'.ge p hp
    omega
theorem v_events {B : Nat} {w : World} {R : Nat} {l : List (Int × Int)} {bx : List (Nat × Obj)} {W : World} (h : Ev B w (.pointer (some ⟨R, 0, none⟩)) l bx W) (hl : l.length ≤ 1000000) : Calls Tryd.prog 16 #[.pointer (some ⟨R, 0, none⟩)] W fun e W' => ∃ u, e = .returned u ∧ W'.ownsRow W.heap.size 82 2 u l.length (evC l) ∧ Below W.heap.size W W' := by
  rcases h.rc with e | ⟨R', vs, e, h2, h3⟩
  · cases e
  · injection e with e; injection e with e; injection e with e1; subst e1
    exact tEvents_any _ vs l hl W h2.opt
theorem same_own {W : World} {B B' : Nat} {u v : Value} {l : List (Int × Int)} (hu : W.ownsRow B 82 2 u l.length (evC l)) (hv : W.ownsRow B' 82 2 v l.length (evC l)) (hl : l.length ≤ 1000000) :
    Calls Tryd.prog 15 #[u, v] W fun e w' => e = .returned (.bool true) ∧ Below W.heap.size W w' := by
  refine (rsame_any u v l W (sl_of_owns hu) (sl_of_owns hv) (by omega)).mono ?_
  rintro e w' ⟨rfl, n, rfl⟩
  exact ⟨rfl, rfl, rfl, rfl, Nat.le_refl _, fun _ _ => rfl⟩
theorem code_nil (w : World) : Calls Tryd.prog 13 #[.nilIface] w fun e w' => e = .returned (.int .i64 0) ∧ w' = w := by
  go_enter Tryd.func13, Tryd.ntmps13
  go_wp2
  go_ret
  exact ⟨rfl, rfl⟩
set_option maxRecDepth 100000 in
theorem code_arg (w : World) (ea : Addr) (hE : w.cell? ⟨0, 0, none⟩ = some (.iface 120 (.pointer (some ea)))) : Calls Tryd.prog 13 #[.iface 120 (.pointer (some ea))] w fun e w' => e = .returned (.int .i64 1) ∧ w' = w := by
  have he := eq_err ea w
  go_enter Tryd.func13, Tryd.ntmps13
  go_wp2
  go_ret
  exact ⟨rfl, rfl⟩
end Go.Proofs.YtfkbgodfcnmepaaDoor
namespace Go.Proofs.YtfkbgodfcnmepaaDoor
set_option linter.unusedSimpArgs false
set_option linter.unusedVariables false
open Go.ChangeShapes Go.WideShapes Go.ChangeAt Go.RowKit Go.Pin Go.Str Go.Dig
theorem run_upS (w : World) (g n cap x : Nat) (hx : x ≤ cap) : (Instr.slice 22 (.slice (some ⟨g, 0, none⟩) n cap) none (some (.int .i64 (x : Int))) none).run Tryd.prog w = .ok (.slice (some ⟨g, 0, none⟩) x cap) w := by
  have h1 : ((x : Nat) : Int) ≤ (cap : Int) := by omega
  simp [Instr.slice, run_underlying Tryd.underlying22, Instr.sliceBounds, run_sliceBound, size_u8, sliced, h1, hx, Addr.add]
theorem blg_len (z : Int) : (blg z).length ≤ 3 := by unfold blg; split; (simp); split <;> simp
theorem src_nil (B : Nat) (w : World) (bx : List (Nat × Obj)) : Src B w bx (.slice none 0 0) [] := ⟨none, 0, rfl, Nat.le_refl _, .inl rfl⟩
theorem RdB.below {w w' : World} {v : Value} {D : List Int} (h : RdB w v D) {B : Nat} (hB : w.heap.size ≤ B) (hb : Below B w w') : RdB w' v D := ((h.src []).at_ (rv := .pointer none) (l := []) ⟨hb.mono hB, by have := hb.size; omega, (fun p hp => nomatch hp), (fun p hp => nomatch hp), .inl rfl⟩ []).rb (fun p hp => nomatch hp)
set_option maxRecDepth 100000 in
set_option maxHeartbeats 16000000 in
theorem news_walk (z : Int) (D : List Int) (hDb : Byt D) (a : Option Addr) (n cap : Nat) (W : World) (hR : RdB W (.slice a n cap) D) (hB : Beg W) (hE : ∃ a, W.cell? ⟨0, 0, none⟩ = some (.iface 120 (.pointer (some a)))) :
    Calls Tryd.prog 3 #[.int .i64 z, .slice a n cap] W fun e w' => e = .returned (.bool true) ∧ Below W.heap.size W w' := by
  obtain ⟨q, hq⟩ : ∃ q, W.heap.size = q := ⟨_, rfl⟩
  have hDn := (rdb_at hq hR).1
  have h1 := ev_new W
  have cn := new_any W
  rw [hq] at h1 cn ⊢
  obtain ⟨W1, hW1⟩ : ∃ V, W.alloc (.cells #[.slice none 0 0, .int .i64 0] 76) = V := ⟨_, rfl⟩
  rw [hW1] at h1 cn
  have hs1 : W1.heap.size = q + 1 := by rw [← hW1, size_alloc, hq]
  have CN : Hid (Calls Tryd.prog 9 #[] W fun e w' => e = .returned (.pointer (some ⟨q, 0, none⟩)) ∧ w' = W1) := cn
  have H1 : Hid (Ev q W (.pointer (some ⟨q, 0, none⟩)) [] [] W1) := h1
  have HBE : Hid (Beg W ∧ 2 ≤ q ∧ ∃ a, W.cell? ⟨0, 0, none⟩ = some (.iface 120 (.pointer (some a)))) := ⟨hB, by rw [← hq]; exact hB.2, hE⟩
  have HK : Hid (RdB W (.slice a n cap) D ∧ D.length = n ∧ Byt D ∧ W.heap.size = q) := ⟨hR, hDn, hDb, hq⟩
  have HS : Hid (∀ bx, Src q W bx (.slice a n cap) D) := by
    have : ∀ bx, Src q W bx (.slice a n cap) D := fun bx => by rw [← hq]; exact hR.src bx
    exact this
  have HB0 : Hid (Below q W W) := Below.refl _ _
  clear h1 cn hB hE hR hDn hDb hq hW1
  by_cases hbig : n ≤ 131072
  · have b0 : ¬ (131072 : Int) < (n : Int) := by omega
    have HB : Hid (n ≤ 131072) := hbig
    have CR : Hid (Calls Tryd.prog 10 #[.slice a n cap] W1 fun e w' => e = .returned (.slice (some ⟨q + 1, 0, none⟩) (n + 70) (n + 70)) ∧ Ev q W (.pointer (some ⟨q, 0, none⟩)) [] [(q + 1, .cells (VI .u8 (room D)) 5)] w') := by
      have := roomy_any W1 D a n cap (H1.out.rb (HS.out [])) hbig
      rw [hs1] at this
      exact this.mono (fun e w' hh => ⟨hh.1, by have := (H1.out.join (by rw [hs1]; exact hh.2)).1; simpa using this⟩)
    have hup := fun w => run_upS w (q + 1) (n + 70) (n + 70) n (by omega)
    have HSR : Hid (∀ o, Src q W ((q + 1, .cells (VI .u8 (room D)) 5) :: o) (.slice (some ⟨q + 1, 0, none⟩) n (n + 70)) D) := fun o => by
      have := src_box (B := q) (w := W) (bx := (q + 1, .cells (VI .u8 (room D)) 5) :: o) (g := q + 1) (L := room D) (T := 5) mem0 0 n (n + 70) (by rw [room_len, HK.out.2.1]; omega) (by omega)
      rw [List.drop_zero, ← HK.out.2.1, room_take, HK.out.2.1] at this
      exact this
    clear hs1 hbig H1
    by_cases hbad : z < 1 ∨ 32 < z ∨ 32 < n
    · have HZ : Hid (z < 1 ∨ 32 < z ∨ 32 < n) := hbad
      have HEL : Hid (elog z n = [] ++ blg z) := by
        have : elog z n = [] ++ blg z := by unfold elog; rw [if_pos hbad]; rfl
        exact this
      obtain ⟨ea, hea⟩ := HBE.out.2.2
      have HEA : Hid (W.cell? ⟨0, 0, none⟩ = some (.iface 120 (.pointer (some ea)))) := hea
      clear hbad hea
      go_enter Tryd.func3, Tryd.ntmps3
      go_upto_region 7 with (first | (go_at_call 9; refine Calls.mono CN.out ?_; rintro e V1 ⟨rfl, hV⟩; obtain rfl := hV; clear CN) | (go_at_call 10; refine Calls.mono CR.out ?_; rintro e w2 ⟨rfl, h2⟩; have CD : Hid _ := dnew_bad h2 (fun _ => by simp) z (.iface 120 (.pointer (some ea))) HEA.out (by have := HBE.out.2.1; omega) (some ⟨q + 1, 0, none⟩) n (n + 70) HZ.out; clear h2 CR) | (go_at_call 11; refine Calls.mono CD.out ?_; rintro e w3 ⟨rfl, h3⟩; have CS : Hid _ := rsum_bad w3 z a n cap (.slice none 0 0) HZ.out; have H3 : Hid _ := h3; clear h3 CD) | (go_at_call 12; refine Calls.mono CS.out ?_; rintro e w4 ⟨rfl, hV⟩; obtain rfl := hV; clear CS))
      have CC : Hid _ := code_arg w4 ea ((World.cell?_of_block (a := ⟨0, 0, none⟩) (H3.out.old.block 0 (by have := HBE.out.2.1; omega))).trans HEA.out)
      have CT : Hid _ := stands_any w4 D (some ⟨q + 1, 0, none⟩) a n (n + 70) (n + 70) cap (row_rd (H3.out.row mem0) (by rw [room_len, HK.out.2.1]) (Nat.le_refl _)) (H3.out.rb (HS.out _)) HB.out
      go_upto_region 9 with (first | (go_at_call 13; refine Calls.mono CC.out ?_; rintro e V1 ⟨rfl, hV⟩; obtain rfl := hV; clear CC) | (go_at_call 14; refine Calls.mono CT.out ?_; rintro e w5 ⟨rfl, h5⟩; have H5 : Hid _ := H3.out.below h5; clear h5 CT H3))
      have CE : Hid _ := v_events (l := [] ++ blg z) H5.out (by rw [List.nil_append]; exact Nat.le_trans (blg_len z) (by decide))
      go_wp2_with (first | (go_at_call 16; refine Calls.mono CE.out ?_; rintro e w6 ⟨u, rfl, hu, h6⟩; have CE2 : Hid _ := enew_any z n w6; have H6 : Hid _ := H5.out.below h6; have HU : Hid _ := hu; clear hu h6 CE H5) | (go_at_call 17; refine Calls.mono CE2.out ?_; rintro e w7 ⟨u2, rfl, h7⟩; have H7 : Hid _ := H6.out.below h7.old; have CQ : Hid (Calls Tryd.prog 15 #[u, u2] w7 fun e w' => e = .returned (.bool true) ∧ Below w7.heap.size w7 w') := same_own (owns_below HU.out h7.old) (by have := h7.own; rw [HEL.out] at this; exact this) (by rw [List.nil_append]; exact Nat.le_trans (blg_len z) (by decide)); clear h7 CE2 H6) | (go_at_call 15; refine Calls.mono CQ.out ?_; rintro e w8 ⟨rfl, h8⟩; have H8 : Hid _ := H7.out.below h8; have CK : Hid (Calls Tryd.prog 18 #[] w8 fun e w' => e = .returned (.bool true) ∧ Below q W w') := known_at H8.out.old HBE.out.1 HBE.out.2.1 HBE.out.2.2 H8.out.le; clear h8 CQ H7) | (go_at_call 18; refine Calls.mono CK.out ?_; rintro e w9 ⟨rfl, h9⟩; have H9 : Hid _ := h9; clear h9 CK))
      go_ret
      exact ⟨rfl, H9.out⟩
    · obtain ⟨s, rfl⟩ : ∃ s : Nat, z = (s : Int) := ⟨z.toNat, by omega⟩
      have HZ : Hid (¬ ((s : Int) < 1 ∨ 32 < (s : Int) ∨ 32 < n)) := hbad
      have HZ' : Hid ((1 ≤ s ∧ s ≤ 32) ∧ n ≤ 32) := by show (1 ≤ s ∧ s ≤ 32) ∧ n ≤ 32; omega
      have HEL : Hid (elog (s : Int) n = nlg D) := by
        have : elog (s : Int) n = nlg D := by rw [← HK.out.2.1]; exact elog_nlg (by rw [HK.out.2.1]; exact hbad)
        exact this
      clear hbad
      go_enter Tryd.func3, Tryd.ntmps3
      go_upto_region 7 with (first | (go_at_call 9; refine Calls.mono CN.out ?_; rintro e V1 ⟨rfl, hV⟩; obtain rfl := hV; clear CN) | (go_at_call 10; refine Calls.mono CR.out ?_; rintro e w2 ⟨rfl, h2⟩; have CD : Hid _ := dnew_any h2 (fun _ => by simp) s HZ'.out.1 HBE.out.1 HBE.out.2.1 _ D (HSR.out []) (by rw [HK.out.2.1]; exact HZ'.out.2) HK.out.2.2.1; clear h2 CR) | (go_at_call 11; refine Calls.mono CD.out ?_; rintro e w3 ⟨g, rfl, ob, hne, hst, h3⟩; have CS : Hid _ := rsum_any w3 s HZ'.out.1 D [] n 0 HK.out.2.1 rfl HZ'.out.2 HK.out.2.2.1 (fun x hx => nomatch hx) (by omega) a none cap 0 (((HS.out _).at_ h3) []) (src_nil _ _ _); have H3 : Hid _ := h3; clear h3 hst hne CD) | (go_at_call 12; refine Calls.mono CS.out ?_; rintro e w4 ⟨vs, rfl, h4⟩; have H4 : Hid _ := H3.out.below h4.ev.old; clear h4 CS))
      have CC : Hid _ := code_nil w4
      have CT : Hid _ := stands_any w4 D (some ⟨q + 1, 0, none⟩) a n (n + 70) (n + 70) cap (row_rd (H4.out.row mem1) (by rw [room_len, HK.out.2.1]) (Nat.le_refl _)) (H4.out.rb (HS.out _)) HB.out
      go_upto_region 9 with (first | (go_at_call 13; refine Calls.mono CC.out ?_; rintro e V1 ⟨rfl, hV⟩; obtain rfl := hV; clear CC) | (go_at_call 14; refine Calls.mono CT.out ?_; rintro e w5 ⟨rfl, h5⟩; have H5 : Hid _ := H4.out.below h5; clear h5 CT H4))
      have CE : Hid _ := v_events H5.out (by simp [nlg])
      go_wp2_with (first | (go_at_call 16; refine Calls.mono CE.out ?_; rintro e w6 ⟨u, rfl, hu, h6⟩; have CE2 : Hid _ := enew_any (s : Int) n w6; have H6 : Hid _ := H5.out.below h6; have HU : Hid _ := hu; clear hu h6 CE H5) | (go_at_call 17; refine Calls.mono CE2.out ?_; rintro e w7 ⟨u2, rfl, h7⟩; have H7 : Hid _ := H6.out.below h7.old; have CQ : Hid (Calls Tryd.prog 15 #[u, u2] w7 fun e w' => e = .returned (.bool true) ∧ Below w7.heap.size w7 w') := same_own (owns_below HU.out h7.old) (by have := h7.own; rw [HEL.out] at this; exact this) (by simp [nlg]); clear h7 CE2 H6) | (go_at_call 15; refine Calls.mono CQ.out ?_; rintro e w8 ⟨rfl, h8⟩; have H8 : Hid _ := H7.out.below h8; have CK : Hid (Calls Tryd.prog 18 #[] w8 fun e w' => e = .returned (.bool true) ∧ Below q W w') := known_at H8.out.old HBE.out.1 HBE.out.2.1 HBE.out.2.2 H8.out.le; clear h8 CQ H7) | (go_at_call 18; refine Calls.mono CK.out ?_; rintro e w9 ⟨rfl, h9⟩; have H9 : Hid _ := h9; clear h9 CK))
      go_ret
      exact ⟨rfl, H9.out⟩
  · have b0 : (131072 : Int) < (n : Int) := by omega
    have b0' : 131072 < n := by omega
    go_enter Tryd.func3, Tryd.ntmps3
    go_wp2
    go_ret
    exact ⟨rfl, HB0.out⟩
end Go.Proofs.YtfkbgodfcnmepaaDoor
namespace Go.Proofs.YtfkbgodfcnmepaaDoor
set_option linter.unusedSimpArgs false
set_option linter.unusedVariables false
open Go.ChangeShapes Go.WideShapes Go.ChangeAt Go.RowKit Go.Pin Go.Str Go.Dig
set_option maxRecDepth 100000 in
set_option maxHeartbeats 4000000 in
theorem joined_any {B : Nat} {w : World} {rv : Value} {l : List (Int × Int)} {bx : List (Nat × Obj)} {W : World} (h : Ev B w rv l bx W) {a : Option Addr} {n cap : Nat} {Ds : List (List Int)} (hP : PSrc B w bx a n Ds) (hn : n ≤ 1000) (hl : Ds.flatten.length ≤ 131072) :
    Calls Tryd.prog 28 #[.slice a n cap] W fun e w' => ∃ v, e = .returned v ∧ LE 5 1 v Ds.flatten.length (Ds.flatten.map (Value.int .u8)) B w rv l bx w' := by
  obtain ⟨F, hF⟩ : ∃ F, Ds.flatten = F := ⟨_, rfl⟩
  obtain ⟨m, hm⟩ : ∃ m, F.length = m := ⟨_, rfl⟩
  have HFl : Hid (Ds.flatten = F ∧ F.length = m) := ⟨hF, hm⟩
  rw [hF] at hl ⊢
  rw [hm] at hl ⊢
  obtain ⟨M, hM⟩ : ∃ M, F.map (Value.int .u8) = M := ⟨_, rfl⟩
  rw [hM]
  have HMl : Hid (F.map (Value.int .u8) = M) := hM
  clear hF hm hM
  have H0 : Hid (Ev B w rv l bx W) := h
  have HP : Hid (PSrc B w bx a n Ds ∧ n ≤ 1000 ∧ Ds.flatten.length ≤ 131072) := ⟨hP, hn, by rw [HFl.out.1, HFl.out.2]; exact hl⟩
  clear h hP hn hl
  go_enter Tryd.func28, Tryd.ntmps28
  go_wp2
  go_loopw [3, 4] (fun v vi w' => ∃ (i : Nat) (lb : List (Nat × Obj)), i ≤ n ∧ vi = .int .i64 (i : Int) ∧ Lst 5 1 v (Ds.take i).flatten.length ((Ds.take i).flatten.map (Value.int .u8)) lb ∧ Ev B w rv l (lb ++ bx) w' ∧ (∀ p ∈ lb, ∀ q ∈ bx, q.1 ≠ p.1)) (fun _ vi _ => n - (intOf vi).toNat)
  case atStart => exact ⟨0, [], Nat.zero_le _, rfl, lst_nil _ _, H0.out, (fun p hp => nomatch hp)⟩
  case round =>
    clear H0
    obtain ⟨i, lb, hi, rfl, hL, he, hd⟩ := hrel
    by_cases hlt : i < n
    · have b1 : (i : Int) < (n : Int) := by omega
      obtain ⟨b, o, u, rfl, hcu, hsu⟩ := HP.out.1.2 i hlt
      have c1 := hcu wr he.old (fun q hq => he.at' q (List.mem_append_right _ hq))
      have hts := take_sum Ds i
      have HAP : Hid (∀ ty, ∃ v' w', (Builtin.append_ #[22, 22] ty #[u3, u]).run Tryd.prog wr = .ok v' w' ∧ ∃ lb', Lst 5 1 v' ((Ds.take i).flatten.length + (Ds.getD i []).length) (((Ds.take i).flatten ++ Ds.getD i []).map (Value.int .u8)) lb' ∧ Ev B w rv l (lb' ++ bx) w' ∧ (∀ p ∈ lb', ∀ q ∈ bx, q.1 ≠ p.1)) := fun ty => he.appB hL hd ty hsu (by have := HP.out.2.2; omega)
      have HI : Hid (i < n ∧ n ≤ 1000 ∧ (Ds.take (i + 1)).flatten = (Ds.take i).flatten ++ Ds.getD i []) := ⟨hlt, HP.out.2.1, by rw [take_snocL Ds i (by rw [HP.out.1.1.1]; exact hlt), List.flatten_append]; simp⟩
      clear hcu hsu he hL hd hts hi
      go_wp2_with (first | (at_builtin; refine wpList_app _ rfl (.tmp 11) (.tmp 15) 22 22 rfl _ _ rfl rfl HAP.out ?_; intro v5 w5 h5; have H5 : Hid _ := h5; clear h5))
      go_roundw
      case rel =>
        obtain ⟨lb', k1, k2, k3⟩ := H5.out
        refine ⟨i + 1, lb', HI.out.1, by rw [wrapS HI.out.1 (by have := HI.out.2.1; unfold maxLen; omega)]; exact congrArg (Value.int .i64) (by omega), ?_, k2, k3⟩
        rw [HI.out.2.2, List.length_append]
        exact k1
      case measure => exact measS HI.out.1 (by have := HI.out.2.1; unfold maxLen; omega)
    · have b1 : ¬ (i : Int) < (n : Int) := by omega
      have et : Ds.take i = Ds := List.take_of_length_le (by rw [HP.out.1.1.1]; omega)
      rw [et] at hL
      rw [HFl.out.1, HFl.out.2, HMl.out] at hL
      have HF : Hid (LE 5 1 u3 m M B w rv l bx wr) := ⟨lb, hL, he, hd⟩
      clear hL he hd hi
      go_wp2
      go_ret
      exact ⟨u3, rfl, HF.out⟩
set_option maxRecDepth 100000 in
set_option maxHeartbeats 4000000 in
theorem lens_any {B : Nat} {w : World} {rv : Value} {l : List (Int × Int)} {bx : List (Nat × Obj)} {W : World} (h : Ev B w rv l bx W) {a : Option Addr} {n cap : Nat} {Ds : List (List Int)} (hP : PSrc B w bx a n Ds) (hn : n ≤ 1000) :
    Calls Tryd.prog 30 #[.slice a n cap] W fun e w' => ∃ v, e = .returned v ∧ LE 3 1 v n (Ds.map fun D => Value.int .i64 (D.length : Int)) B w rv l bx w' := by
  obtain ⟨M, hM⟩ : ∃ M, (Ds.map fun D => Value.int .i64 (D.length : Int)) = M := ⟨_, rfl⟩
  rw [hM]
  have HMl : Hid ((Ds.map fun D => Value.int .i64 (D.length : Int)) = M) := hM
  clear hM
  have H0 : Hid (Ev B w rv l bx W) := h
  have HP : Hid (PSrc B w bx a n Ds ∧ n ≤ 1000) := ⟨hP, hn⟩
  clear h hP hn
  go_enter Tryd.func30, Tryd.ntmps30
  go_wp2
  go_loopw [3, 4] (fun v vi w' => ∃ (i : Nat) (lb : List (Nat × Obj)), i ≤ n ∧ vi = .int .i64 (i : Int) ∧ Lst 3 1 v i ((Ds.take i).map fun D => Value.int .i64 (D.length : Int)) lb ∧ Ev B w rv l (lb ++ bx) w' ∧ (∀ p ∈ lb, ∀ q ∈ bx, q.1 ≠ p.1)) (fun _ vi _ => n - (intOf vi).toNat)
  case atStart => exact ⟨0, [], Nat.zero_le _, rfl, lst_nil _ _, H0.out, (fun p hp => nomatch hp)⟩
  case round =>
    clear H0
    obtain ⟨i, lb, hi, rfl, hL, he, hd⟩ := hrel
    by_cases hlt : i < n
    · have b1 : (i : Int) < (n : Int) := by omega
      obtain ⟨b, o, u, rfl, hcu, hsu⟩ := HP.out.1.2 i hlt
      have c1 := hcu wr he.old (fun q hq => he.at' q (List.mem_append_right _ hq))
      obtain ⟨au, cu, rfl, _, _⟩ := id hsu
      obtain ⟨m, hm⟩ : ∃ m, (Ds.getD i []).length = m := ⟨_, rfl⟩
      rw [hm] at c1
      have HAP : Hid (∀ ty, ∃ v' w', (Builtin.append_ #[59, 59] ty #[u3, .slice (some ⟨wr.heap.size, 0, none⟩) 1 1]).run Tryd.prog (wr.alloc (.cells #[.int .i64 (m : Int)] 3)) = .ok v' w' ∧ ∃ lb', Lst 3 1 v' (i + 1) (((Ds.take i).map fun D => Value.int .i64 (D.length : Int)) ++ [.int .i64 (m : Int)]) lb' ∧ Ev B w rv l (lb' ++ bx) w' ∧ (∀ p ∈ lb', ∀ q ∈ bx, q.1 ≠ p.1)) := fun ty => (he.below ((Below.refl _ _).alloc (Nat.le_refl _) _)).appI hL hd ty (heap_alloc_new wr _) (by have := HP.out.2; omega)
      have HI : Hid (i < n ∧ n ≤ 1000 ∧ ((Ds.take (i + 1)).map fun D => Value.int .i64 (D.length : Int)) = ((Ds.take i).map fun D => Value.int .i64 (D.length : Int)) ++ [.int .i64 (m : Int)]) := ⟨hlt, HP.out.2, by rw [take_snocL Ds i (by rw [HP.out.1.1.1]; exact hlt), List.map_append, ← hm]; rfl⟩
      clear hcu hsu he hL hd hi hm
      go_wp2_with (first | (at_builtin; refine wpList_app _ rfl (.tmp 11) (.tmp 17) 59 59 rfl _ _ rfl rfl HAP.out ?_; intro v5 w5 h5; have H5 : Hid _ := h5; clear h5))
      go_roundw
      case rel =>
        obtain ⟨lb', k1, k2, k3⟩ := H5.out
        refine ⟨i + 1, lb', HI.out.1, by rw [wrapS HI.out.1 (by have := HI.out.2.1; unfold maxLen; omega)]; exact congrArg (Value.int .i64) (by omega), ?_, k2, k3⟩
        rw [HI.out.2.2]
        exact k1
      case measure => exact measS HI.out.1 (by have := HI.out.2.1; unfold maxLen; omega)
    · have b1 : ¬ (i : Int) < (n : Int) := by omega
      have et : Ds.take i = Ds := List.take_of_length_le (by rw [HP.out.1.1.1]; omega)
      have ei : i = n := by omega
      rw [et, ei] at hL
      rw [HMl.out] at hL
      have HF : Hid (LE 3 1 u3 n M B w rv l bx wr) := ⟨lb, hL, he, hd⟩
      clear hL he hd hi ei et
      go_wp2
      go_ret
      exact ⟨u3, rfl, HF.out⟩
end Go.Proofs.YtfkbgodfcnmepaaDoor
