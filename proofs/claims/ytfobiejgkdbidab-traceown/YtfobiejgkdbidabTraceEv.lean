import Derived.Test.YtfobiejgkdbidabTraceIt
namespace Go.Proofs.Ytfobiejgkdbidab
set_option linter.unusedSimpArgs false
open Go.ChangeShapes Go.WideShapes Go.ChangeAt Go.RowKit Go.Pin Go.Shelf
attribute [local go_sem] Oper.semAt_some
theorem grow_of_lt {n₀ : Nat} {W X : World} (h : Below n₀ W X) : Grow (fun k => n₀ ≤ k) W X := ⟨h.os, h.tape, h.output, h.size, fun k _ hn => h.block k (by omega)⟩
theorem since_stops (b1 b2 n₀ : Nat) (v vs : Value) (n : Int) (l : List (Int × Int)) (hl : l.length ≤ 1000000) (w : World) (hr : RecO w v vs l) (hv : ∀ k, vs.ownBlock = some k → k < n₀) (hn : n₀ ≤ w.heap.size)
    (h1 : w.cell? ⟨b1, 0, none⟩ = some v) (h2 : w.cell? ⟨b2, 0, none⟩ = some (.int .i64 n)) :
    SeqStopsK Fence.wide 4 Try.prog 24 #[.pointer (some ⟨b1, 0, none⟩), .pointer (some ⟨b2, 0, none⟩)] (fun x : Int × Int => #[evV x]) (Below n₀) (fun ys => ys = beh l n) (fun pre => pre <+: beh l n) l.length w := by
  intro l' J Jx W hW hJ hJx hY h0
  have hr' := hr.below hW
  have c1 : W.cell? ⟨b1, 0, none⟩ = some v := (hW.cell (p := ⟨b1, 0, none⟩) (World.block_lt_of_cell? w _ h1)).trans h1
  have c2 : W.cell? ⟨b2, 0, none⟩ = some (.int .i64 n) := (hW.cell (p := ⟨b2, 0, none⟩) (World.block_lt_of_cell? w _ h2)).trans h2
  refine (since1_in l' b1 b2 v vs n l hl (fun pre X => J pre X ∧ Below n₀ W X) Jx W ?_ ?_ ?_ hr' c1 c2 ⟨h0, Below.refl _ _⟩).mono ?_
  · intro pre X o ⟨hj, hb⟩
    exact ⟨hJ pre X _ none hj (World.grownBy_alloc X o none) (fun r e => by cases e), hb.alloc (by have := hb.size; have := hW.size; omega) o⟩
  · intro pre X ⟨_, hb⟩
    exact sl_grow (grow_of_lt hb) hr'.sl (fun k hk => by have := hv k hk; omega)
  · intro pre x X ⟨hj, hb⟩ hlt _
    obtain ⟨fn, tmps, assign, body, hy, hR⟩ := hY pre x X hj hlt
    refine ⟨fn, tmps, assign, body, hy, hR.mono ?_⟩
    rintro e X' (⟨rfl, hj', hk⟩ | ⟨rfl, hj'⟩)
    · exact .inl ⟨rfl, hj', hb.trans hk⟩
    · exact .inr ⟨rfl, hj'⟩
  · rintro e W' ⟨he, ⟨hj, _⟩ | ⟨pre, hp, hj⟩⟩
    · exact ⟨he, .inl ⟨_, rfl, hj⟩⟩
    · exact ⟨he, .inr ⟨_, hp, hj⟩⟩
/-- a variable's box of two cells -/
def Boxed2 (W : World) (B : Nat) (t : TypeId) (a b : Value) : Prop := W.heap[B]? = some (.cells #[a, b] t (0, 0))
theorem Boxed2.cell0 {W : World} {B : Nat} {t : TypeId} {a b : Value} (h : Boxed2 W B t a b) : W.cell? ⟨B, 0, none⟩ = some a := by simp [World.cell?, show W.heap[B]? = _ from h]
theorem Boxed2.cell1 {W : World} {B : Nat} {t : TypeId} {a b : Value} (h : Boxed2 W B t a b) : W.cell? ⟨B, 1, none⟩ = some b := by simp [World.cell?, show W.heap[B]? = _ from h]
theorem Boxed2.new (W : World) (t : TypeId) (a b : Value) : Boxed2 (W.alloc (.cells #[a, b] t)) W.heap.size t a b := World.alloc_heap_new W _
theorem Boxed2.turn {X Y : World} {row : Option Nat} {B : Nat} {t : TypeId} {a b : Value} (h : Boxed2 X B t a b) (hg : X.grownBy Y row) (hr : ∀ r, row = some r → ∃ o : Obj, X.heap[r]? = some o ∧ o.isCells = false) : Boxed2 Y B t a b :=
  (hg.block B (Array.getElem?_eq_some_iff.1 h).1 (fun e => by obtain ⟨o, ho, hc⟩ := hr B e.symm; rw [show X.heap[B]? = _ from h] at ho; cases ho; cases hc)).trans h
set_option maxRecDepth 100000 in
set_option maxHeartbeats 2000000 in
theorem events_in (v vs : Value) (l : List (Int × Int)) (hl : l.length ≤ 1000000) (w : World) (hr : RecO w v vs l) :
    CallsIn Fence.wide 5 Try.prog 6 #[v] w fun e W' => ∃ u, e = .returned u ∧ W'.ownsRow w.heap.size 36 2 u l.length (evC l) ∧ Below w.heap.size w W' := by
  obtain ⟨i0, hi, hz0, hz1, hz2⟩ := info_parts info37
  have HI : Hid _ := And.intro hi (And.intro hz0 (And.intro hz1 hz2))
  clear hi hz0 hz1 hz2
  have HR : Hid (RecO w v vs l) := hr
  have hv : ∃ p, v = .pointer p := by rcases hr with ⟨rfl, _⟩ | ⟨_, _, rfl, _⟩ <;> exact ⟨_, rfl⟩
  clear hr
  obtain ⟨p, rfl⟩ := hv
  refine callsIn_of_wp_marks Try.func6 rfl trivial ?_ rfl
  simp only [Try.ntmps6, List.size_toArray, List.length_cons, List.length_nil, Nat.reduceAdd, Nat.reduceSub, Array.replicate_succ, Array.replicate_zero, List.push_toArray, List.append_toArray, List.nil_append, List.cons_append]
  gi_wp2_with (first | (refine ⟨trivial, ?_⟩; gi_at_call 10; refine (callsIn_wide.2 (total_any _ _ l _ HR.out)).mono ?_; rintro e w' ⟨rfl, rfl⟩) | (gi_at_make; refine wpListIn_make_own _ rfl _ _ 26 rfl w'.heap.size 36 i0 (.agg #[.int .i64 0, .int .i64 0]) 2 Try.underlying26 HI.out.1 HI.out.2.1 HI.out.2.2.1 .i64 .i64 l.length l.length rfl rfl rfl (by rw [HI.out.2.2.2]; omega) (by unfold maxLen; omega) (Nat.le_refl _) ?_; intro w1 hown hgrow) | (refine ⟨trivial, ?_⟩; gi_at_call 15; refine (callsIn_wide.2 (since_any _ 0 _ ⟨_, rfl⟩)).mono ?_; rintro e w' ⟨rfl, rfl⟩))
  have hB1 : Below w'.heap.size w' w1 := (Below.refl _ w').grown hgrow (Nat.le_refl _) (fun k e => by cases e)
  have hs1 := hB1.size
  have bO := ((Boxed.new w1 26 (.slice (some ⟨w'.heap.size, 0, none⟩) 0 l.length)).alloc (.cells #[.pointer p] 23)).alloc (.cells #[.int .i64 0] 3)
  have bR := (Boxed.new (w1.alloc (.cells #[.slice (some ⟨w'.heap.size, 0, none⟩) 0 l.length] 26)) 23 (.pointer p)).alloc (.cells #[.int .i64 0] 3)
  have bN := Boxed.new ((w1.alloc (.cells #[.slice (some ⟨w'.heap.size, 0, none⟩) 0 l.length] 26)).alloc (.cells #[.pointer p] 23)) 3 (.int .i64 0)
  simp only [World.size_alloc] at bR bN
  have hB0 : Below w'.heap.size w' (((w1.alloc (.cells #[.slice (some ⟨w'.heap.size, 0, none⟩) 0 l.length] 26)).alloc (.cells #[.pointer p] 23)).alloc (.cells #[.int .i64 0] 3)) := ((hB1.alloc (by omega) _).alloc (by simp; omega) _).alloc (by simp; omega) _
  have hrow := ((hown.alloc (.cells #[.slice (some ⟨w'.heap.size, 0, none⟩) 0 l.length] 26)).alloc (.cells #[.pointer p] 23)).alloc (.cells #[.int .i64 0] 3)
  have hsz : (((w1.alloc (.cells #[.slice (some ⟨w'.heap.size, 0, none⟩) 0 l.length] 26)).alloc (.cells #[.pointer p] 23)).alloc (.cells #[.int .i64 0] 3)).heap.size = w1.heap.size + 3 := by simp
  obtain ⟨W0, hW0⟩ : ∃ W0, ((w1.alloc (.cells #[.slice (some ⟨w'.heap.size, 0, none⟩) 0 l.length] 26)).alloc (.cells #[.pointer p] 23)).alloc (.cells #[.int .i64 0] 3) = W0 := ⟨_, rfl⟩
  rw [hW0] at bO bR bN hB0 hrow hsz ⊢
  clear hW0 hown hgrow hB1
  obtain ⟨o0, ho0⟩ : ∃ o0, w1.heap.size = o0 := ⟨_, rfl⟩
  rw [ho0] at bO bR bN hs1 hsz ⊢
  clear ho0 w1
  have hvb : ∀ k, vs.ownBlock = some k → k < w'.heap.size := fun k hk => (HR.out.owns.lt k hk).2
  have hbeh : beh l 0 = l := by simp [beh]
  refine wpIn_rangeFunc_ownH (F := Fence.wide) (n := 5) rfl (by decide) (gf := 24) (lb := #[.pointer (some ⟨o0 + 1, 0, none⟩), .pointer (some ⟨o0 + 1 + 1, 0, none⟩)]) rfl trivial (enters_of Try.func24 (by kernel_rfl) rfl)
    (since_stops (o0 + 1) (o0 + 1 + 1) w'.heap.size (.pointer p) vs 0 l hl W0 (HR.out.below hB0) hvb (by omega) bR.cell bN.cell) belowK_t (belowK_b (by omega)) (Below.refl _ _) (fun _ => rfl)
    (fun pre W => (∃ u, Boxed W o0 26 u ∧ W.ownsRow w'.heap.size 36 2 u pre.length (evC pre) ∧ True) ∧ Below w'.heap.size w' W)
    (fun _ _ _ => False)
    (OwnFrom.and (Own.from (holdsRow_own w'.heap.size o0 26 36 2 (fun pre => List.length pre) (fun pre => evC pre) (fun _ _ => True)) _) (ownFrom_below (Nat.le_refl _) (by omega)))
    (fun _ _ _ _ _ hs _ _ => hs)
    ⟨⟨_, bO, hrow, trivial⟩, hB0⟩
    (fun x a' W => ∃ Bx, Boxed2 W Bx 36 (.int .i64 x.1) (.int .i64 x.2) ∧ a' = { tmps := #[.pointer p, undef, .slice none 0 0, .pointer (some ⟨o0, 0, none⟩), .pointer (some ⟨Bx, 0, none⟩), .pointer p, .int .i64 l.length, .slice (some ⟨w'.heap.size, 0, none⟩) 0 l.length, .pointer p, .func (.func 24) #[] #[.pointer (some ⟨o0 + 1, 0, none⟩), .pointer (some ⟨o0 + 1 + 1, 0, none⟩)], evV x, undef, undef, undef, undef, undef], defers := [] })
    (fun x a' _ X Y row hs hg hr => by obtain ⟨Bx, h2, h3⟩ := hs; exact ⟨Bx, h2.turn hg (fun r e => (hr r e).2), h3⟩)
    ?assign ?body ?done ?stop
  case assign =>
    rintro l1 pre ⟨x1, x2⟩ W K ⟨⟨u, bO1, hr1, _⟩, hB1⟩ hK
    simp only [evV] at hK ⊢
    gi_wp2
    exact hK _ _ ((KeepsOthers.alloc _ _).from _) ((Below.refl _ W).alloc hB1.size _) ⟨⟨u, bO1.alloc _, hr1.alloc _, trivial⟩, hB1.alloc hB1.size _⟩ ⟨W.heap.size, Boxed2.new W 36 _ _, rfl⟩
  case body =>
    rintro l1 pre ⟨x1, x2⟩ a' W hl1 ⟨r, hr1⟩ ⟨⟨u, bO1, hrw, _⟩, hB1⟩ ⟨Bx, bX, rfl⟩ hlt
    have cO := bO1.cell
    have cX0 := bX.cell0
    have cX1 := bX.cell1
    simp only at cX0 cX1
    have HRW : Hid (W.ownsRow w'.heap.size 36 2 u pre.length (evC pre)) := hrw
    have HB1 : Hid (Below w'.heap.size w' W) := hB1
    have HO1 : Hid (Boxed W o0 26 u) := bO1
    clear bX hr1 hrw hB1 bO1
    gi_wp2_with (gi_at_builtin; refine wpListIn_append_own _ rfl _ _ 26 rfl w'.heap.size 36 i0 (.agg #[.int .i64 0, .int .i64 0]) 2 16 Try.underlying26 HI.out.1 HI.out.2.1 HI.out.2.2.1 HI.out.2.2.2 rfl (by decide) _ pre.length (evC pre) rfl (HRW.out.alloc _) ⟨W.heap.size, 0, none⟩ 1 1 [.int .i64 x1, .int .i64 x2] rfl rfl ?_ ?_ ?_ ?_ ?_ ?_)
    · intro j u hj
      match j, hj with
      | 0, hj => simp at hj; subst hj; simp [Addr.add]
      | 1, hj => simp at hj; subst hj; simp [Addr.add]
    · intro u hu
      simp at hu
      rcases hu with rfl | rfl <;> rfl
    · unfold maxLen; omega
    · omega
    · have := HB1.out.size; simp; omega
    · intro v' w2 hown' hgrow _
      obtain ⟨g', cap', rfl⟩ := ownsRow_succ hown'
      obtain ⟨hv1, hv2, hr2, hk2, hb2⟩ := HO1.out.appended (by decide) HRW.out HB1.out.size hs1 hown' hgrow
      have hc1 := hv1.cell
      have hf1 := hv1.frozen
      have H2 : Hid (_ ∧ _ ∧ _ ∧ _) := ⟨hv2, hr2, hk2, hb2⟩
      clear hown' hgrow hv1 hv2 hr2 hk2 hb2
      gi_wp2
      obtain ⟨hv2, hr2, hk2, hb2⟩ := H2.out
      exact ⟨hk2.from _, hb2, ⟨_, hv2, by rw [List.length_append, evC_app]; exact hr2, trivial⟩, HB1.out.trans hb2⟩
  case done =>
    rintro D ys W hD rfl ⟨⟨u, bO1, hr1, _⟩, hB1⟩ hK
    have cO := bO1.cell
    gi_wp2
    refine ⟨by simp, .inl ⟨_, _, rfl, run_takeDeferred hK, ?_⟩⟩
    exact ⟨_, results_tmp rfl _ _ _, u, rfl, ownsRow_putObj hr1 _ hK rfl, hB1.trans (belowK_b (w := w') (Nat.le_refl _) W D _ _ (by omega) hK rfl rfl)⟩
  case stop =>
    rintro D c pre W _ _ h _
    exact h.elim
theorem tEvents_any (v vs : Value) (l : List (Int × Int)) (hl : l.length ≤ 1000000) (w : World) (hr : RecO w v vs l) :
    Calls Try.prog 6 #[v] w fun e W' => ∃ u, e = .returned u ∧ W'.ownsRow w.heap.size 36 2 u l.length (evC l) ∧ Below w.heap.size w W' :=
  callsIn_wide.1 (events_in v vs l hl w hr)
end Go.Proofs.Ytfobiejgkdbidab
