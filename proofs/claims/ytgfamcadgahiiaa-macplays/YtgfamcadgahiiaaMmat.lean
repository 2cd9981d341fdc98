import Derived.Test.YtgfamcadgahiiaaMmas
import Derived.Test.YtgfamcadgahiiaaMmak
import Derived.Test.YtgfamcadgahiiaaMmaq
import Derived.Test.YtgfamcadgahiiaaMmar
import Derived.Test.YtgfamcadgahiiaaMman
namespace Go.Proofs.Ytgfamcadgahiiaa
set_option linter.unusedSimpArgs false
open Go.ChangeShapes Go.WideShapes Go.ChangeAt Go.RowKit Go.Pin Go.Shelf
attribute [local go_sem] Oper.semAt_some
set_option maxRecDepth 100000 in
theorem since_any (v : Value) (n : Int) (w : World) (hv : ∃ p, v = .pointer p) :
    Calls Try.prog 46 #[v, .int .i64 n] w fun e w' => e = .returned (.func (.func 57) #[] #[.pointer (some ⟨w.heap.size, 0, none⟩), .pointer (some ⟨w.heap.size + 1, 0, none⟩)]) ∧ w' = (w.alloc (.cells #[v] 25)).alloc (.cells #[.int .i64 n] 3) := by
  obtain ⟨p, rfl⟩ := hv
  go_enter Try.func46, Try.ntmps46
  go_wp2
  go_ret
  exact ⟨rfl, rfl⟩
theorem grow_of_lt {n₀ : Nat} {W X : World} (h : Below n₀ W X) : Grow (fun k => n₀ ≤ k) W X := ⟨h.os, h.tape, h.output, h.size, fun k _ hn => h.block k (by omega)⟩
theorem since_stops (b1 b2 n₀ : Nat) (v vs : Value) (n : Int) (l : List (Int × Int)) (hl : l.length ≤ 1000000) (w : World) (hr : RecO w v vs l) (hv : ∀ k, vs.ownBlock = some k → k < n₀) (hn : n₀ ≤ w.heap.size)
    (h1 : w.cell? ⟨b1, 0, none⟩ = some v) (h2 : w.cell? ⟨b2, 0, none⟩ = some (.int .i64 n)) :
    SeqStopsK Fence.wide 4 Try.prog 57 #[.pointer (some ⟨b1, 0, none⟩), .pointer (some ⟨b2, 0, none⟩)] (fun x : Int × Int => #[evV x]) (Below n₀) (fun ys => ys = beh l n) (fun pre => pre <+: beh l n) l.length w := by
  intro l' J Jx W hW hJ hJx hY h0
  have hr' := hr.below hW
  have c1 : W.cell? ⟨b1, 0, none⟩ = some v := (hW.cell (p := ⟨b1, 0, none⟩) (World.block_lt_of_cell? w _ h1)).trans h1
  have c2 : W.cell? ⟨b2, 0, none⟩ = some (.int .i64 n) := (hW.cell (p := ⟨b2, 0, none⟩) (World.block_lt_of_cell? w _ h2)).trans h2
  refine (since1_in l' b1 b2 v vs n l hl (fun pre X => J pre X ∧ Below n₀ W X) Jx W ?_ ?_ ?_ hr' c1 c2 ⟨h0, Below.refl _ _⟩).mono ?_
  · intro pre X o ⟨hj, hb⟩
    exact ⟨hJ pre X _ none hj (World.grownBy_alloc X o none) (fun r e => by cases e), hb.alloc (by have := hb.size; have := hW.size; omega) o⟩
  · intro pre X ⟨_, hb⟩
    exact sl_grow (grow_of_lt hb) hr'.sl (fun k hk => by have := hv k hk; omega)
  · intro pre x X ⟨hj, hb⟩ hlt _
    obtain ⟨fn, tmps, assign, body, hy, hR⟩ := hY pre x X hj hlt
    refine ⟨fn, tmps, assign, body, hy, hR.mono ?_⟩
    rintro e X' (⟨rfl, hj', hk⟩ | ⟨rfl, hj'⟩)
    · exact .inl ⟨rfl, hj', hb.trans hk⟩
    · exact .inr ⟨rfl, hj'⟩
  · rintro e W' ⟨he, ⟨hj, _⟩ | ⟨pre, hp, hj⟩⟩
    · exact ⟨he, .inl ⟨_, rfl, hj⟩⟩
    · exact ⟨he, .inr ⟨_, hp, hj⟩⟩
/-- a variable's box of two cells -/
def Boxed2 (W : World) (B : Nat) (t : TypeId) (a b : Value) : Prop := W.heap[B]? = some (.cells #[a, b] t (0, 0))
theorem Boxed2.cell0 {W : World} {B : Nat} {t : TypeId} {a b : Value} (h : Boxed2 W B t a b) : W.cell? ⟨B, 0, none⟩ = some a := by simp [World.cell?, show W.heap[B]? = _ from h]
theorem Boxed2.cell1 {W : World} {B : Nat} {t : TypeId} {a b : Value} (h : Boxed2 W B t a b) : W.cell? ⟨B, 1, none⟩ = some b := by simp [World.cell?, show W.heap[B]? = _ from h]
theorem Boxed2.new (W : World) (t : TypeId) (a b : Value) : Boxed2 (W.alloc (.cells #[a, b] t)) W.heap.size t a b := World.alloc_heap_new W _
theorem Boxed2.turn {X Y : World} {row : Option Nat} {B : Nat} {t : TypeId} {a b : Value} (h : Boxed2 X B t a b) (hg : X.grownBy Y row) (hr : ∀ r, row = some r → ∃ o : Obj, X.heap[r]? = some o ∧ o.isCells = false) : Boxed2 Y B t a b :=
  (hg.block B (Array.getElem?_eq_some_iff.1 h).1 (fun e => by obtain ⟨o, ho, hc⟩ := hr B e.symm; rw [show X.heap[B]? = _ from h] at ho; cases ho; cases hc)).trans h
set_option maxRecDepth 100000 in
set_option maxHeartbeats 2000000 in
theorem events_in (v vs : Value) (l : List (Int × Int)) (hl : l.length ≤ 1000000) (w : World) (hr : RecO w v vs l) :
    CallsIn Fence.wide 5 Try.prog 20 #[v] w fun e W' => ∃ u, e = .returned u ∧ W'.ownsRow w.heap.size 82 2 u l.length (evC l) ∧ Below w.heap.size w W' := by
  obtain ⟨i0, hi, hz0, hz1, hz2⟩ := info_parts info37
  have HI : Hid _ := And.intro hi (And.intro hz0 (And.intro hz1 hz2))
  clear hi hz0 hz1 hz2
  have HR : Hid (RecO w v vs l) := hr
  have hv : ∃ p, v = .pointer p := by rcases hr with ⟨rfl, _⟩ | ⟨_, _, rfl, _⟩ <;> exact ⟨_, rfl⟩
  clear hr
  obtain ⟨p, rfl⟩ := hv
  refine callsIn_of_wp_marks Try.func20 rfl trivial ?_ rfl
  simp only [Try.ntmps20, List.size_toArray, List.length_cons, List.length_nil, Nat.reduceAdd, Nat.reduceSub, Array.replicate_succ, Array.replicate_zero, List.push_toArray, List.append_toArray, List.nil_append, List.cons_append]
  gi_wp2_with (first | (refine ⟨trivial, ?_⟩; gi_at_call 11; refine (callsIn_wide.2 (total_any _ _ l _ HR.out)).mono ?_; rintro e w' ⟨rfl, rfl⟩) | (gi_at_make; refine wpListIn_make_own _ rfl _ _ 31 rfl w'.heap.size 82 i0 (.agg #[.int .i64 0, .int .i64 0]) 2 Try.underlying31 HI.out.1 HI.out.2.1 HI.out.2.2.1 .i64 .i64 l.length l.length rfl rfl rfl (by rw [HI.out.2.2.2]; omega) (by unfold maxLen; omega) (Nat.le_refl _) ?_; intro w1 hown hgrow) | (refine ⟨trivial, ?_⟩; gi_at_call 46; refine (callsIn_wide.2 (since_any _ 0 _ ⟨_, rfl⟩)).mono ?_; rintro e w' ⟨rfl, rfl⟩))
  have hB1 : Below w'.heap.size w' w1 := (Below.refl _ w').grown hgrow (Nat.le_refl _) (fun k e => by cases e)
  have hs1 := hB1.size
  have bO := ((Boxed.new w1 31 (.slice (some ⟨w'.heap.size, 0, none⟩) 0 l.length)).alloc (.cells #[.pointer p] 25)).alloc (.cells #[.int .i64 0] 3)
  have bR := (Boxed.new (w1.alloc (.cells #[.slice (some ⟨w'.heap.size, 0, none⟩) 0 l.length] 31)) 25 (.pointer p)).alloc (.cells #[.int .i64 0] 3)
  have bN := Boxed.new ((w1.alloc (.cells #[.slice (some ⟨w'.heap.size, 0, none⟩) 0 l.length] 31)).alloc (.cells #[.pointer p] 25)) 3 (.int .i64 0)
  simp only [World.size_alloc] at bR bN
  have hB0 : Below w'.heap.size w' (((w1.alloc (.cells #[.slice (some ⟨w'.heap.size, 0, none⟩) 0 l.length] 31)).alloc (.cells #[.pointer p] 25)).alloc (.cells #[.int .i64 0] 3)) := ((hB1.alloc (by omega) _).alloc (by simp; omega) _).alloc (by simp; omega) _
  have hrow := ((hown.alloc (.cells #[.slice (some ⟨w'.heap.size, 0, none⟩) 0 l.length] 31)).alloc (.cells #[.pointer p] 25)).alloc (.cells #[.int .i64 0] 3)
  have hsz : (((w1.alloc (.cells #[.slice (some ⟨w'.heap.size, 0, none⟩) 0 l.length] 31)).alloc (.cells #[.pointer p] 25)).alloc (.cells #[.int .i64 0] 3)).heap.size = w1.heap.size + 3 := by simp
  obtain ⟨W0, hW0⟩ : ∃ W0, ((w1.alloc (.cells #[.slice (some ⟨w'.heap.size, 0, none⟩) 0 l.length] 31)).alloc (.cells #[.pointer p] 25)).alloc (.cells #[.int .i64 0] 3) = W0 := ⟨_, rfl⟩
  rw [hW0] at bO bR bN hB0 hrow hsz ⊢
  clear hW0 hown hgrow hB1
  obtain ⟨o0, ho0⟩ : ∃ o0, w1.heap.size = o0 := ⟨_, rfl⟩
  rw [ho0] at bO bR bN hs1 hsz ⊢
  clear ho0 w1
  have hvb : ∀ k, vs.ownBlock = some k → k < w'.heap.size := fun k hk => (HR.out.owns.lt k hk).2
  have hbeh : beh l 0 = l := by simp [beh]
  refine wpIn_rangeFunc_ownH (F := Fence.wide) (n := 5) rfl (by decide) (gf := 57) (lb := #[.pointer (some ⟨o0 + 1, 0, none⟩), .pointer (some ⟨o0 + 1 + 1, 0, none⟩)]) rfl trivial (enters_of Try.func57 (by kernel_rfl) rfl)
    (since_stops (o0 + 1) (o0 + 1 + 1) w'.heap.size (.pointer p) vs 0 l hl W0 (HR.out.below hB0) hvb (by omega) bR.cell bN.cell) belowK_t (belowK_b (by omega)) (Below.refl _ _) (fun _ => rfl)
    (fun pre W => (∃ u, Boxed W o0 31 u ∧ W.ownsRow w'.heap.size 82 2 u pre.length (evC pre) ∧ True) ∧ Below w'.heap.size w' W)
    (fun _ _ _ => False)
    (OwnFrom.and (Own.from (holdsRow_own w'.heap.size o0 31 82 2 (fun pre => List.length pre) (fun pre => evC pre) (fun _ _ => True)) _) (ownFrom_below (Nat.le_refl _) (by omega)))
    (fun _ _ _ _ _ hs _ _ => hs)
    ⟨⟨_, bO, hrow, trivial⟩, hB0⟩
    (fun x a' W => ∃ Bx, Boxed2 W Bx 82 (.int .i64 x.1) (.int .i64 x.2) ∧ a' = { tmps := #[.pointer p, undef, .slice none 0 0, .pointer (some ⟨o0, 0, none⟩), .pointer (some ⟨Bx, 0, none⟩), .pointer p, .int .i64 l.length, .slice (some ⟨w'.heap.size, 0, none⟩) 0 l.length, .pointer p, .func (.func 57) #[] #[.pointer (some ⟨o0 + 1, 0, none⟩), .pointer (some ⟨o0 + 1 + 1, 0, none⟩)], evV x, undef, undef, undef, undef, undef], defers := [] })
    (fun x a' _ X Y row hs hg hr => by obtain ⟨Bx, h2, h3⟩ := hs; exact ⟨Bx, h2.turn hg (fun r e => (hr r e).2), h3⟩)
    ?assign ?body ?done ?stop
  case assign =>
    rintro l1 pre ⟨x1, x2⟩ W K ⟨⟨u, bO1, hr1, _⟩, hB1⟩ hK
    simp only [evV] at hK ⊢
    gi_wp2
    exact hK _ _ ((KeepsOthers.alloc _ _).from _) ((Below.refl _ W).alloc hB1.size _) ⟨⟨u, bO1.alloc _, hr1.alloc _, trivial⟩, hB1.alloc hB1.size _⟩ ⟨W.heap.size, Boxed2.new W 82 _ _, rfl⟩
  case body =>
    rintro l1 pre ⟨x1, x2⟩ a' W hl1 ⟨r, hr1⟩ ⟨⟨u, bO1, hrw, _⟩, hB1⟩ ⟨Bx, bX, rfl⟩ hlt
    have cO := bO1.cell
    have cX0 := bX.cell0
    have cX1 := bX.cell1
    simp only at cX0 cX1
    have HRW : Hid (W.ownsRow w'.heap.size 82 2 u pre.length (evC pre)) := hrw
    have HB1 : Hid (Below w'.heap.size w' W) := hB1
    have HO1 : Hid (Boxed W o0 31 u) := bO1
    clear bX hr1 hrw hB1 bO1
    gi_wp2_with (gi_at_builtin; refine wpListIn_append_own _ rfl _ _ 31 rfl w'.heap.size 82 i0 (.agg #[.int .i64 0, .int .i64 0]) 2 16 Try.underlying31 HI.out.1 HI.out.2.1 HI.out.2.2.1 HI.out.2.2.2 rfl (by decide) _ pre.length (evC pre) rfl (HRW.out.alloc _) ⟨W.heap.size, 0, none⟩ 1 1 [.int .i64 x1, .int .i64 x2] rfl rfl ?_ ?_ ?_ ?_ ?_ ?_)
    · intro j u hj
      match j, hj with
      | 0, hj => simp at hj; subst hj; simp [Addr.add]
      | 1, hj => simp at hj; subst hj; simp [Addr.add]
    · intro u hu
      simp at hu
      rcases hu with rfl | rfl <;> rfl
    · unfold maxLen; omega
    · omega
    · have := HB1.out.size; simp; omega
    · intro v' w2 hown' hgrow _
      obtain ⟨g', cap', rfl⟩ := ownsRow_succ hown'
      obtain ⟨hv1, hv2, hr2, hk2, hb2⟩ := HO1.out.appended (by decide) HRW.out HB1.out.size hs1 hown' hgrow
      have hc1 := hv1.cell
      have hf1 := hv1.frozen
      have H2 : Hid (_ ∧ _ ∧ _ ∧ _) := ⟨hv2, hr2, hk2, hb2⟩
      clear hown' hgrow hv1 hv2 hr2 hk2 hb2
      gi_wp2
      obtain ⟨hv2, hr2, hk2, hb2⟩ := H2.out
      exact ⟨hk2.from _, hb2, ⟨_, hv2, by rw [List.length_append, evC_app]; exact hr2, trivial⟩, HB1.out.trans hb2⟩
  case done =>
    rintro D ys W hD rfl ⟨⟨u, bO1, hr1, _⟩, hB1⟩ hK
    have cO := bO1.cell
    gi_wp2
    refine ⟨by simp, .inl ⟨_, _, rfl, run_takeDeferred hK, ?_⟩⟩
    exact ⟨_, results_tmp rfl _ _ _, u, rfl, ownsRow_putObj hr1 _ hK rfl, hB1.trans (belowK_b (w := w') (Nat.le_refl _) W D _ _ (by omega) hK rfl rfl)⟩
  case stop =>
    rintro D c pre W _ _ h _
    exact h.elim
theorem tEvents_any (v vs : Value) (l : List (Int × Int)) (hl : l.length ≤ 1000000) (w : World) (hr : RecO w v vs l) :
    Calls Try.prog 20 #[v] w fun e W' => ∃ u, e = .returned u ∧ W'.ownsRow w.heap.size 82 2 u l.length (evC l) ∧ Below w.heap.size w W' :=
  callsIn_wide.1 (events_in v vs l hl w hr)
end Go.Proofs.Ytgfamcadgahiiaa
namespace Go.Proofs.Ytgfamcadgahiiaa
set_option linter.unusedSimpArgs false
open Go.ChangeShapes Go.WideShapes Go.ChangeAt Go.RowKit Go.Pin
set_option maxRecDepth 100000 in
set_option maxHeartbeats 1000000 in
theorem rsame_any (va vb : Value) (l : List (Int × Int)) (w : World) (ha : Sl w va 2 (evC l) l.length) (hb : Sl w vb 2 (evC l) l.length) (hl : l.length ≤ 1000000000) :
    Calls Try.prog 19 #[va, vb] w fun e w' => e = .returned (.bool true) ∧ ∃ n, w' = w.drewN n := by
  obtain ⟨_, aa, ca, rfl, _, ha⟩ := ha
  obtain ⟨_, ab, cb, rfl, _, hb⟩ := hb
  have HA : Hid _ := ha
  have HB : Hid _ := hb
  clear ha hb
  generalize hn : l.length = n at *
  have HL : Hid _ := hn
  clear hn
  go_enter Try.func19, Try.ntmps19
  go_wp2
  go_loopw [5] (fun v wr => ∃ i m : Nat, i ≤ n ∧ v = .int .i64 i ∧ wr = w.drewN m) (fun v _ => n - (intOf v).toNat)
  case atStart => exact ⟨0, 0, Nat.zero_le _, rfl, rfl⟩
  case round =>
    obtain ⟨i, m, hi, rfl, rfl⟩ := hrel
    by_cases hlt : i < n
    · rcases HA.out with h0 | ⟨ba, oa, rfl, hca⟩
      · omega
      rcases HB.out with h0 | ⟨bb, ob, rfl, hcb⟩
      · omega
      obtain ⟨⟨xk, xv⟩, e1⟩ : ∃ x, l[i]? = some x := ⟨_, List.getElem?_eq_getElem (by rw [HL.out]; exact hlt)⟩
      obtain ⟨p1, p2⟩ := evC_at l i _ e1
      have c1 := hca _ _ p1
      have c2 := hca _ _ p2
      have c3 := hcb _ _ p1
      have c4 := hcb _ _ p2
      clear hca hcb p1 p2 e1 HA HB
      simp only at c1 c2 c3 c4
      rw [← Nat.add_assoc] at c2 c4
      go_wp2
      go_quiet (fail)
      go_wp2
      go_roundw
      case rel => exact ⟨i + 1, _, by omega, by go_num, rfl⟩
      case measure => simp [intOf]; omega
    · have hi' : i = n := by omega
      subst hi'
      go_wp2
      go_ret
      exact ⟨rfl, _, rfl⟩
end Go.Proofs.Ytgfamcadgahiiaa
namespace Go.Proofs.Ytgfamcadgahiiaa
set_option linter.unusedSimpArgs false
set_option linter.unusedVariables false
open Go.ChangeShapes Go.WideShapes Go.ChangeAt Go.RowKit Go.Pin Go.Prm
/-- Of over the parts -/
theorem TL.of {B : Nat} {w : World} {rv : Value} {l : List (Int × Int)} {bx : List (Nat × Obj)} {K : List (Nat × List Int)} {xs : List Value} {v u : Value} {W : World} (h : TL B w rv l bx xs (K.map prt) v u W) (hr : ∀ p ∈ rbx K, p ∈ bx) {key : List Int} (hk : Key32 key) (hD : BytL (K.map Prod.snd)) (hn : K.length ≤ 1000) (hl : rv ≠ .pointer none → l.length + 25 * K.length + (K.map Prod.snd).flatten.length ≤ 600000) :
    Calls Try.prog 24 #[rv, .agg (VI .u8 key), u] W fun e w' => e = .returned (.agg (VI .u8 (mtag key (K.map Prod.snd).flatten))) ∧ TL B w rv (l ++ olg ((K.map Prod.snd).map List.length)) bx xs (K.map prt) v u w' := by
  obtain ⟨l1, l2, h1, h2, h3, h4, h5⟩ := h
  obtain ⟨au, cu, hu, hP⟩ := psrc_prt (B := B) (w := w) h2 (by unfold maxLen; omega) (bx := l1 ++ (l2 ++ bx)) (fun p hp => List.mem_append_right _ (List.mem_append_left _ hp)) (fun p hp => List.mem_append_right _ (List.mem_append_right _ (hr p hp)))
  subst hu
  refine (of_any h3 hk hP hD hl).mono ?_
  rintro e w' ⟨rfl, h6⟩
  exact ⟨rfl, l1, l2, h1, h2, h6, h4, h5⟩
theorem v_events {B : Nat} {w : World} {R : Nat} {l : List (Int × Int)} {bx : List (Nat × Obj)} {W : World} (h : Ev B w (.pointer (some ⟨R, 0, none⟩)) l bx W) (hl : l.length ≤ 1000000) : Calls Try.prog 20 #[.pointer (some ⟨R, 0, none⟩)] W fun e W' => ∃ u, e = .returned u ∧ W'.ownsRow W.heap.size 82 2 u l.length (evC l) ∧ Below W.heap.size W W' := by
  rcases h.rc with e | ⟨R', vs, e, h2, h3⟩
  · cases e
  · injection e with e; injection e with e; injection e with e1; subst e1
    exact tEvents_any _ vs l hl W h2.opt
theorem same_own {W : World} {B B' : Nat} {u v : Value} {l : List (Int × Int)} (hu : W.ownsRow B 82 2 u l.length (evC l)) (hv : W.ownsRow B' 82 2 v l.length (evC l)) (hl : l.length ≤ 1000000) :
    Calls Try.prog 19 #[u, v] W fun e w' => e = .returned (.bool true) ∧ Below W.heap.size W w' := by
  refine (rsame_any u v l W (sl_of_owns hu) (sl_of_owns hv) (by omega)).mono ?_
  rintro e w' ⟨rfl, n, rfl⟩
  exact ⟨rfl, rfl, rfl, rfl, Nat.le_refl _, fun _ _ => rfl⟩
/-- the lengths are read -/
theorem LE.rdn {v : Value} {n : Nat} {Ds : List (List Int)} (hn : Ds.length = n) {B : Nat} {w : World} {rv : Value} {l : List (Int × Int)} {bx : List (Nat × Obj)} {W : World} (h : LE 3 1 v n (Ds.map fun D => Value.int .i64 (D.length : Int)) B w rv l bx W) : ∃ a c, v = .slice a n c ∧ RdN W a (Ds.map List.length) := by
  obtain ⟨lb, h1, h2, _⟩ := h
  rcases h1.2 with ⟨e1, e2, _⟩ | ⟨g, cap, cur, e1, e2, e3, e4, e5, e6⟩
  · exact ⟨none, 0, by rw [e1, e2], fun i hi => by rw [List.length_map] at hi; omega⟩
  · refine ⟨_, cap, e1, fun i hi => ⟨g, 0, rfl, ?_⟩⟩
    rw [List.length_map] at hi
    have hrow := h2.at' (g, .cells cur 3 (0, 0)) (List.mem_append_left _ (by rw [e2]; exact mem0))
    rw [cell_of_row W _ _ _ _ _ hrow, Nat.zero_add]
    have : (Ds.map fun D => Value.int .i64 (D.length : Int))[i]? = cur[i]? := by
      rw [← e6, List.getElem?_take_of_lt (by omega)]
      simp
    rw [← this, List.getElem?_map, List.getElem?_eq_getElem hi, List.getD_eq_getElem?_getD, List.getElem?_map, List.getElem?_eq_getElem hi]
    rfl
end Go.Proofs.Ytgfamcadgahiiaa
namespace Go.Proofs.Ytgfamcadgahiiaa
set_option linter.unusedSimpArgs false
set_option linter.unusedVariables false
open Go.ChangeShapes Go.WideShapes Go.ChangeAt Go.RowKit Go.Pin Go.Prm
/-- one box is written, others stay -/
theorem Ev.upd {B : Nat} {w : World} {rv : Value} {l : List (Int × Int)} {bx by' : List (Nat × Obj)} {wr w' : World} {g : Nat} {o y : Obj} (h : Ev B w rv l bx wr) (hg : (g, o) ∈ bx) (hb : Grow (fun k => k = g) wr w') (hy : w'.heap[g]? = some y) (hbx : ∀ p ∈ by', p = (g, y) ∨ (p ∈ bx ∧ p.1 ≠ g)) : Ev B w rv l by' w' := by
  have hgB : B ≤ g := h.ge (g, o) hg
  refine ⟨h.old.trans (hb.below (fun k hk => by omega) h.le), Nat.le_trans h.le hb.size, fun p hp => ?_, fun p hp => ?_, ?_⟩
  · rcases hbx p hp with rfl | ⟨hp, _⟩
    · exact hgB
    · exact h.ge p hp
  · rcases hbx p hp with rfl | ⟨hp, hn⟩
    · exact hy
    · exact (hb.block _ (heap_lt (h.at' p hp)) hn).trans (h.at' p hp)
  · rcases h.rc with e | ⟨R, vs, e, h2, h3⟩
    · exact .inl e
    · refine .inr ⟨R, vs, e, h2.grow hb (fun k hk hn => by subst hn; exact h3 (k, o) hg hk), fun p hp => ?_⟩
      rcases hbx p hp with rfl | ⟨hp, _⟩
      · exact h3 (g, o) hg
      · exact h3 p hp
theorem Ev.forget {B : Nat} {w : World} {rv : Value} {l : List (Int × Int)} {bx : List (Nat × Obj)} {wr : World} (h : Ev B w rv l bx wr) : Ev B w (.pointer none) l bx wr := ⟨h.old, h.le, h.ge, h.at', .inl rfl⟩
theorem TL.forget {B : Nat} {w : World} {rv : Value} {l : List (Int × Int)} {bx : List (Nat × Obj)} {xs ys : List Value} {v u : Value} {W : World} (h : TL B w rv l bx xs ys v u W) : TL B w (.pointer none) l bx xs ys v u W := by
  obtain ⟨l1, l2, h1, h2, h3, h4⟩ := h
  exact ⟨l1, l2, h1, h2, h3.forget, h4⟩
theorem room_set (D : List Int) (x : Int) (hD : 0 < D.length) : (room D).set 0 x = room (D.set 0 x) := by
  apply List.ext_getElem (by simp [room_len])
  intro i h1 h2
  rw [List.length_set, room_len] at h1
  rw [List.getElem_set]
  simp only [room, List.getElem_map, List.getElem_range, rmk, List.length_set]
  by_cases e : 0 = i
  · subst e
    rw [if_pos rfl, if_pos hD, List.getD_eq_getElem?_getD, List.getElem?_eq_getElem (by rw [List.length_set]; exact hD), List.getElem_set]
    rfl
  · rw [if_neg e]
    by_cases h : i < D.length
    · rw [if_pos h, if_pos h, List.getD_eq_getElem?_getD, List.getElem?_eq_getElem h, List.getD_eq_getElem?_getD, List.getElem?_eq_getElem (by rw [List.length_set]; exact h), List.getElem_set, if_neg e]
    · rw [if_neg h, if_neg h]
/-- a piece's first byte is written -/
def kset (K : List (Nat × List Int)) (i : Nat) (x : Int) : List (Nat × List Int) := K.set i ((K.getD i (0, [])).1, (K.getD i (0, [])).2.set 0 x)
theorem kset_len (K : List (Nat × List Int)) (i : Nat) (x : Int) : (kset K i x).length = K.length := List.length_set ..
theorem kset_prt (K : List (Nat × List Int)) (i : Nat) (x : Int) : (kset K i x).map prt = K.map prt := by
  unfold kset
  apply List.ext_getElem (by simp)
  intro j h1 h2
  rw [List.length_map] at h2
  rw [List.getElem_map, List.getElem_map, List.getElem_set]
  by_cases e : i = j
  · subst e
    rw [if_pos rfl, List.getD_eq_getElem?_getD, List.getElem?_eq_getElem h2]
    simp [prt]
  · rw [if_neg e]
theorem kset_whl (K : List (Nat × List Int)) (i : Nat) (x : Int) : (kset K i x).map whl = K.map whl := by
  unfold kset
  apply List.ext_getElem (by simp)
  intro j h1 h2
  rw [List.length_map] at h2
  rw [List.getElem_map, List.getElem_map, List.getElem_set]
  by_cases e : i = j
  · subst e
    rw [if_pos rfl, List.getD_eq_getElem?_getD, List.getElem?_eq_getElem h2]
    simp [whl]
  · rw [if_neg e]
theorem kset_fst (K : List (Nat × List Int)) (i : Nat) (x : Int) : (kset K i x).map Prod.fst = K.map Prod.fst := by
  unfold kset
  apply List.ext_getElem (by simp)
  intro j h1 h2
  rw [List.length_map] at h2
  rw [List.getElem_map, List.getElem_map, List.getElem_set]
  by_cases e : i = j
  · subst e
    rw [if_pos rfl, List.getD_eq_getElem?_getD, List.getElem?_eq_getElem h2]
    simp
  · rw [if_neg e]
theorem kset_lens (K : List (Nat × List Int)) (i : Nat) (x : Int) : ((kset K i x).map Prod.snd).map List.length = (K.map Prod.snd).map List.length := by
  unfold kset
  apply List.ext_getElem (by simp)
  intro j h1 h2
  rw [List.length_map, List.length_map] at h2
  rw [List.getElem_map, List.getElem_map, List.getElem_map, List.getElem_map, List.getElem_set]
  by_cases e : i = j
  · subst e
    rw [if_pos rfl, List.getD_eq_getElem?_getD, List.getElem?_eq_getElem h2]
    simp
  · rw [if_neg e]
theorem kset_bytL {K : List (Nat × List Int)} (h : BytL (K.map Prod.snd)) (i : Nat) {x : Int} (hx : 0 ≤ x ∧ x < 256) : BytL ((kset K i x).map Prod.snd) := by
  intro D hD
  obtain ⟨p, hp, rfl⟩ := List.mem_map.1 hD
  unfold kset at hp
  rcases List.mem_or_eq_of_mem_set hp with hp | rfl
  · exact h _ (List.mem_map.2 ⟨p, hp, rfl⟩)
  · intro y hy
    rcases List.mem_or_eq_of_mem_set hy with hy | rfl
    · rw [List.getD_eq_getElem?_getD] at hy
      cases e : K[i]? with
      | none => rw [e] at hy; simp at hy
      | some p =>
        rw [e] at hy
        exact h _ (List.mem_map.2 ⟨p, List.mem_of_getElem? e, rfl⟩) y hy
    · exact hx
theorem TL.upd {B : Nat} {w : World} {rv : Value} {l : List (Int × Int)} {A C : List (Nat × Obj)} {K : List (Nat × List Int)} {xs ys : List Value} {v u : Value} {W W' : World} (h : TL B w rv l (A ++ (rbx K ++ C)) xs ys v u W) {i : Nat} {p : Nat × List Int} (hi : K[i]? = some p) (hN : (K.map Prod.fst).Nodup) (hA : ∀ r ∈ A ++ C, r.1 ≠ p.1) (x : Int) (hb : Grow (fun k => k = p.1) W W') (hy : W'.heap[p.1]? = some (.cells (VI .u8 (room (p.2.set 0 x))) 5)) : TL B w rv l (A ++ (rbx (kset K i x) ++ C)) xs ys v u W' := by
  obtain ⟨l1, l2, h1, h2, h3, h4, h5⟩ := h
  have hiK : i < K.length := (List.getElem?_eq_some_iff.1 hi).1
  have hpK : p ∈ K := List.mem_of_getElem? hi
  have hgd : K.getD i (0, []) = p := by rw [List.getD_eq_getElem?_getD, hi]; rfl
  have hg : (p.1, Obj.cells (VI .u8 (room p.2)) 5) ∈ A ++ (rbx K ++ C) := List.mem_append_right _ (List.mem_append_left _ (List.mem_map.2 ⟨p, hpK, rfl⟩))
  have hks : ∀ r ∈ rbx (kset K i x), r = (p.1, Obj.cells (VI .u8 (room (p.2.set 0 x))) 5) ∨ (r ∈ rbx K ∧ r.1 ≠ p.1) := by
    intro r hr
    obtain ⟨s, hs, rfl⟩ := List.mem_map.1 hr
    unfold kset at hs
    rw [hgd] at hs
    obtain ⟨j, hj, rfl⟩ := List.mem_iff_getElem.1 hs
    rw [List.getElem_set]
    rw [List.length_set] at hj
    by_cases e : i = j
    · rw [if_pos e]; exact .inl rfl
    · rw [if_neg e]
      refine .inr ⟨List.mem_map.2 ⟨_, List.getElem_mem hj, rfl⟩, fun e2 => e ?_⟩
      have e3 : (K.map Prod.fst)[i]? = (K.map Prod.fst)[j]? := by
        rw [List.getElem?_map, List.getElem?_map, hi, List.getElem?_eq_getElem hj]
        exact congrArg some e2.symm
      exact (List.getElem?_inj (by rw [List.length_map]; exact hiK) hN).1 e3
  have hmem : ∀ r ∈ l2 ++ (A ++ (rbx (kset K i x) ++ C)), r = (p.1, Obj.cells (VI .u8 (room (p.2.set 0 x))) 5) ∨ (r ∈ l2 ++ (A ++ (rbx K ++ C)) ∧ r.1 ≠ p.1) := by
    intro r hr
    simp only [List.mem_append] at hr
    rcases hr with hr | hr | hr | hr
    · exact .inr ⟨List.mem_append_left _ hr, fun e => h5 r hr _ hg e.symm⟩
    · exact .inr ⟨List.mem_append_right _ (List.mem_append_left _ hr), hA r (List.mem_append_left _ hr)⟩
    · rcases hks r hr with e | ⟨e, e2⟩
      · exact .inl e
      · exact .inr ⟨List.mem_append_right _ (List.mem_append_right _ (List.mem_append_left _ e)), e2⟩
    · exact .inr ⟨List.mem_append_right _ (List.mem_append_right _ (List.mem_append_right _ hr)), hA r (List.mem_append_right _ hr)⟩
  refine ⟨l1, l2, h1, h2, h3.upd (List.mem_append_right _ (List.mem_append_right _ hg)) hb hy (fun r hr => ?_), fun a ha r hr => ?_, fun a ha r hr => ?_⟩
  · rcases List.mem_append.1 hr with hr | hr
    · exact .inr ⟨List.mem_append_left _ hr, fun e => h4 r hr _ (List.mem_append_right _ hg) e.symm⟩
    · rcases hmem r hr with e | ⟨e, e2⟩
      · exact .inl e
      · exact .inr ⟨List.mem_append_right _ e, e2⟩
  · rcases hmem r hr with rfl | ⟨e, _⟩
    · exact (h4 a ha _ (List.mem_append_right _ hg) : p.1 ≠ a.1)
    · exact h4 a ha r e
  · rcases hmem r (List.mem_append_right _ hr) with rfl | ⟨e, _⟩
    · exact (h5 a ha _ hg : p.1 ≠ a.1)
    · simp only [List.mem_append] at hr
      rcases hr with hr | hr | hr
      · exact h5 a ha r (List.mem_append_left _ hr)
      · rcases hks r hr with rfl | ⟨e, _⟩
        · exact (h5 a ha _ hg : p.1 ≠ a.1)
        · exact h5 a ha r (List.mem_append_right _ (List.mem_append_left _ e))
      · exact h5 a ha r (List.mem_append_right _ (List.mem_append_right _ hr))
end Go.Proofs.Ytgfamcadgahiiaa
namespace Go.Proofs.Ytgfamcadgahiiaa
set_option linter.unusedSimpArgs false
set_option linter.unusedVariables false
open Go.ChangeShapes Go.WideShapes Go.ChangeAt Go.RowKit Go.Pin Go.Prm
/-- more than a statement plays -/
def lng (Ds : List (List Int)) : Bool := decide (400 < Ds.length ∨ 131072 < Ds.flatten.length)
theorem sum_snoc (Ds : List (List Int)) (i : Nat) (h : i < Ds.length) : (Ds.take (i + 1)).flatten.length = (Ds.take i).flatten.length + (Ds.getD i []).length := by
  rw [take_snocL Ds i h, List.flatten_append, List.length_append]
  simp
theorem sum_le (Ds : List (List Int)) (i : Nat) : (Ds.take i).flatten.length ≤ Ds.flatten.length := by have := take_sum Ds i; omega
theorem wrapA {a b : Nat} (h : a ≤ 131072) (hb : b ≤ 140737488355328) : wrap64 ((a : Int) + (b : Int)) = ((a + b : Nat) : Int) ∧ IntKind.i64.wrap ((a : Int) + (b : Int)) = ((a + b : Nat) : Int) := by
  rw [IntWalk.wrap64_in _ ⟨by omega, by omega⟩, IntWalk.i64_in _ ⟨by omega, by omega⟩]
  omega
set_option maxRecDepth 100000 in
set_option maxHeartbeats 4000000 in
theorem long_any {B : Nat} {w : World} {rv : Value} {l : List (Int × Int)} {bx : List (Nat × Obj)} {W : World} (h : Ev B w rv l bx W) {a : Option Addr} {n cap : Nat} {Ds : List (List Int)} (hP : PSrc B w bx a n Ds) (hm : ∀ D ∈ Ds, D.length ≤ 140737488355328) :
    Calls Try.prog 22 #[.slice a n cap] W fun e w' => e = .returned (.bool (lng Ds)) ∧ w' = W := by
  have HP : Hid (PSrc B w bx a n Ds ∧ Ev B w rv l bx W ∧ ∀ D ∈ Ds, D.length ≤ 140737488355328) := ⟨hP, h, hm⟩
  have HN : Hid (Ds.length = n) := hP.1.1
  clear h hP hm
  by_cases hn : n ≤ 400
  · have b0 : ¬ (400 : Int) < (n : Int) := by omega
    have b0' : ¬ 400 < n := by omega
    have HN4 : Hid (n ≤ 400) := hn
    clear hn
    go_enter Try.func22, Try.ntmps22
    go_wp2
    go_loop [3, 4] (fun s i => ∃ k : Nat, k ≤ n ∧ i = .int .i64 (k : Int) ∧ s = .int .i64 (((Ds.take k).flatten.length : Nat) : Int) ∧ (Ds.take k).flatten.length ≤ 131072) (fun _ i => n - (intOf i).toNat)
    case atStart => exact ⟨0, Nat.zero_le _, rfl, rfl, by simp⟩
    case round =>
      obtain ⟨k, hk, rfl, rfl, hs⟩ := hrel
      by_cases hlt : k < n
      · have b1 : (k : Int) < (n : Int) := by omega
        obtain ⟨b, o, u, rfl, hcu, hsu⟩ := HP.out.1.2 k hlt
        have c1 := hcu W HP.out.2.1.old (fun q hq => HP.out.2.1.at' q hq)
        obtain ⟨a', cap', rfl, _, _⟩ := id hsu
        have hsn := sum_snoc Ds k (by rw [HN.out]; exact hlt)
        have hml : (Ds.getD k []).length ≤ 140737488355328 := by
          rw [List.getD_eq_getElem?_getD, List.getElem?_eq_getElem (by rw [HN.out]; exact hlt)]
          exact HP.out.2.2 _ (List.getElem_mem _)
        obtain ⟨hw, hw'⟩ := wrapA hs hml
        rw [← hsn] at hw hw'
        obtain ⟨m, hmm⟩ : ∃ m, (Ds.getD k []).length = m := ⟨_, rfl⟩
        rw [hmm] at hw hw' c1
        obtain ⟨s0, hs0⟩ : ∃ s0, (Ds.take k).flatten.length = s0 := ⟨_, rfl⟩
        obtain ⟨s1, hs1⟩ : ∃ s1, (Ds.take (k + 1)).flatten.length = s1 := ⟨_, rfl⟩
        rw [hs0, hs1] at hw hw'
        rw [hs0]
        have HX : Hid (k < n ∧ n ≤ 400 ∧ (Ds.take (k + 1)).flatten.length = s1) := ⟨hlt, HN4.out, hs1⟩
        have HW1 : Hid (wrap64 ((k : Int) + 1) = (k : Int) + 1) := wrapS hlt (by have := HN4.out; unfold maxLen; omega)
        clear hcu hsu hsn hml hmm hs0 hs1 hs hk
        by_cases hgt : 131072 < s1
        · have b2 : (131072 : Int) < (s1 : Int) := by omega
          have HR : Hid (lng Ds = true) := by
            have : lng Ds = true := by
              unfold lng
              have := sum_le Ds (k + 1)
              rw [HX.out.2.2] at this
              exact decide_eq_true (.inr (by omega))
            exact this
          go_wp2
          go_ret
          exact ⟨by rw [HR.out]; rfl, rfl⟩
        · have b2 : ¬ (131072 : Int) < (s1 : Int) := by omega
          have HS1 : Hid (s1 ≤ 131072) := by show s1 ≤ 131072; omega
          go_wp2
          go_round
          case rel => exact ⟨k + 1, HX.out.1, by first | go_num | (rw [HW1.out]; exact congrArg (Value.int .i64) (by omega)), by rw [HX.out.2.2], by rw [HX.out.2.2]; exact HS1.out⟩
          case measure => first | exact measS HX.out.1 (by have := HX.out.2.1; unfold maxLen; omega) | (have := HX.out.1; simp only [intOf]; omega)
      · have b1 : ¬ (k : Int) < (n : Int) := by omega
        have HR : Hid (lng Ds = false) := by
          have : lng Ds = false := by
            unfold lng
            have e : Ds.take k = Ds := List.take_of_length_le (by rw [HN.out]; omega)
            rw [e] at hs
            have := HN.out
            have := HN4.out
            exact decide_eq_false (by omega)
          exact this
        clear hs hk
        go_wp2
        go_ret
        exact ⟨by rw [HR.out]; rfl, rfl⟩
  · have b0 : (400 : Int) < (n : Int) := by omega
    have b0' : 400 < n := by omega
    have HR : Hid (lng Ds = true) := by
      have : lng Ds = true := by
        unfold lng
        rw [HN.out]
        simp
        left
        exact b0'
      exact this
    go_enter Try.func22, Try.ntmps22
    go_wp2
    go_ret
    exact ⟨by rw [HR.out]; rfl, rfl⟩
theorem lng_false {Ds : List (List Int)} (h : lng Ds = false) : Ds.length ≤ 400 ∧ Ds.flatten.length ≤ 131072 := by
  unfold lng at h
  simp only [decide_eq_false_iff_not, not_or] at h
  omega
end Go.Proofs.Ytgfamcadgahiiaa
namespace Go.Proofs.Ytgfamcadgahiiaa
set_option linter.unusedSimpArgs false
set_option linter.unusedVariables false
open Go.ChangeShapes Go.WideShapes Go.ChangeAt Go.RowKit Go.Pin Go.Prm
theorem xor_one {x : Int} (h : 0 ≤ x ∧ x < 256) : ∃ y, bits .xor .u8 x 1 = y ∧ 0 ≤ y ∧ y < 256 := by
  refine ⟨_, rfl, ?_⟩
  have e : x = ((BitVec.ofNat 8 x.toNat).toNat : Int) := by simp; omega
  rw [e]
  have := xor8 (BitVec.ofNat 8 x.toNat) 1#8
  rw [show ((1#8).toNat : Int) = 1 from rfl] at this
  rw [this]
  have := (BitVec.ofNat 8 x.toNat ^^^ 1#8).isLt
  omega
set_option maxRecDepth 100000 in
set_option maxHeartbeats 16000000 in
theorem ofs_walk (key : List Int) (hk : Key32 key) (Ds : List (List Int)) (hD : BytL Ds) (a : Option Addr) (cap : Nat) (W : World) (hR : PRd W a Ds) (hz : ∀ D ∈ Ds, D.length ≤ reachBytes) (hm : Ds.length ≤ maxLen) :
    Calls Try.prog 4 #[.agg (VI .u8 key), .slice a Ds.length cap] W fun e w' => e = .returned (.bool true) ∧ Below W.heap.size W w' := by
  have e1 := (ev_nil' W).new (.cells (VI .u8 key) 23)
  have hsrc := fun bx => hR.src hm bx
  obtain ⟨q, hq⟩ : ∃ q, W.heap.size = q := ⟨_, rfl⟩
  rw [hq] at hsrc
  obtain ⟨W0, hW0⟩ : ∃ V, W.alloc (.cells (VI .u8 key) 23) = V := ⟨_, rfl⟩
  rw [hW0, hq] at e1
  rw [hq]
  obtain ⟨n, hn⟩ : ∃ n, Ds.length = n := ⟨_, rfl⟩
  rw [hn] at hsrc ⊢
  have HS : Hid (∀ bx, PSrc q W bx a n Ds) := hsrc
  have HK : Hid (Key32 key ∧ BytL Ds ∧ Ds.length = n) := ⟨hk, hD, hn⟩
  have HI : Hid ((Try.prog.info? 23).map (·.size) = some (VI .u8 key).size) := by
    have : (Try.prog.info? 23).map (·.size) = some (VI .u8 key).size := by rw [VI_size, hk.len]; exact infoK
    exact this
  have HJ : Hid ((Try.prog.info? 23).map (·.size) = some key.length) := by
    have : (Try.prog.info? 23).map (·.size) = some key.length := by rw [hk.len]; exact infoK
    exact this
  have CL : Hid (Calls Try.prog 22 #[.slice a n cap] W0 fun e w' => e = .returned (.bool (lng Ds)) ∧ w' = W0) := long_any e1 (hsrc _) (fun D hD => Nat.le_trans (hz D hD) (by decide))
  have HB0 : Hid (Below q W W0) := e1.old
  by_cases hlg : lng Ds = true
  · rw [hlg] at CL
    clear e1 hsrc hk hD hR hz hm hn
    go_enter Try.func4, Try.ntmps4
    go_wp2_with (first | (go_at_call 22; refine Calls.mono CL.out ?_; rintro e V0 ⟨rfl, hV⟩; obtain rfl := hV))
    go_ret
    exact ⟨rfl, HB0.out⟩
  · have hlf : lng Ds = false := by simpa using hlg
    rw [hlf] at CL
    obtain ⟨hn4, hfl⟩ := lng_false hlf
    rw [hn] at hn4
    have hD1 : ∀ D ∈ Ds, D.length ≤ 131072 := fun D hD => by
      obtain ⟨i, hi, rfl⟩ := List.mem_iff_getElem.1 hD
      have := take_sum Ds i
      rw [List.getD_eq_getElem?_getD, List.getElem?_eq_getElem hi] at this
      simp only [Option.getD_some] at this
      omega
    have HN : Hid (n ≤ 400 ∧ Ds.flatten.length ≤ 131072 ∧ ∀ D ∈ Ds, D.length ≤ 131072) := ⟨hn4, hfl, hD1⟩
    have CT : Hid _ := twins_any (cap := cap) e1 (hsrc _) hn4 hD1
    clear e1 hsrc hk hD hR hz hm hn hn4 hfl hD1 hlg hlf
    go_enter Try.func4, Try.ntmps4
    go_upto_region 4 with (first | (go_at_call 22; refine Calls.mono CL.out ?_; rintro e V0 ⟨rfl, hV⟩; obtain rfl := hV) | (go_at_call 23; refine Calls.mono CT.out ?_; rintro e W1 ⟨v1, v2, rfl, h1⟩; have H1 : Hid _ := h1; clear h1))
    obtain ⟨K, hK1, hK2, hK3, ht⟩ := H1.out
    have HKK : Hid (K.map Prod.snd = Ds ∧ (K.map Prod.fst).Nodup ∧ K.length = n) := ⟨hK1, hK2, by rw [← HK.out.2.2, ← hK1, List.length_map]⟩
    have ht2 := ht.withRec
    obtain ⟨R, hRR⟩ : ∃ R, W1.heap.size = R := ⟨_, rfl⟩
    have CN : Hid (Calls Try.prog 9 #[] W1 fun e w' => e = .returned (.pointer (some ⟨R, 0, none⟩)) ∧ w' = W1.alloc (.cells #[.slice none 0 0, .int .i64 0] 78)) := by
      have := new_any W1
      rw [hRR] at this
      exact this
    obtain ⟨W2, hW2⟩ : ∃ V, W1.alloc (.cells #[.slice none 0 0, .int .i64 0] 78) = V := ⟨_, rfl⟩
    rw [hW2, hRR] at ht2
    rw [hW2] at CN
    have HLK : Hid (W2.rangeAt q 0 (key.map (Value.int .u8))) := row_range (ht2.ev.row (List.mem_append_right _ mem0))
    have hof := ht2.of (fun p hp => List.mem_append_left _ hp) HK.out.1 (by rw [hK1]; exact HK.out.2.1) (by rw [HKK.out.2.2]; have := HN.out.1; omega) (fun _ => by rw [HKK.out.2.2, hK1]; have := HN.out.1; have := HN.out.2.1; simp only [List.length_nil]; omega)
    rw [hK1] at hof
    obtain ⟨T, hT⟩ : ∃ T, mtag key Ds.flatten = T := ⟨_, rfl⟩
    obtain ⟨OL, hOL⟩ : ∃ OL, [] ++ olg (Ds.map List.length) = OL := ⟨_, rfl⟩
    rw [hT, hOL] at hof
    have CO : Hid _ := hof
    have HT : Hid (mtag key Ds.flatten = T ∧ [] ++ olg (Ds.map List.length) = OL ∧ T.length = 16) := ⟨hT, hOL, by rw [← hT]; exact mtag_len _ _⟩
    have HIT : Hid ((Try.prog.info? 36).map (·.size) = some (VI .u8 T).size) := by
      have : (Try.prog.info? 36).map (·.size) = some (VI .u8 T).size := by rw [VI_size, HT.out.2.2]; exact infoT
      exact this
    have HST : Hid ((VI .u8 (List.replicate 16 0)).size = (VI .u8 T).size) := by
      have : (VI .u8 (List.replicate 16 0)).size = (VI .u8 T).size := by rw [VI_size, VI_size, HT.out.2.2]; rfl
      exact this
    clear ht ht2 hof hK1 hK2 hT hOL hRR hW2 H1 CT CL hW0 hq
    go_upto_region 6 with (first | (go_at_call 9; refine Calls.mono CN.out ?_; rintro e V1 ⟨rfl, hV⟩; obtain rfl := hV) | (go_at_call 24; refine Calls.mono CO.out ?_; rintro e W3 ⟨rfl, h3⟩; have H3 : Hid _ := h3; clear h3) | (with_reducible refine at_list ?_; first | (refine load_midI rfl 23 (.tmp 2) rfl q 0 rfl .u8 key _ HLK.out Try.underlying23 rfl HJ.out ?_) | (refine hold_store 36 (.tmp 8) (.tmp 24) rfl ?_)))
    refine store_row_new rfl 36 (.tmp 8) (.tmp 24) rfl W3.heap.size (VI .u8 T) rfl rfl rfl 36 (VI .u8 (List.replicate 16 0)) HIT.out HST.out (VI_one _ _) ?_
    have hbx := TL.box H3.out (W' := W3.alloc (Obj.cells (VI .u8 T) 36)) ((Below.refl _ _).alloc (Nat.le_refl _) _) (Nat.le_refl _) (heap_alloc_new W3 _)
    obtain ⟨p8, hp8⟩ : ∃ p, W3.heap.size = p := ⟨_, rfl⟩
    obtain ⟨W4, hW4⟩ : ∃ V, W3.alloc (Obj.cells (VI .u8 T) 36) = V := ⟨_, rfl⟩
    rw [hW4, hp8] at hbx ⊢
    obtain ⟨l1, l2, k1, k2, k3, k4, k5⟩ := hbx
    have HLL : Hid (Lst 30 1 v1 (K.map whl).length (K.map whl) l1 ∧ Lst 30 1 v2 (K.map prt).length (K.map prt) l2 ∧ (∀ p ∈ l1, ∀ r ∈ l2 ++ ((p8, Obj.cells (VI .u8 T) 36) :: (rbx K ++ [(q, .cells (VI .u8 key) 23)])), r.1 ≠ p.1) ∧ (∀ p ∈ l2, ∀ r ∈ (p8, Obj.cells (VI .u8 T) 36) :: (rbx K ++ [(q, .cells (VI .u8 key) 23)]), r.1 ≠ p.1)) := ⟨k1, k2, k4, k5⟩
    have H4 : Hid (Ev q W (.pointer (some ⟨R, 0, none⟩)) OL (l1 ++ (l2 ++ ((p8, Obj.cells (VI .u8 T) 36) :: (rbx K ++ [(q, .cells (VI .u8 key) 23)])))) W4) := k3
    clear k1 k2 k3 k4 k5 hp8 hW4 H3 CO CN HLK
    go_upto_region 6 with fail
    refine wp_as (c' := rgOf6) (by kernel_rfl) ?_
    refine Of6 (bx := l1 ++ (l2 ++ ((p8, Obj.cells (VI .u8 T) 36) :: (rbx K ++ [(q, .cells (VI .u8 key) 23)])))) HK.out.1 (HS.out _) HK.out.2.1 (by have := HN.out.1; omega) HN.out.2.1 H4.out (List.mem_append_right _ (List.mem_append_right _ (List.mem_cons_of_mem _ (List.mem_append_right _ mem0)))) rfl rfl rfl (fun _ _ d _ _ h => by cases d <;> exact h) ?_
    intro vj p9 Y hf hY
    rw [HT.out.1] at hY
    have h5 : TL q W (.pointer (some ⟨R, 0, none⟩)) OL ((p9, Obj.cells (VI .u8 T) 36) :: (p8, Obj.cells (VI .u8 T) 36) :: (rbx K ++ [(q, .cells (VI .u8 key) 23)])) (K.map whl) (K.map prt) v1 v2 Y := ⟨l1, l2, HLL.out.1, HLL.out.2.1, hY.sub (fun p hp => by
      simp only [List.mem_append, List.mem_cons] at hp ⊢
      rcases hp with hp | hp | hp | hp | hp
      · exact .inr (.inl hp)
      · exact .inr (.inr (.inl hp))
      · exact .inl hp
      · exact .inr (.inr (.inr (.inl hp)))
      · exact .inr (.inr (.inr (.inr hp)))), fun p hp r hr => by
      simp only [List.mem_append, List.mem_cons] at hr
      rcases hr with hr | rfl | hr
      · exact HLL.out.2.2.1 p hp r (List.mem_append_left _ hr)
      · exact fun e => hf p (List.mem_append_left _ hp) e.symm
      · exact HLL.out.2.2.1 p hp r (List.mem_append_right _ (by simpa using hr)), fun p hp r hr => by
      rcases List.mem_cons.1 hr with rfl | hr
      · exact fun e => hf p (List.mem_append_right _ (List.mem_append_left _ hp)) e.symm
      · exact HLL.out.2.2.2 p hp r hr⟩
    have H5 : Hid _ := h5
    clear h5 hY hf H4 HLL
    simp only [Act.put, List.setIfInBounds_toArray, List.set_cons_zero, List.set_cons_succ]
    obtain ⟨m1, m2, r1, r2, r3, r4⟩ := H5.out
    have CLN : Hid _ := lens_any (cap := cap) r3 (HS.out _) (by have := HN.out.1; omega)
    have HRT : Hid (∀ Z, Ev q W (.pointer (some ⟨R, 0, none⟩)) OL (m1 ++ (m2 ++ ((p9, Obj.cells (VI .u8 T) 36) :: (p8, Obj.cells (VI .u8 T) 36) :: (rbx K ++ [(q, .cells (VI .u8 key) 23)])))) Z → TL q W (.pointer (some ⟨R, 0, none⟩)) OL ((p9, Obj.cells (VI .u8 T) 36) :: (p8, Obj.cells (VI .u8 T) 36) :: (rbx K ++ [(q, .cells (VI .u8 key) 23)])) (K.map whl) (K.map prt) v1 v2 Z) := fun Z hZ => ⟨m1, m2, r1, r2, hZ, r4⟩
    clear r1 r2 r3 r4
    go_upto_region 8 with (first | (go_at_call 27; refine Calls.mono CLN.out ?_; rintro e W6 ⟨vl, rfl, h6⟩; have h6' := HRT.out W6 h6.ev; have H6 : Hid _ := h6'; obtain ⟨al, cl, rfl, hrn⟩ := h6.rdn HK.out.2.2; have CE : Hid _ := eof_any W6 (Ds.map List.length) al cl n (by rw [List.length_map]; exact HK.out.2.2) hrn (by have := HN.out.1; omega) (by rw [← flat_len]; exact HN.out.2.1); clear h6 h6' hrn) | (go_at_call 26; refine Calls.mono CE.out ?_; rintro e W7 ⟨ul, rfl, h7⟩; have H7 : Hid _ := h7; have h7' := TL.below H6.out h7.old; have H8 : Hid _ := h7'; clear h7 h7'))
    have hrb : ∀ p ∈ rbx K, p ∈ ((p9, Obj.cells (VI .u8 T) 36) :: (p8, Obj.cells (VI .u8 T) 36) :: (rbx K ++ [(q, .cells (VI .u8 key) 23)])) := fun p hp => List.mem_cons_of_mem _ (List.mem_cons_of_mem _ (List.mem_append_left _ hp))
    obtain ⟨a1, c1, a2, c2, rfl, rfl, hut⟩ := ut_of H8.out hrb (b0 := []) (fun p hp => nomatch hp) (by rw [HKK.out.1]; exact HS.out []) (fun p hp => HN.out.2.2 _ (by rw [← HKK.out.1]; exact List.mem_map.2 ⟨p, hp, rfl⟩))
    have hev8 := TL.ev H8.out
    have HL8 : Hid (W7.rangeAt p8 0 (T.map (Value.int .u8)) ∧ W7.rangeAt p9 0 (T.map (Value.int .u8))) := ⟨row_range (hev8.row mem1), row_range (hev8.row mem0)⟩
    have HIT' : Hid ((Try.prog.info? 36).map (·.size) = some T.length) := by
      have : (Try.prog.info? 36).map (·.size) = some T.length := by rw [HT.out.2.2]; exact infoT
      exact this
    have CU : Hid (Calls Try.prog 28 #[.slice a1 n c1, .slice a2 n c2, .slice a n cap] W7 fun e w' => e = .returned (.bool true) ∧ Below W7.heap.size W7 w') := untouched_any W7 a1 a2 a n c1 c2 cap HN.out.1 hut
    have EQ : ∀ w, (Op.equalIn 10000 36 (.agg (VI .u8 T)) (.agg (VI .u8 T))).run Try.prog w = .ok true w := fun w => by
      rw [eqT HT.out.2.2 HT.out.2.2, beq_self_eq_true]
    have HOL : Hid (OL.length ≤ 300000 ∧ olg (Ds.map List.length) = OL) := ⟨by
      rw [← HT.out.2.1]
      have := olg_len (Ds.map List.length)
      rw [← flat_len, List.length_map, HK.out.2.2] at this
      have := HN.out.1
      have := HN.out.2.1
      simp only [List.nil_append]
      omega, HT.out.2.1⟩
    have O7 : Hid (W7.ownsRow W6.heap.size 82 2 ul OL.length (evC OL)) := by
      have := H7.out.own
      rw [HOL.out.2] at this
      exact this
    have H9 : Hid (TL q W (.pointer (some ⟨R, 0, none⟩)) OL ((p9, Obj.cells (VI .u8 T) 36) :: (p8, Obj.cells (VI .u8 T) 36) :: (rbx K ++ [(q, .cells (VI .u8 key) 23)])) (K.map whl) (K.map prt) (.slice a1 n c1) (.slice a2 n c2) W7) := H8.out
    clear hut hev8 hrb H5 H6 H7 H8 CE CLN HRT
    go_upto_region 10 with (first | (go_at_call 28; refine Calls.mono CU.out ?_; rintro e W8 ⟨rfl, hb8⟩; have h10 := TL.below H9.out hb8; have O8 : Hid _ := owns_below O7.out hb8; have CV : Hid _ := v_events (TL.ev h10) (by have := HOL.out.1; omega); have H10 : Hid (TL q W (.pointer (some ⟨R, 0, none⟩)) OL ((p9, Obj.cells (VI .u8 T) 36) :: (p8, Obj.cells (VI .u8 T) 36) :: (rbx K ++ [(q, .cells (VI .u8 key) 23)])) (K.map whl) (K.map prt) (.slice a1 n c1) (.slice a2 n c2) W8) := h10; clear h10 hb8 O7) | (go_at_call 20; refine Calls.mono CV.out ?_; rintro e W9 ⟨ue, rfl, oe, hb9⟩; have h11 := TL.below H10.out hb9; have CS : Hid _ := same_own oe (owns_below O8.out hb9) (by have := HOL.out.1; omega); have H11 : Hid (TL q W (.pointer (some ⟨R, 0, none⟩)) OL ((p9, Obj.cells (VI .u8 T) 36) :: (p8, Obj.cells (VI .u8 T) 36) :: (rbx K ++ [(q, .cells (VI .u8 key) 23)])) (K.map whl) (K.map prt) (.slice a1 n c1) (.slice a2 n c2) W9) := h11; clear h11 oe hb9) | (go_at_call 19; refine Calls.mono CS.out ?_; rintro e W10 ⟨rfl, hb10⟩; have h12 := TL.below H11.out hb10; have H12 : Hid (TL q W (.pointer (some ⟨R, 0, none⟩)) OL ((p9, Obj.cells (VI .u8 T) 36) :: (p8, Obj.cells (VI .u8 T) 36) :: (rbx K ++ [(q, .cells (VI .u8 key) 23)])) (K.map whl) (K.map prt) (.slice a1 n c1) (.slice a2 n c2) W10) := h12; clear h12 hb10) | (with_reducible refine at_list ?_; first | (refine load_midI rfl 36 (.tmp 8) rfl p8 0 rfl .u8 T _ HL8.out.1 Try.underlying36 rfl HIT'.out ?_) | (refine load_midI rfl 36 (.tmp 9) rfl p9 0 rfl .u8 T _ HL8.out.2 Try.underlying36 rfl HIT'.out ?_)))
    have H13 : Hid (TL q W (.pointer none) OL ([(p9, Obj.cells (VI .u8 T) 36), (p8, Obj.cells (VI .u8 T) 36)] ++ (rbx K ++ [(q, .cells (VI .u8 key) 23)])) (K.map whl) (K.map prt) (.slice a1 n c1) (.slice a2 n c2) W10) := H12.out.forget
    have HTT : Hid (T.length = 16 ∧ (Try.prog.info? 36).map (·.size) = some 16) := ⟨HT.out.2.2, infoT⟩
    clear H12 H11 H10 H9 O8 CV CS CU HL8
    go_wp2
    go_loopw [11] (fun vi w' => ∃ i : Nat, i ≤ n ∧ vi = .int .i64 (i : Int) ∧ TL q W (.pointer none) OL ([(p9, Obj.cells (VI .u8 T) 36), (p8, Obj.cells (VI .u8 T) 36)] ++ (rbx K ++ [(q, .cells (VI .u8 key) 23)])) (K.map whl) (K.map prt) (.slice a1 n c1) (.slice a2 n c2) w') (fun vi _ => n - (intOf vi).toNat)
    case atStart => exact ⟨0, Nat.zero_le _, rfl, H13.out⟩
    case round =>
      clear H13
      obtain ⟨i, hi, rfl, ht⟩ := hrel
      have HTL : Hid _ := ht
      clear ht
      by_cases hlt : i < n
      · have b1 : (i : Int) < (n : Int) := by omega
        obtain ⟨p, hpi⟩ : ∃ p, K[i]? = some p := ⟨_, List.getElem?_eq_getElem (by rw [HKK.out.2.2]; exact hlt)⟩
        obtain ⟨g2, hc⟩ : ∃ g2, a2 = some ⟨g2, 0, none⟩ ∧ wr.cell? ⟨g2, 0 + i, none⟩ = some (prt p) := by
          obtain ⟨m1, m2, h1, h2, h3, _⟩ := HTL.out
          obtain ⟨g2, cc, ee, hat⟩ := h2.at (i := i) (by rw [List.length_map, HKK.out.2.2]; exact hlt)
          injection ee with e1 _ _
          refine ⟨g2, e1, ?_⟩
          rw [hat wr (fun r hr => h3.at' r (List.mem_append_right _ (List.mem_append_left _ hr))), List.getElem?_map, hpi]
          rfl
        obtain ⟨rfl, hcc⟩ := hc
        obtain ⟨g, D⟩ := p
        simp only [prt, Nat.zero_add] at hcc
        have HP : Hid (K[i]? = some (g, D)) := hpi
        have HII : Hid (i < n ∧ n ≤ 400) := ⟨hlt, HN.out.1⟩
        clear hpi hi
        by_cases hD0 : 0 < D.length
        · have b2 : (D.length : Int) > 0 := by omega
          have b3 : (0 : Int) < (D.length : Int) := by omega
          have hgm : (g, Obj.cells (VI .u8 (room D)) 5) ∈ ([(p9, Obj.cells (VI .u8 T) 36), (p8, Obj.cells (VI .u8 T) 36)] ++ (rbx K ++ [(q, .cells (VI .u8 key) 23)])) := List.mem_append_right _ (List.mem_append_left _ (List.mem_map.2 ⟨(g, D), List.mem_of_getElem? HP.out, rfl⟩))
          have hrow := (TL.ev HTL.out).row hgm
          have hDD : D ∈ Ds := by rw [← HKK.out.1]; exact List.mem_map.2 ⟨(g, D), List.mem_of_getElem? HP.out, rfl⟩
          have hx0 : 0 ≤ D.getD 0 0 ∧ D.getD 0 0 < 256 := by
            rw [List.getD_eq_getElem?_getD, List.getElem?_eq_getElem hD0]
            exact HK.out.2.1 D hDD _ (List.getElem_mem _)
          obtain ⟨y, hy1, hy2⟩ := xor_one hx0
          have cc1 : wr.cell? ⟨g, 0, none⟩ = some (.int .u8 (D.getD 0 0)) := by
            rw [cell_of_row wr _ _ _ _ _ hrow, VI_at _ _ _ (by rw [room_len]; omega), room_at D (by omega), rmk_in D hD0]
          have f1 : wr.frozen? ⟨g, 0, none⟩ = false := frozen_of_row wr _ _ _ _ hrow
          have hT2 : TL q W (.pointer none) OL ([(p9, Obj.cells (VI .u8 T) 36), (p8, Obj.cells (VI .u8 T) 36)] ++ (rbx (kset K i y) ++ [(q, .cells (VI .u8 key) 23)])) (K.map whl) (K.map prt) (.slice a1 n c1) (.slice (some ⟨g2, 0, none⟩) n c2) (wr.setCell ⟨g, 0, none⟩ (.int .u8 y)) := by
            refine TL.upd HTL.out HP.out HKK.out.2.1 (fun r hr e => ?_) y ((Grow.refl (fun k => k = g) wr).setCell (p := ⟨g, 0, none⟩) (.inl rfl) _) ?_
            · have hrr : r ∈ ([(p9, Obj.cells (VI .u8 T) 36), (p8, Obj.cells (VI .u8 T) 36)] ++ (rbx K ++ [(q, .cells (VI .u8 key) 23)])) := by
                simp only [List.mem_append] at hr ⊢
                rcases hr with hr | hr
                · exact .inl hr
                · exact .inr (.inr hr)
              have h2 := (TL.ev HTL.out).at' r hrr
              rw [e, hrow] at h2
              have h3 := Option.some.inj h2
              simp only [List.mem_append, List.mem_cons, List.not_mem_nil, or_false] at hr
              rcases hr with (rfl | rfl) | rfl <;> (injection h3 with _ h4; exact absurd h4 (by decide))
            · rw [heap_setCell_same wr _ _ _ _ _ hrow, ← room_set D y hD0]
              simp [VI, List.map_set]
          obtain ⟨x, hx⟩ : ∃ x, D.getD 0 0 = x := ⟨_, rfl⟩
          rw [hx] at hy1 cc1
          obtain ⟨W11, hW11⟩ : ∃ V, wr.setCell ⟨g, 0, none⟩ (.int .u8 y) = V := ⟨_, rfl⟩
          rw [hW11] at hT2
          have HT2 : Hid _ := hT2
          have HY : Hid (0 ≤ y ∧ y < 256) := hy2
          clear hT2 hrow hgm hDD hx0 hx hy2
          have hb0 : 0 < D.length := hD0
          go_upto_region 14 with fail
          go_region
          have HT3 : Hid (TL q W (.pointer none) OL ([(p9, Obj.cells (VI .u8 T) 36), (p8, Obj.cells (VI .u8 T) 36)] ++ (rbx (kset K i y) ++ [(q, .cells (VI .u8 key) 23)])) ((kset K i y).map whl) ((kset K i y).map prt) (.slice a1 n c1) (.slice (some ⟨g2, 0, none⟩) n c2) W11.drew) := by
            show TL _ _ _ _ _ _ _ _ _ _
            rw [kset_whl, kset_prt]
            exact TL.below HT2.out ⟨rfl, rfl, rfl, Nat.le_refl _, fun _ _ => rfl⟩
          have HKB : Hid (BytL ((kset K i y).map Prod.snd) ∧ (kset K i y).length = n ∧ ((kset K i y).map Prod.snd).flatten.length ≤ 131072 ∧ ((kset K i y).map Prod.fst).Nodup) := by
            refine ⟨kset_bytL (by rw [HKK.out.1]; exact HK.out.2.1) _ HY.out, by rw [kset_len]; exact HKK.out.2.2, ?_, ?_⟩
            · rw [flat_len, kset_lens, HKK.out.1, ← flat_len]
              exact HN.out.2.1
            · rw [kset_fst]; exact HKK.out.2.1
          obtain ⟨K2, hK2⟩ : ∃ K2, kset K i y = K2 := ⟨_, rfl⟩
          rw [hK2] at HT3 HKB
          clear hK2 HT2 HTL HP hcc cc1 f1 hy1 hW11
          obtain ⟨W12, hW12⟩ : ∃ V, W11.drew = V := ⟨_, rfl⟩
          rw [hW12] at HT3 ⊢
          clear hW12
          have HLK : Hid (W12.rangeAt q 0 (key.map (Value.int .u8))) := row_range ((TL.ev HT3.out).row (List.mem_append_right _ (List.mem_append_right _ mem0)))
          have hof := TL.of HT3.out (fun p hp => List.mem_append_right _ (List.mem_append_left _ hp)) HK.out.1 HKB.out.1 (by rw [HKB.out.2.1]; have := HN.out.1; omega) (fun h => absurd rfl h)
          obtain ⟨T2, hT2⟩ : ∃ T2, mtag key (K2.map Prod.snd).flatten = T2 := ⟨_, rfl⟩
          obtain ⟨OL2, hOL2⟩ : ∃ OL2, OL ++ olg ((K2.map Prod.snd).map List.length) = OL2 := ⟨_, rfl⟩
          rw [hT2, hOL2] at hof
          have CO : Hid _ := hof
          have HT2' : Hid (mtag key (K2.map Prod.snd).flatten = T2 ∧ T2.length = 16) := ⟨hT2, by rw [← hT2]; exact mtag_len _ _⟩
          have HIT2 : Hid ((Try.prog.info? 36).map (·.size) = some (VI .u8 T2).size) := by
            have : (Try.prog.info? 36).map (·.size) = some (VI .u8 T2).size := by rw [VI_size, HT2'.out.2]; exact infoT
            exact this
          have HST2 : Hid ((VI .u8 (List.replicate 16 0)).size = (VI .u8 T2).size) := by
            have : (VI .u8 (List.replicate 16 0)).size = (VI .u8 T2).size := by rw [VI_size, VI_size, HT2'.out.2]; rfl
            exact this
          clear hof hT2 hOL2 EQ
          go_upto_region 16 with (first | (go_at_call 24; refine Calls.mono CO.out ?_; rintro e W13 ⟨rfl, h13⟩; have H13 : Hid _ := h13; clear h13) | (with_reducible refine at_list ?_; first | (refine load_midI rfl 23 (.tmp 2) rfl q 0 rfl .u8 key _ HLK.out Try.underlying23 rfl HJ.out ?_) | (refine hold_store 36 (.tmp 12) (.tmp 75) rfl ?_)))
          refine store_row_new rfl 36 (.tmp 12) (.tmp 75) rfl W13.heap.size (VI .u8 T2) rfl rfl rfl 36 (VI .u8 (List.replicate 16 0)) HIT2.out HST2.out (VI_one _ _) ?_
          have hbx := TL.box H13.out (W' := W13.alloc (Obj.cells (VI .u8 T2) 36)) ((Below.refl _ _).alloc (Nat.le_refl _) _) (Nat.le_refl _) (heap_alloc_new W13 _)
          have hp9lt := (TL.ev H13.out).lt mem0
          obtain ⟨p12, hp12⟩ : ∃ p, W13.heap.size = p := ⟨_, rfl⟩
          obtain ⟨W14, hW14⟩ : ∃ V, W13.alloc (Obj.cells (VI .u8 T2) 36) = V := ⟨_, rfl⟩
          rw [hW14, hp12] at hbx ⊢
          rw [hp12] at hp9lt
          obtain ⟨l3, l4, k1, k2, k3, k4, k5⟩ := hbx
          obtain ⟨au, cu, hu, hP2⟩ := psrc_prt (B := q) (w := W) k2 (by rw [HKB.out.2.1]; have := HN.out.1; unfold maxLen; omega) (bx := (l3 ++ (l4 ++ ([(p12, Obj.cells (VI .u8 T2) 36)] ++ (rbx K2 ++ [(q, .cells (VI .u8 key) 23)]))))) (fun p hp => List.mem_append_right _ (List.mem_append_left _ hp)) (fun p hp => List.mem_append_right _ (List.mem_append_right _ (List.mem_append_right _ (List.mem_append_left _ hp))))
          rw [HKB.out.2.1] at hu hP2
          injection hu with hu1 _ hu3
          rw [← hu1] at hP2
          have hne9 : ∀ p ∈ (l3 ++ (l4 ++ ([(p12, Obj.cells (VI .u8 T2) 36)] ++ (rbx K2 ++ [(q, .cells (VI .u8 key) 23)])))), p.1 ≠ p9 := by
            intro r hr
            simp only [List.mem_append] at hr
            rcases hr with hr | hr | hr | hr | hr
            · exact fun e => k4 r hr (p9, Obj.cells (VI .u8 T) 36) (List.mem_append_right _ (List.mem_cons_of_mem _ (List.mem_append_left _ mem0))) e.symm
            · exact fun e => k5 r hr (p9, Obj.cells (VI .u8 T) 36) (List.mem_cons_of_mem _ (List.mem_append_left _ mem0)) e.symm
            · simp only [List.mem_cons, List.not_mem_nil, or_false] at hr
              subst hr
              exact fun e => Nat.ne_of_gt hp9lt e
            · intro e
              have r9 := k3.row (g := p9) (x := Obj.cells (VI .u8 T) 36) (List.mem_append_right _ (List.mem_append_right _ (List.mem_cons_of_mem _ (List.mem_append_left _ mem0))))
              have rr := k3.at' r (List.mem_append_right _ (List.mem_append_right _ (List.mem_cons_of_mem _ (List.mem_append_right _ (List.mem_append_left _ hr)))))
              rw [e, r9] at rr
              have h3 := Option.some.inj rr
              obtain ⟨s, hs, rfl⟩ := List.mem_map.1 hr
              injection h3 with _ h4; exact absurd h4 (by decide)
            · intro e
              have r9 := k3.row (g := p9) (x := Obj.cells (VI .u8 T) 36) (List.mem_append_right _ (List.mem_append_right _ (List.mem_cons_of_mem _ (List.mem_append_left _ mem0))))
              have rr := k3.at' r (List.mem_append_right _ (List.mem_append_right _ (List.mem_cons_of_mem _ (List.mem_append_right _ (List.mem_append_right _ hr)))))
              rw [e, r9] at rr
              have h3 := Option.some.inj rr
              simp only [List.mem_cons, List.not_mem_nil, or_false] at hr
              subst hr
              injection h3 with _ h4; exact absurd h4 (by decide)
          have H14 : Hid (Ev q W (.pointer none) OL2 ((p9, Obj.cells (VI .u8 T) 36) :: (l3 ++ (l4 ++ ([(p12, Obj.cells (VI .u8 T2) 36)] ++ (rbx K2 ++ [(q, .cells (VI .u8 key) 23)]))))) W14) := by
            refine Ev.sub k3 (fun p hp => ?_)
            simp only [List.mem_append, List.mem_cons, List.not_mem_nil, or_false] at hp ⊢
            rcases hp with hp | hp | hp | hp | hp | hp
            · exact .inr (.inr (.inr (.inl (.inl hp))))
            · exact .inl hp
            · exact .inr (.inl hp)
            · exact .inr (.inr (.inl hp))
            · exact .inr (.inr (.inr (.inr (.inl hp))))
            · exact .inr (.inr (.inr (.inr (.inr hp))))
          have HP2 : Hid (PSrc q W (l3 ++ (l4 ++ ([(p12, Obj.cells (VI .u8 T2) 36)] ++ (rbx K2 ++ [(q, .cells (VI .u8 key) 23)])))) (some ⟨g2, 0, none⟩) n (K2.map Prod.snd)) := hP2
          have HNE : Hid (∀ p ∈ (l3 ++ (l4 ++ ([(p12, Obj.cells (VI .u8 T2) 36)] ++ (rbx K2 ++ [(q, .cells (VI .u8 key) 23)])))), p.1 ≠ p9) := hne9
          clear k1 k2 k3 k4 k5 hP2 hne9 hp12 hW14 hp9lt H13 CO HLK HT3 hu1 hu3
          go_upto_region 16 with fail
          refine wp_as (c' := rgOf16) (by kernel_rfl) ?_
          refine Of16 (g := p9) (bx := (l3 ++ (l4 ++ ([(p12, Obj.cells (VI .u8 T2) 36)] ++ (rbx K2 ++ [(q, .cells (VI .u8 key) 23)]))))) HK.out.1 HT.out.2.2 HNE.out HP2.out HKB.out.1 (by have := HN.out.1; omega) HKB.out.2.2.1 H14.out (List.mem_append_right _ (List.mem_append_right _ (List.mem_append_right _ (List.mem_append_right _ mem0)))) rfl rfl rfl rfl (fun _ _ d _ _ h => by cases d <;> exact h) ?_
          intro vj2 Y2 hY2
          rw [HT2'.out.1] at hY2
          have HY2 : Hid _ := hY2
          have HL9 : Hid (Y2.rangeAt p12 0 (T2.map (Value.int .u8)) ∧ Y2.rangeAt p9 0 (T2.map (Value.int .u8))) := ⟨row_range (hY2.row (List.mem_cons_of_mem _ (List.mem_append_right _ (List.mem_append_right _ (List.mem_append_left _ mem0))))), row_range (hY2.row mem0)⟩
          have HIT2' : Hid ((Try.prog.info? 36).map (·.size) = some T2.length) := by
            have : (Try.prog.info? 36).map (·.size) = some T2.length := by rw [HT2'.out.2]; exact infoT
            exact this
          have EQ2 : ∀ w, (Op.equalIn 10000 36 (.agg (VI .u8 T2)) (.agg (VI .u8 T2))).run Try.prog w = .ok true w := fun w => by
            rw [eqT HT2'.out.2 HT2'.out.2, beq_self_eq_true]
          have CKN : Hid (Calls Try.prog 21 #[] Y2 fun e w' => e = .returned (.bool true) ∧ Below Y2.heap.size Y2 w') := known_any Y2
          clear hY2 H14 HP2 HNE
          simp only [Act.put, List.setIfInBounds_toArray, List.set_cons_zero, List.set_cons_succ]
          go_wp2_with (first | (go_at_call 21; refine Calls.mono CKN.out ?_; rintro e V9 ⟨rfl, hb9⟩) | (with_reducible refine at_list ?_; first | (refine load_midI rfl 36 (.tmp 12) rfl p12 0 rfl .u8 T2 _ HL9.out.1 Try.underlying36 rfl HIT2'.out ?_) | (refine load_midI rfl 36 (.tmp 9) rfl p9 0 rfl .u8 T2 _ HL9.out.2 Try.underlying36 rfl HIT2'.out ?_)))
          go_ret
          exact ⟨rfl, (HY2.out.below hb9).old⟩
        · have b2 : ¬ ((D.length : Int) > 0) := by omega
          have b3 : ¬ ((0 : Int) < (D.length : Int)) := by omega
          have hi4 := HII.out.1
          have hn4 := HII.out.2
          go_wp2
          go_roundw
          case rel => exact ⟨i + 1, hi4, by go_num, HTL.out⟩
          case measure => simp [intOf]; omega
      · have b1 : ¬ (i : Int) < (n : Int) := by omega
        have CKN : Hid (Calls Try.prog 21 #[] wr fun e w' => e = .returned (.bool true) ∧ Below wr.heap.size wr w') := known_any wr
        go_wp2_with (first | (go_at_call 21; refine Calls.mono CKN.out ?_; rintro e V9 ⟨rfl, hb9⟩))
        go_ret
        have h9 := (TL.below HTL.out hb9)
        exact ⟨rfl, (TL.ev h9).old⟩
end Go.Proofs.Ytgfamcadgahiiaa
