import Derived.Test.YtgfamcadgahiiabTrI
import Derived.RegionIn
namespace Go.Proofs.Ytgfamcadgahiiab
set_option linter.unusedSimpArgs false
open Go.ChangeShapes Go.WideShapes Go.ChangeAt Go.RowKit Go.Pin Go.Shelf
attribute [local go_sem] Oper.semAt_some
set_option maxRecDepth 100000 in
theorem since_any (v : Value) (n : Int) (w : World) (hv : ∃ p, v = .pointer p) :
    Calls Try.prog 23 #[v, .int .i64 n] w fun e w' => e = .returned (.func (.func 31) #[] #[.pointer (some ⟨w.heap.size, 0, none⟩), .pointer (some ⟨w.heap.size + 1, 0, none⟩)]) ∧ w' = (w.alloc (.cells #[v] 33)).alloc (.cells #[.int .i64 n] 3) := by
  obtain ⟨p, rfl⟩ := hv
  go_enter Try.func23, Try.ntmps23
  go_wp2
  go_ret
  exact ⟨rfl, rfl⟩
theorem grow_of_lt {n₀ : Nat} {W X : World} (h : Below n₀ W X) : Grow (fun k => n₀ ≤ k) W X := ⟨h.os, h.tape, h.output, h.size, fun k _ hn => h.block k (by omega)⟩
theorem since_stops (b1 b2 n₀ : Nat) (v vs : Value) (n : Int) (l : List (Int × Int)) (hl : l.length ≤ 1000000) (w : World) (hr : RecO w v vs l) (hv : ∀ k, vs.ownBlock = some k → k < n₀) (hn : n₀ ≤ w.heap.size)
    (h1 : w.cell? ⟨b1, 0, none⟩ = some v) (h2 : w.cell? ⟨b2, 0, none⟩ = some (.int .i64 n)) :
    SeqStopsK Fence.wide 4 Try.prog 31 #[.pointer (some ⟨b1, 0, none⟩), .pointer (some ⟨b2, 0, none⟩)] (fun x : Int × Int => #[evV x]) (Below n₀) (fun ys => ys = beh l n) (fun pre => pre <+: beh l n) l.length w := by
  intro l' J Jx W hW hJ hJx hY h0
  have hr' := hr.below hW
  have c1 : W.cell? ⟨b1, 0, none⟩ = some v := (hW.cell (p := ⟨b1, 0, none⟩) (World.block_lt_of_cell? w _ h1)).trans h1
  have c2 : W.cell? ⟨b2, 0, none⟩ = some (.int .i64 n) := (hW.cell (p := ⟨b2, 0, none⟩) (World.block_lt_of_cell? w _ h2)).trans h2
  refine (since1_in l' b1 b2 v vs n l hl (fun pre X => J pre X ∧ Below n₀ W X) Jx W ?_ ?_ ?_ hr' c1 c2 ⟨h0, Below.refl _ _⟩).mono ?_
  · intro pre X o ⟨hj, hb⟩
    exact ⟨hJ pre X _ none hj (World.grownBy_alloc X o none) (fun r e => by cases e), hb.alloc (by have := hb.size; have := hW.size; omega) o⟩
  · intro pre X ⟨_, hb⟩
    exact sl_grow (grow_of_lt hb) hr'.sl (fun k hk => by have := hv k hk; omega)
  · intro pre x X ⟨hj, hb⟩ hlt _
    obtain ⟨fn, tmps, assign, body, hy, hR⟩ := hY pre x X hj hlt
    refine ⟨fn, tmps, assign, body, hy, hR.mono ?_⟩
    rintro e X' (⟨rfl, hj', hk⟩ | ⟨rfl, hj'⟩)
    · exact .inl ⟨rfl, hj', hb.trans hk⟩
    · exact .inr ⟨rfl, hj'⟩
  · rintro e W' ⟨he, ⟨hj, _⟩ | ⟨pre, hp, hj⟩⟩
    · exact ⟨he, .inl ⟨_, rfl, hj⟩⟩
    · exact ⟨he, .inr ⟨_, hp, hj⟩⟩
/-- a variable's box of two cells -/
def Boxed2 (W : World) (B : Nat) (t : TypeId) (a b : Value) : Prop := W.heap[B]? = some (.cells #[a, b] t (0, 0))
theorem Boxed2.cell0 {W : World} {B : Nat} {t : TypeId} {a b : Value} (h : Boxed2 W B t a b) : W.cell? ⟨B, 0, none⟩ = some a := by simp [World.cell?, show W.heap[B]? = _ from h]
theorem Boxed2.cell1 {W : World} {B : Nat} {t : TypeId} {a b : Value} (h : Boxed2 W B t a b) : W.cell? ⟨B, 1, none⟩ = some b := by simp [World.cell?, show W.heap[B]? = _ from h]
theorem Boxed2.new (W : World) (t : TypeId) (a b : Value) : Boxed2 (W.alloc (.cells #[a, b] t)) W.heap.size t a b := World.alloc_heap_new W _
theorem Boxed2.turn {X Y : World} {row : Option Nat} {B : Nat} {t : TypeId} {a b : Value} (h : Boxed2 X B t a b) (hg : X.grownBy Y row) (hr : ∀ r, row = some r → ∃ o : Obj, X.heap[r]? = some o ∧ o.isCells = false) : Boxed2 Y B t a b :=
  (hg.block B (Array.getElem?_eq_some_iff.1 h).1 (fun e => by obtain ⟨o, ho, hc⟩ := hr B e.symm; rw [show X.heap[B]? = _ from h] at ho; cases ho; cases hc)).trans h
/-- the rows of like ones -/
def rnStep (acc : List (Int × Int × Int)) (e : Int × Int) : List (Int × Int × Int) :=
  match acc.getLast? with
  | some (k, v, t) => if k = e.1 ∧ v = e.2 then acc.dropLast ++ [(k, v, t + 1)] else acc ++ [(e.1, e.2, 1)]
  | none => [(e.1, e.2, 1)]
def rn (l : List (Int × Int)) : List (Int × Int × Int) := l.foldl rnStep []
def rnC (l : List (Int × Int × Int)) : List Value := l.flatMap fun e => [.int .i64 e.1, .int .i64 e.2.1, .int .i64 e.2.2]
theorem rnC_len (l : List (Int × Int × Int)) : (rnC l).length = l.length * 3 := by
  induction l with
  | nil => rfl
  | cons e l ih => simp only [rnC, List.flatMap_cons, List.length_append] at ih ⊢; rw [ih]; simp; omega
theorem rnC_app (a b : List (Int × Int × Int)) : rnC (a ++ b) = rnC a ++ rnC b := by simp [rnC]
theorem rn_take_succ (l : List (Int × Int)) (i : Nat) (e : Int × Int) (h : l[i]? = some e) : rn (l.take (i + 1)) = rnStep (rn (l.take i)) e := by
  have hi : i < l.length := (List.getElem?_eq_some_iff.1 h).1
  rw [List.take_succ_eq_append_getElem hi]
  have : l[i] = e := by rw [List.getElem?_eq_getElem hi] at h; exact Option.some.inj h
  rw [this]
  simp [rn, List.foldl_append]
theorem rnStep_new (e : Int × Int) : rnStep [] e = [(e.1, e.2, 1)] := rfl
theorem rnStep_like (q : List (Int × Int × Int)) (k v t : Int) : rnStep (q ++ [(k, v, t)]) (k, v) = q ++ [(k, v, t + 1)] := by
  simp [rnStep]
theorem rnStep_unlike (q : List (Int × Int × Int)) (k v t : Int) (e : Int × Int) (h : ¬ (k = e.1 ∧ v = e.2)) : rnStep (q ++ [(k, v, t)]) e = q ++ [(k, v, t)] ++ [(e.1, e.2, 1)] := by
  simp [rnStep, h]
theorem rn_bound (l : List (Int × Int)) : (rn l).length ≤ l.length ∧ ∀ x ∈ rn l, 1 ≤ x.2.2 ∧ x.2.2 ≤ l.length := by
  have key : ∀ (n : Nat) (l : List (Int × Int)), l.length = n → (rn l).length ≤ l.length ∧ ∀ x ∈ rn l, 1 ≤ x.2.2 ∧ x.2.2 ≤ l.length := by
    intro n
    induction n with
    | zero => intro l h; rw [List.length_eq_zero_iff.1 h]; simp [rn]
    | succ n ih =>
      intro l h
      have hn : n < l.length := by omega
      have hl : l = l.take n ++ [l[n]] := by
        rw [← List.take_succ_eq_append_getElem hn, List.take_of_length_le (by omega)]
      have h1 := ih (l.take n) (by simp; omega)
      have h2 := rn_take_succ l n l[n] (List.getElem?_eq_getElem hn)
      rw [List.take_of_length_le (show l.length ≤ n + 1 by omega)] at h2
      rw [h2]
      generalize rn (l.take n) = acc at *
      have hlen : (l.take n).length = n := by simp; omega
      rw [hlen] at h1
      rcases List.eq_nil_or_concat acc with rfl | ⟨q, ⟨k, v, t⟩, rfl⟩
      · rw [rnStep_new]
        refine ⟨by simp; omega, ?_⟩
        intro x hx
        simp at hx
        subst hx
        exact ⟨by simp, by simp; omega⟩
      · rw [List.concat_eq_append] at h1 ⊢
        have ht := h1.2 (k, v, t) (by simp)
        have hq : ∀ x ∈ q, 1 ≤ x.2.2 ∧ x.2.2 ≤ (n : Int) := fun x hx => h1.2 x (by simp [hx])
        have hql : q.length + 1 ≤ n := by simpa using h1.1
        by_cases hc : k = l[n].1 ∧ v = l[n].2
        · have : l[n] = (k, v) := by rw [hc.1, hc.2]
          rw [this, rnStep_like]
          refine ⟨by simp; omega, ?_⟩
          intro x hx
          rw [List.mem_append, List.mem_singleton] at hx
          rcases hx with hx | rfl
          · have := hq x hx; omega
          · simp only at ht ⊢; omega
        · rw [rnStep_unlike _ _ _ _ _ hc]
          refine ⟨by simp; omega, ?_⟩
          intro x hx
          rw [List.mem_append, List.mem_append, List.mem_singleton, List.mem_singleton] at hx
          rcases hx with (hx | rfl) | rfl
          · have := hq x hx; omega
          · simp only at ht ⊢; omega
          · exact ⟨by simp, by simp; omega⟩
  exact key _ l rfl
theorem info55 : (Try.prog.info? 66).map (fun i => (i.zero, i.size, i.bytes)) = some (some (.agg #[.int .i64 0, .int .i64 0, .int .i64 0]), 3, 24) := by kernel_rfl
theorem rnC_at (l : List (Int × Int × Int)) (i : Nat) (e : Int × Int × Int) (h : l[i]? = some e) : (rnC l)[i * 3]? = some (.int .i64 e.1) ∧ (rnC l)[i * 3 + 1]? = some (.int .i64 e.2.1) ∧ (rnC l)[i * 3 + 2]? = some (.int .i64 e.2.2) := by
  induction l generalizing i with
  | nil => simp at h
  | cons x l ih =>
    cases i with
    | zero => simp at h; subst h; exact ⟨rfl, rfl, rfl⟩
    | succ i =>
      have := ih i (by simpa using h)
      rw [show (i + 1) * 3 = i * 3 + 1 + 1 + 1 by omega]
      exact this
theorem rn_snoc (l : List (Int × Int)) (x : Int × Int) : rn (l ++ [x]) = rnStep (rn l) x := by simp [rn]
set_option maxRecDepth 100000 in
set_option maxHeartbeats 2000000 in
theorem runs_in (v vs : Value) (l : List (Int × Int)) (hl : l.length ≤ 1000000) (w : World) (hr : RecO w v vs l) :
    CallsIn Fence.wide 5 Try.prog 12 #[v] w fun e W' => ∃ u, e = .returned u ∧ W'.ownsRow w.heap.size 66 3 u (rn l).length (rnC (rn l)) ∧ Below w.heap.size w W' := by
  obtain ⟨i0, hi, hz0, hz1, hz2⟩ := info_parts info55
  have hmx : Try.prog.follows .mixedOrders = true := by kernel_rfl
  have HI : Hid _ := And.intro hi (And.intro hz0 (And.intro hz1 hz2))
  clear hi hz0 hz1 hz2
  have HR : Hid (RecO w v vs l) := hr
  have hv : ∃ p, v = .pointer p := by rcases hr with ⟨rfl, _⟩ | ⟨_, _, rfl, _⟩ <;> exact ⟨_, rfl⟩
  clear hr
  obtain ⟨p, rfl⟩ := hv
  refine callsIn_of_wp_marks Try.func12 rfl trivial ?_ rfl
  simp only [Try.ntmps12, List.size_toArray, List.length_cons, List.length_nil, Nat.reduceAdd, Nat.reduceSub, Array.replicate_succ, Array.replicate_zero, List.push_toArray, List.append_toArray, List.nil_append, List.cons_append]
  gi_wp2_with (first | (refine ⟨trivial, ?_⟩; gi_at_call 23; refine (callsIn_wide.2 (since_any _ 0 _ ⟨_, rfl⟩)).mono ?_; rintro e w' ⟨rfl, rfl⟩))
  have bO := ((Boxed.new w 37 (.slice none 0 0)).alloc (.cells #[.pointer p] 33)).alloc (.cells #[.int .i64 0] 3)
  have bR := (Boxed.new (w.alloc (.cells #[.slice none 0 0] 37)) 33 (.pointer p)).alloc (.cells #[.int .i64 0] 3)
  have bN := Boxed.new ((w.alloc (.cells #[.slice none 0 0] 37)).alloc (.cells #[.pointer p] 33)) 3 (.int .i64 0)
  simp only [World.size_alloc] at bR bN
  have hB0 : Below w.heap.size w (((w.alloc (.cells #[.slice none 0 0] 37)).alloc (.cells #[.pointer p] 33)).alloc (.cells #[.int .i64 0] 3)) := (((Below.refl _ w).alloc (Nat.le_refl _) _).alloc (by simp) _).alloc (by simp; omega) _
  have hsz : (((w.alloc (.cells #[.slice none 0 0] 37)).alloc (.cells #[.pointer p] 33)).alloc (.cells #[.int .i64 0] 3)).heap.size = w.heap.size + 3 := by simp
  obtain ⟨W0, hW0⟩ : ∃ W0, ((w.alloc (.cells #[.slice none 0 0] 37)).alloc (.cells #[.pointer p] 33)).alloc (.cells #[.int .i64 0] 3) = W0 := ⟨_, rfl⟩
  rw [hW0] at bO bR bN hB0 hsz ⊢
  clear hW0
  have hvb : ∀ k, vs.ownBlock = some k → k < w.heap.size := fun k hk => (HR.out.owns.lt k hk).2
  have hbeh : beh l 0 = l := by simp [beh]
  refine wpIn_rangeFunc_ownH (F := Fence.wide) (n := 5) rfl (by decide) (gf := 31) (lb := #[.pointer (some ⟨w.heap.size + 1, 0, none⟩), .pointer (some ⟨w.heap.size + 1 + 1, 0, none⟩)]) rfl trivial (enters_of Try.func31 (by kernel_rfl) rfl)
    (since_stops (w.heap.size + 1) (w.heap.size + 1 + 1) w.heap.size (.pointer p) vs 0 l hl W0 (HR.out.below hB0) hvb (by omega) bR.cell bN.cell) belowK_t (belowK_b (by omega)) (Below.refl _ _) (fun _ => rfl)
    (fun pre W => (∃ u, Boxed W w.heap.size 37 u ∧ W.ownsRow w.heap.size 66 3 u (rn pre).length (rnC (rn pre)) ∧ (rn pre = [] → u = .slice none 0 0)) ∧ Below w.heap.size w W)
    (fun _ _ _ => False)
    (OwnFrom.and (Own.from (holdsRow_own w.heap.size w.heap.size 37 66 3 (fun pre => (rn pre).length) (fun pre => rnC (rn pre)) (fun pre u => rn pre = [] → u = .slice none 0 0)) _) (ownFrom_below (Nat.le_refl _) (by omega)))
    (fun _ _ _ _ _ hs _ _ => hs)
    ⟨⟨_, bO, World.ownsRow_nil _ _ _ _, fun _ => rfl⟩, hB0⟩
    (fun x a' W => ∃ Bx, Boxed2 W Bx 59 (.int .i64 x.1) (.int .i64 x.2) ∧ a' = { tmps := #[.pointer p, undef, .slice none 0 0, .pointer (some ⟨w.heap.size, 0, none⟩), .pointer (some ⟨Bx, 0, none⟩), undef, .pointer p, .func (.func 31) #[] #[.pointer (some ⟨w.heap.size + 1, 0, none⟩), .pointer (some ⟨w.heap.size + 1 + 1, 0, none⟩)], evV x, undef, undef, undef, undef, undef, undef, undef, undef, undef, undef, undef, undef, undef, undef, undef, undef, undef, undef, undef, undef, undef, undef, undef, undef, undef, undef, undef, undef], defers := [] })
    (fun x a' _ X Y row hs hg hr => by obtain ⟨Bx, h2, h3⟩ := hs; exact ⟨Bx, h2.turn hg (fun r e => (hr r e).2), h3⟩)
    ?assign ?body ?done ?stop
  case assign =>
    rintro l1 pre ⟨x1, x2⟩ W K ⟨⟨u, bO1, hr1, hnil⟩, hB1⟩ hK
    simp only [evV] at hK ⊢
    gi_wp2
    exact hK _ _ ((KeepsOthers.alloc _ _).from _) ((Below.refl _ W).alloc hB1.size _) ⟨⟨u, bO1.alloc _, hr1.alloc _, hnil⟩, hB1.alloc hB1.size _⟩ ⟨W.heap.size, Boxed2.new W 59 _ _, rfl⟩
  case body =>
    rintro l1 pre ⟨x1, x2⟩ a' W hl1 ⟨r, hr1⟩ ⟨⟨u, bO1, hrw, hnil⟩, hB1⟩ ⟨Bx, bX, rfl⟩ hlt
    have cO := bO1.cell
    have cX0 := bX.cell0
    have cX1 := bX.cell1
    simp only at cX0 cX1
    have HRW : Hid (W.ownsRow w.heap.size 66 3 u (rn pre).length (rnC (rn pre))) := hrw
    have HB1 : Hid (Below w.heap.size w W) := hB1
    have HO1 : Hid (Boxed W w.heap.size 37 u) := bO1
    have hbd := rn_bound pre
    have HST : Hid _ := rn_snoc pre (x1, x2)
    clear bX hr1 hrw hB1 bO1
    generalize rn pre = acc at *
    rcases List.eq_nil_or_concat acc with rfl | ⟨q, ⟨k, v, t⟩, rfl⟩
    · obtain rfl := hnil rfl
      clear hnil hbd
      gi_wp2
      refine wpIn_mono (Q := fun e a w' => e = .normal ∧ (∃ u12 u13 u14 u15 u16 u17 u18 u19 u20 u21, a = { tmps := #[.pointer p, undef, .slice none 0 0, .pointer (some ⟨w.heap.size, 0, none⟩), .pointer (some ⟨Bx, 0, none⟩), .int .i64 (-1), .pointer p, .func (.func 31) #[] #[.pointer (some ⟨w.heap.size + 1, 0, none⟩), .pointer (some ⟨w.heap.size + 1 + 1, 0, none⟩)], evV (x1, x2), .slice none 0 0, .int .i64 0, .int .i64 (-1), u12, u13, u14, u15, u16, u17, u18, u19, u20, u21, .bool false, undef, undef, undef, undef, undef, undef, undef, undef, undef, undef, undef, undef, undef, undef], defers := [] }) ∧ w' = W.drew) ?reg ?rest
      case reg =>
        gi_region_with_o (fail)
        all_goals exact ⟨rfl, ⟨_, _, _, _, _, _, _, _, _, _, rfl⟩, rfl⟩
      case rest =>
        rintro _ _ _ ⟨rfl, ⟨u12, u13, u14, u15, u16, u17, u18, u19, u20, u21, rfl⟩, rfl⟩
        skip
        gi_wp2_with (gi_at_builtin; refine wpListIn_append_own _ rfl _ _ 37 rfl w.heap.size 66 i0 (.agg #[.int .i64 0, .int .i64 0, .int .i64 0]) 3 24 Try.underlying37 HI.out.1 HI.out.2.1 HI.out.2.2.1 HI.out.2.2.2 rfl (by decide) _ 0 (rnC []) rfl ?ow ⟨W.heap.size, 0, none⟩ 1 1 [.int .i64 x1, .int .i64 x2, .int .i64 1] rfl rfl ?_ ?_ ?_ ?_ ?_ ?_)
        case ow => exact HRW.out.alloc _
        · intro j u hj
          match j, hj with
          | 0, hj => simp at hj; subst hj; simp [Addr.add]
          | 1, hj => simp at hj; subst hj; simp [Addr.add]
          | 2, hj => simp at hj; subst hj; simp [Addr.add]
        · intro u hu
          simp at hu
          rcases hu with rfl | rfl | rfl <;> rfl
        · unfold maxLen; omega
        · omega
        · have := HB1.out.size; simp; omega
        · intro v' w2 hown' hgrow _
          obtain ⟨g', cap', rfl⟩ := ownsRow_succ hown'
          obtain ⟨hv1, hv2, hr2, hk2, hb2⟩ := HO1.out.appended (by decide) HRW.out HB1.out.size (Nat.le_refl _) hown' (tmp := .cells #[.int .i64 x1, .int .i64 x2, .int .i64 1] 66) ⟨hgrow.os, hgrow.tape, hgrow.output, hgrow.size, hgrow.block⟩
          have hc1 := hv1.cell
          have hf1 := hv1.frozen
          have H2 : Hid (_ ∧ _ ∧ _ ∧ _) := ⟨hv2, hr2, hk2, hb2⟩
          clear hown' hgrow hv1 hv2 hr2 hk2 hb2
          gi_wp2
          obtain ⟨hv2, hr2, hk2, hb2⟩ := H2.out
          refine ⟨hk2.from _, hb2, ⟨_, hv2, ?_, ?_⟩, HB1.out.trans hb2⟩
          · rw [HST.out, rnStep_new]; exact hr2
          · rw [HST.out, rnStep_new]; simp
    · obtain ⟨g, cap, hu⟩ : ∃ g cap, u = .slice (some ⟨g, 0, none⟩) (q.length + 1) cap := by
        rcases HRW.out.2 with ⟨_, h0⟩ | ⟨g, cap, _, rfl, _⟩
        · simp at h0
        · exact ⟨g, cap, by simp⟩
      subst hu
      rw [List.concat_eq_append] at HRW HST
      have hq1 : (q ++ [(k, v, t)]).length = q.length + 1 := by simp
      rw [hq1] at HRW
      have hx := HRW.out.cells (g := g) rfl
      have hf := HRW.out.frozenAt (q.length * 3 + 2)
      have hgb := (HRW.out.lt g rfl).1
      obtain ⟨p1, p2, p3⟩ := rnC_at (q ++ [(k, v, t)]) q.length (k, v, t) (by simp)
      have d1 := hx _ _ p1
      have d2 := hx _ _ p2
      have d3 := hx _ _ p3
      rw [add_mid, Nat.zero_add] at d1 d2 d3
      simp only at d1 d2 d3
      clear hx p1 p2 p3 hnil
      have hq : q.length ≤ 1000000 := by have := hbd.1; simp at this; omega
      have hlast : wrap64 (q.length : Int) = q.length := by unfold wrap64; omega
      have ht1 := (hbd.2 (k, v, t) (by simp)).1
      have ht2 := (hbd.2 (k, v, t) (by simp)).2
      simp only at ht1 ht2
      clear hbd
      by_cases hk : k = x1
      · by_cases hv : v = x2
        · subst hk
          subst hv
          have hst := HRW.out.stored (q.length * 3 + 2) (.int .i64 (t + 1))
          have hne := HO1.out.not_row (by decide) HRW.out
          have HS : Hid (_ ∧ _) := ⟨hst, hne⟩
          clear hst hne
          gi_wp2
          refine wpIn_mono (Q := fun e a w' => e = .normal ∧ (∃ u12 u13 u14 u15 u16 u17 u18 u19 u20 u21, a = { tmps := #[.pointer p, undef, .slice none 0 0, .pointer (some ⟨w.heap.size, 0, none⟩), .pointer (some ⟨Bx, 0, none⟩), .int .i64 q.length, .pointer p, .func (.func 31) #[] #[.pointer (some ⟨w.heap.size + 1, 0, none⟩), .pointer (some ⟨w.heap.size + 1 + 1, 0, none⟩)], evV (k, v), .slice (some ⟨g, 0, none⟩) (q.length + 1) cap, .int .i64 (q.length + 1), .int .i64 q.length, u12, u13, u14, u15, u16, u17, u18, u19, u20, u21, .bool true, undef, undef, undef, undef, undef, undef, undef, undef, undef, undef, undef, undef, undef, undef], defers := [] }) ∧ w' = W.drew) ?reg ?rest
          case reg =>
            gi_region_with_o (fail)
            all_goals exact ⟨rfl, ⟨_, _, _, _, _, _, _, _, _, _, rfl⟩, rfl⟩
          case rest =>
            rintro _ _ _ ⟨rfl, ⟨u12, u13, u14, u15, u16, u17, u18, u19, u20, u21, rfl⟩, rfl⟩
            skip
            gi_wp2
            have hkk : Boxed (W.setCell ⟨g, q.length * 3 + 2, none⟩ (.int .i64 (t + 1))) w.heap.size 37 (.slice (some ⟨g, 0, none⟩) (q.length + 1) cap) := HO1.out.kept HS.out.1.2 HS.out.2
            have hko := (KeepsOthers.setCell W ⟨g, q.length * 3 + 2, none⟩ (.int .i64 (t + 1))).from W0.heap.size
            have hbl := (Below.refl w.heap.size W).setCell (p := ⟨g, q.length * 3 + 2, none⟩) hgb (.int .i64 (t + 1))
            have hset : (rnC (q ++ [(k, v, t)])).set (q.length * 3 + 2) (.int .i64 (t + 1)) = rnC (q ++ [(k, v, t + 1)]) := by
              rw [rnC_app, rnC_app, List.set_append_right _ _ (by rw [rnC_len]; omega), rnC_len, Nat.add_sub_cancel_left]
              rfl
            refine ⟨⟨hko.size, hko.same⟩, ⟨hbl.os, hbl.tape, hbl.output, hbl.size, hbl.block⟩, ⟨_, hkk, ?_, ?_⟩, HB1.out.trans ⟨hbl.os, hbl.tape, hbl.output, hbl.size, hbl.block⟩⟩
            · rw [HST.out, rnStep_like, List.length_append, ← hset]
              exact HS.out.1.1
            · rw [HST.out, rnStep_like]; simp
        · have hv' : (v == x2) = false := by simp [hv]
          subst hk
          have HNE : Hid (v ≠ x2) := hv
          clear hv
          gi_wp2
          refine wpIn_mono (Q := fun e a w' => e = .normal ∧ (∃ u12 u13 u14 u15 u16 u17 u18 u19 u20 u21, a = { tmps := #[.pointer p, undef, .slice none 0 0, .pointer (some ⟨w.heap.size, 0, none⟩), .pointer (some ⟨Bx, 0, none⟩), .int .i64 q.length, .pointer p, .func (.func 31) #[] #[.pointer (some ⟨w.heap.size + 1, 0, none⟩), .pointer (some ⟨w.heap.size + 1 + 1, 0, none⟩)], evV (k, x2), .slice (some ⟨g, 0, none⟩) (q.length + 1) cap, .int .i64 (q.length + 1), .int .i64 q.length, u12, u13, u14, u15, u16, u17, u18, u19, u20, u21, .bool false, undef, undef, undef, undef, undef, undef, undef, undef, undef, undef, undef, undef, undef, undef], defers := [] }) ∧ w' = W.drew) ?reg ?rest
          case reg =>
            gi_region_with_o (fail)
            all_goals exact ⟨rfl, ⟨_, _, _, _, _, _, _, _, _, _, rfl⟩, rfl⟩
          case rest =>
            rintro _ _ _ ⟨rfl, ⟨u12, u13, u14, u15, u16, u17, u18, u19, u20, u21, rfl⟩, rfl⟩
            skip
            gi_wp2_with (gi_at_builtin; refine wpListIn_append_own _ rfl _ _ 37 rfl w.heap.size 66 i0 (.agg #[.int .i64 0, .int .i64 0, .int .i64 0]) 3 24 Try.underlying37 HI.out.1 HI.out.2.1 HI.out.2.2.1 HI.out.2.2.2 rfl (by decide) _ (q.length + 1) (rnC (q ++ [(k, v, t)])) rfl ?ow ⟨W.heap.size, 0, none⟩ 1 1 [.int .i64 k, .int .i64 x2, .int .i64 1] rfl rfl ?_ ?_ ?_ ?_ ?_ ?_)
            case ow => exact HRW.out.alloc _
            · intro j u hj
              match j, hj with
              | 0, hj => simp at hj; subst hj; simp [Addr.add]
              | 1, hj => simp at hj; subst hj; simp [Addr.add]
              | 2, hj => simp at hj; subst hj; simp [Addr.add]
            · intro u hu
              simp at hu
              rcases hu with rfl | rfl | rfl <;> rfl
            · unfold maxLen; omega
            · omega
            · have := HB1.out.size; simp; omega
            · intro v' w2 hown' hgrow _
              obtain ⟨g', cap', rfl⟩ := ownsRow_succ hown'
              obtain ⟨hv1, hv2, hr2, hk2, hb2⟩ := HO1.out.appended (by decide) HRW.out HB1.out.size (Nat.le_refl _) hown' (tmp := .cells #[.int .i64 k, .int .i64 x2, .int .i64 1] 66) ⟨hgrow.os, hgrow.tape, hgrow.output, hgrow.size, hgrow.block⟩
              have hc1 := hv1.cell
              have hf1 := hv1.frozen
              have H2 : Hid (_ ∧ _ ∧ _ ∧ _) := ⟨hv2, hr2, hk2, hb2⟩
              clear hown' hgrow hv1 hv2 hr2 hk2 hb2
              gi_wp2
              obtain ⟨hv2, hr2, hk2, hb2⟩ := H2.out
              refine ⟨hk2.from _, hb2, ⟨_, hv2, ?_, ?_⟩, HB1.out.trans hb2⟩
              · rw [HST.out, rnStep_unlike q k v t (k, x2) (fun h => HNE.out h.2), List.length_append, rnC_app, hq1]; exact hr2
              · rw [HST.out, rnStep_unlike q k v t (k, x2) (fun h => HNE.out h.2)]; simp
      · have hk' : (k == x1) = false := by simp [hk]
        have HNE : Hid (k ≠ x1) := hk
        clear hk
        gi_wp2
        refine wpIn_mono (Q := fun e a w' => e = .normal ∧ (∃ u12 u13 u14 u15 u16 u17 u18 u19 u20 u21, a = { tmps := #[.pointer p, undef, .slice none 0 0, .pointer (some ⟨w.heap.size, 0, none⟩), .pointer (some ⟨Bx, 0, none⟩), .int .i64 q.length, .pointer p, .func (.func 31) #[] #[.pointer (some ⟨w.heap.size + 1, 0, none⟩), .pointer (some ⟨w.heap.size + 1 + 1, 0, none⟩)], evV (x1, x2), .slice (some ⟨g, 0, none⟩) (q.length + 1) cap, .int .i64 (q.length + 1), .int .i64 q.length, u12, u13, u14, u15, u16, u17, u18, u19, u20, u21, .bool false, undef, undef, undef, undef, undef, undef, undef, undef, undef, undef, undef, undef, undef, undef], defers := [] }) ∧ w' = W.drew) ?reg ?rest
        case reg =>
          gi_region_with_o (fail)
          all_goals exact ⟨rfl, ⟨_, _, _, _, _, _, _, _, _, _, rfl⟩, rfl⟩
        case rest =>
          rintro _ _ _ ⟨rfl, ⟨u12, u13, u14, u15, u16, u17, u18, u19, u20, u21, rfl⟩, rfl⟩
          skip
          gi_wp2_with (gi_at_builtin; refine wpListIn_append_own _ rfl _ _ 37 rfl w.heap.size 66 i0 (.agg #[.int .i64 0, .int .i64 0, .int .i64 0]) 3 24 Try.underlying37 HI.out.1 HI.out.2.1 HI.out.2.2.1 HI.out.2.2.2 rfl (by decide) _ (q.length + 1) (rnC (q ++ [(k, v, t)])) rfl ?ow ⟨W.heap.size, 0, none⟩ 1 1 [.int .i64 x1, .int .i64 x2, .int .i64 1] rfl rfl ?_ ?_ ?_ ?_ ?_ ?_)
          case ow => exact HRW.out.alloc _
          · intro j u hj
            match j, hj with
            | 0, hj => simp at hj; subst hj; simp [Addr.add]
            | 1, hj => simp at hj; subst hj; simp [Addr.add]
            | 2, hj => simp at hj; subst hj; simp [Addr.add]
          · intro u hu
            simp at hu
            rcases hu with rfl | rfl | rfl <;> rfl
          · unfold maxLen; omega
          · omega
          · have := HB1.out.size; simp; omega
          · intro v' w2 hown' hgrow _
            obtain ⟨g', cap', rfl⟩ := ownsRow_succ hown'
            obtain ⟨hv1, hv2, hr2, hk2, hb2⟩ := HO1.out.appended (by decide) HRW.out HB1.out.size (Nat.le_refl _) hown' (tmp := .cells #[.int .i64 x1, .int .i64 x2, .int .i64 1] 66) ⟨hgrow.os, hgrow.tape, hgrow.output, hgrow.size, hgrow.block⟩
            have hc1 := hv1.cell
            have hf1 := hv1.frozen
            have H2 : Hid (_ ∧ _ ∧ _ ∧ _) := ⟨hv2, hr2, hk2, hb2⟩
            clear hown' hgrow hv1 hv2 hr2 hk2 hb2
            gi_wp2
            obtain ⟨hv2, hr2, hk2, hb2⟩ := H2.out
            refine ⟨hk2.from _, hb2, ⟨_, hv2, ?_, ?_⟩, HB1.out.trans hb2⟩
            · rw [HST.out, rnStep_unlike q k v t (x1, x2) (fun h => HNE.out h.1), List.length_append, rnC_app, hq1]; exact hr2
            · rw [HST.out, rnStep_unlike q k v t (x1, x2) (fun h => HNE.out h.1)]; simp
  case done =>
    rintro D ys W hD hys ⟨⟨u, bO1, hr1, _⟩, hB1⟩ hK
    rw [hbeh] at hys
    subst hys
    have cO := bO1.cell
    gi_wp2
    refine ⟨by simp, .inl ⟨_, _, rfl, run_takeDeferred hK, ?_⟩⟩
    exact ⟨_, results_tmp rfl _ _ _, u, rfl, ownsRow_putObj hr1 _ hK rfl, hB1.trans (belowK_b (w := w) (Nat.le_refl _) W D _ _ (by omega) hK rfl rfl)⟩
  case stop =>
    rintro D c pre W _ _ h _
    exact h.elim
theorem tRuns_any (v vs : Value) (l : List (Int × Int)) (hl : l.length ≤ 1000000) (w : World) (hr : RecO w v vs l) :
    Calls Try.prog 12 #[v] w fun e W' => ∃ u, e = .returned u ∧ W'.ownsRow w.heap.size 66 3 u (rn l).length (rnC (rn l)) ∧ Below w.heap.size w W' :=
  callsIn_wide.1 (runs_in v vs l hl w hr)
end Go.Proofs.Ytgfamcadgahiiab
