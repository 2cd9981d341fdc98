import Derived.Test.YtfobiejgkdbidabTraceLaw
namespace Go.Proofs.Ytfobiejgkdbidab
set_option linter.unusedSimpArgs false
open Go.ChangeShapes Go.WideShapes Go.ChangeAt Go.RowKit Go.Pin
/-- the events from number n on -/
def beh (l : List (Int × Int)) (n : Int) : List (Int × Int) := l.drop n.toNat
theorem evC_drop (l : List (Int × Int)) (n : Nat) : evC (l.drop n) = (evC l).drop (n * 2) := by
  induction n generalizing l with
  | zero => simp
  | succ n ih =>
    cases l with
    | nil => simp [evC]
    | cons x l =>
      rw [List.drop_succ_cons, ih, show (n + 1) * 2 = n * 2 + 2 by omega]
      rfl
/-- the event of a step -/
def evt (k v : Int) (b : Bool) : Option (Int × Int) := if k = 1 then some (1, if b then 1 else 0) else if k = 2 then some (2, v) else if k = 3 then some (3, v) else none
def evtV (o : Option (Int × Int)) : Value := match o with
  | some e => .tuple #[.agg #[.int .i64 e.1, .int .i64 e.2], .bool true]
  | none => .tuple #[.agg #[.int .i64 0, .int .i64 0], .bool false]
set_option maxHeartbeats 400000 in
theorem refAt_any (v : Int) (w : World) :
    Calls Try.prog 22 #[.int .i64 v] w fun e w' => e = .returned (.agg #[.int .i64 2, .int .i64 v]) ∧ w' = w.alloc (.cells #[.int .i64 2, .int .i64 v] 36) := by
  go_enter Try.func22, Try.ntmps22
  go_wp2
  exact bodyPost_ret (v := .agg #[.int .i64 2, .int .i64 v]) (by simp [results, Try.results22, go_sem]) rfl ⟨rfl, rfl⟩
set_option maxHeartbeats 400000 in
theorem refOp_any (v : Int) (w : World) :
    Calls Try.prog 23 #[.int .i64 v] w fun e w' => e = .returned (.agg #[.int .i64 3, .int .i64 v]) ∧ w' = w.alloc (.cells #[.int .i64 3, .int .i64 v] 36) := by
  go_enter Try.func23, Try.ntmps23
  go_wp2
  exact bodyPost_ret (v := .agg #[.int .i64 3, .int .i64 v]) (by simp [results, Try.results23, go_sem]) rfl ⟨rfl, rfl⟩
set_option maxHeartbeats 400000 in
theorem refIf_any (b : Bool) (w : World) :
    Calls Try.prog 21 #[.bool b] w fun e w' => e = .returned (.agg #[.int .i64 1, .int .i64 (if b then 1 else 0)]) ∧ w' = w.alloc (.cells #[.int .i64 1, .int .i64 (if b then 1 else 0)] 36) := by
  cases b
  · go_enter Try.func21, Try.ntmps21
    go_wp2
    exact bodyPost_ret (v := .agg #[.int .i64 1, .int .i64 0]) (by simp [results, Try.results21, go_sem]) rfl ⟨rfl, rfl⟩
  · go_enter Try.func21, Try.ntmps21
    go_wp2
    exact bodyPost_ret (v := .agg #[.int .i64 1, .int .i64 1]) (by simp [results, Try.results21, go_sem]) rfl ⟨rfl, rfl⟩
set_option maxRecDepth 100000 in
set_option maxHeartbeats 1000000 in
theorem event_any (k v : Int) (b : Bool) (w : World) :
    Calls Try.prog 14 #[.agg #[.int .i64 k, .int .i64 v, .bool b]] w fun e w' => e = .returned (evtV (evt k v b)) ∧ Below w.heap.size w w' := by
  by_cases h1 : k = 1
  · subst h1
    cases b
    · go_enter Try.func14, Try.ntmps14
      go_wp2_with (go_at_call 21; refine (refIf_any _ _).mono ?_; rintro e w' ⟨rfl, hw⟩; subst hw)
      exact bodyPost_ret (v := .tuple #[.agg #[.int .i64 1, .int .i64 0], .bool true]) (by simp [results, Try.results14, go_sem]) rfl ⟨rfl, (((Below.refl _ _).alloc (Nat.le_refl _) _).alloc (by simp) _).alloc (by simp; omega) _⟩
    · go_enter Try.func14, Try.ntmps14
      go_wp2_with (go_at_call 21; refine (refIf_any _ _).mono ?_; rintro e w' ⟨rfl, hw⟩; subst hw)
      exact bodyPost_ret (v := .tuple #[.agg #[.int .i64 1, .int .i64 1], .bool true]) (by simp [results, Try.results14, go_sem]) rfl ⟨rfl, (((Below.refl _ _).alloc (Nat.le_refl _) _).alloc (by simp) _).alloc (by simp; omega) _⟩
  · have hk1 : (k == 1) = false := by simp [h1]
    by_cases h2 : k = 2
    · subst h2
      go_enter Try.func14, Try.ntmps14
      go_wp2_with (go_at_call 22; refine (refAt_any _ _).mono ?_; rintro e w' ⟨rfl, hw⟩; subst hw)
      exact bodyPost_ret (v := .tuple #[.agg #[.int .i64 2, .int .i64 v], .bool true]) (by simp [results, Try.results14, go_sem]) rfl ⟨rfl, (((Below.refl _ _).alloc (Nat.le_refl _) _).alloc (by simp) _).alloc (by simp; omega) _⟩
    · have hk2 : (k == 2) = false := by simp [h2]
      by_cases h3 : k = 3
      · subst h3
        go_enter Try.func14, Try.ntmps14
        go_wp2_with (go_at_call 23; refine (refOp_any _ _).mono ?_; rintro e w' ⟨rfl, hw⟩; subst hw)
        exact bodyPost_ret (v := .tuple #[.agg #[.int .i64 3, .int .i64 v], .bool true]) (by simp [results, Try.results14, go_sem]) rfl ⟨rfl, (((Below.refl _ _).alloc (Nat.le_refl _) _).alloc (by simp) _).alloc (by simp; omega) _⟩
      · have hk3 : (k == 3) = false := by simp [h3]
        have hev : evt k v b = none := by simp [evt, h1, h2, h3]
        have HE : Hid _ := hev
        clear hev h1 h2 h3
        go_enter Try.func14, Try.ntmps14
        go_wp2
        exact bodyPost_ret (v := .tuple #[.agg #[.int .i64 0, .int .i64 0], .bool false]) (by simp [results, Try.results14, go_sem]) rfl ⟨by rw [HE.out]; rfl, ((Below.refl _ _).alloc (Nat.le_refl _) _).alloc (by simp) _⟩

def stC (l : List (Int × Int × Bool)) : List Value := l.flatMap fun e => [.int .i64 e.1, .int .i64 e.2.1, .bool e.2.2]
theorem stC_len (l : List (Int × Int × Bool)) : (stC l).length = l.length * 3 := by
  induction l with
  | nil => rfl
  | cons e l ih => simp only [stC, List.flatMap_cons, List.length_append] at ih ⊢; rw [ih]; simp; omega
theorem stC_at (l : List (Int × Int × Bool)) (i : Nat) (e : Int × Int × Bool) (h : l[i]? = some e) : (stC l)[i * 3]? = some (.int .i64 e.1) ∧ (stC l)[i * 3 + 1]? = some (.int .i64 e.2.1) ∧ (stC l)[i * 3 + 2]? = some (.bool e.2.2) := by
  induction l generalizing i with
  | nil => simp at h
  | cons x l ih =>
    cases i with
    | zero => simp at h; subst h; exact ⟨rfl, rfl, rfl⟩
    | succ i =>
      have := ih i (by simpa using h)
      rw [show (i + 1) * 3 = i * 3 + 1 + 1 + 1 by omega]
      exact this
/-- what a script logs -/
def lg (l : List (Int × Int × Bool)) : List (Int × Int) := l.filterMap fun e => evt e.1 e.2.1 e.2.2
theorem lg_len (l : List (Int × Int × Bool)) : (lg l).length ≤ l.length := List.length_filterMap_le _ _
theorem lg_succ (l : List (Int × Int × Bool)) (i : Nat) (e : Int × Int × Bool) (h : l[i]? = some e) : lg (l.take (i + 1)) = lg (l.take i) ++ (evt e.1 e.2.1 e.2.2).toList := by
  have hi : i < l.length := (List.getElem?_eq_some_iff.1 h).1
  have he : l[i] = e := by rw [List.getElem?_eq_getElem hi] at h; exact Option.some.inj h
  rw [List.take_succ_eq_append_getElem hi, he]
  simp only [lg, List.filterMap_append, List.filterMap_cons, List.filterMap_nil]
  cases evt e.1 e.2.1 e.2.2 <;> rfl
theorem evC_app (a b : List (Int × Int)) : evC (a ++ b) = evC a ++ evC b := by simp [evC]
theorem owns_below {w w' : World} {base : Nat} {e : TypeId} {size : Nat} {v : Value} {n : Nat} {xs : List Value} (h : w.ownsRow base e size v n xs) (hb : Below w.heap.size w w') : w'.ownsRow base e size v n xs :=
  h.kept (row := none) ⟨hb.os, hb.tape, hb.output, hb.size, fun k hk _ => hb.block k hk⟩ (by cases hv : v.ownBlock <;> simp)
theorem info37 : (Try.prog.info? 36).map (fun i => (i.zero, i.size, i.bytes)) = some (some (.agg #[.int .i64 0, .int .i64 0]), 2, 16) := by kernel_rfl
set_option maxRecDepth 100000 in
set_option maxHeartbeats 1000000 in
theorem logs_any (vl : Value) (l : List (Int × Int × Bool)) (w : World) (ha : Sl w vl 3 (stC l) l.length) :
    Calls Try.prog 5 #[vl] w fun e w' => ∃ v, e = .returned v ∧ w'.ownsRow w.heap.size 36 2 v (lg (l.take 2000)).length (evC (lg (l.take 2000))) ∧ Below w.heap.size w w' := by
  obtain ⟨_, aa, ca, rfl, _, ha⟩ := ha
  obtain ⟨i0, hi, hz0, hz1, hz2⟩ := info_parts info37
  have HA : Hid _ := ha
  have HI : Hid _ := And.intro hi (And.intro hz0 (And.intro hz1 hz2))
  clear ha hi hz0 hz1 hz2
  generalize hn : l.length = n at *
  have HL : Hid _ := hn
  clear hn
  go_enter Try.func5, Try.ntmps5
  go_wp2
  go_loopw [3, 4] (fun v iv wr => ∃ i : Nat, i ≤ n ∧ i ≤ 2000 ∧ iv = .int .i64 i ∧ wr.ownsRow w.heap.size 36 2 v (lg (l.take i)).length (evC (lg (l.take i))) ∧ Below w.heap.size w wr) (fun _ iv _ => 2000 - (intOf iv).toNat)
  case atStart => exact ⟨0, Nat.zero_le _, by omega, rfl, World.ownsRow_nil _ _ _ _, Below.refl _ _⟩
  case round =>
    obtain ⟨i, hin, hi2, rfl, hown, hbel⟩ := hrel
    by_cases hlt : i < n ∧ i < 2000
    · obtain ⟨hlt, hl2⟩ := hlt
      rcases HA.out with h0 | ⟨ba, oa, rfl, hca⟩
      · omega
      obtain ⟨⟨xk, xv, xb⟩, e1⟩ : ∃ x, l[i]? = some x := ⟨_, List.getElem?_eq_getElem (by rw [HL.out]; exact hlt)⟩
      obtain ⟨p1, p2, p3⟩ := stC_at l i _ e1
      have c1 := hca _ _ p1
      have c2 := hca _ _ p2
      have c3 := hca _ _ p3
      simp only at c1 c2 c3
      rw [← Nat.add_assoc] at c2 c3
      have d1 : wr.cell? ⟨ba, oa + i * 3, none⟩ = some (.int .i64 xk) := (hbel.cell (World.block_lt_of_cell? w _ c1)).trans c1
      have d2 : wr.cell? ⟨ba, oa + i * 3 + 1, none⟩ = some (.int .i64 xv) := (hbel.cell (World.block_lt_of_cell? w _ c2)).trans c2
      have d3 : wr.cell? ⟨ba, oa + i * 3 + 2, none⟩ = some (.bool xb) := (hbel.cell (World.block_lt_of_cell? w _ c3)).trans c3
      have hst := lg_succ l i _ e1
      have hbd := lg_len (l.take i)
      have hti : (l.take i).length = i := by rw [List.length_take, HL.out]; omega
      rw [hti] at hbd
      have HST : Hid _ := hst
      have HB : Hid _ := hbel
      have HO : Hid (wr.ownsRow w.heap.size 36 2 _ _ _) := hown
      clear hca p1 p2 p3 c1 c2 c3 hst hti hbel e1 HA hown
      generalize lg (l.take i) = acc at *
      cases ho : evt xk xv xb with
      | none =>
        have HE : Hid (∀ w, Calls Try.prog 14 #[.agg #[.int .i64 xk, .int .i64 xv, .bool xb]] w fun e w' => e = .returned (.tuple #[.agg #[.int .i64 0, .int .i64 0], .bool false]) ∧ Below w.heap.size w w') := by
          have := event_any xk xv xb
          rw [ho] at this
          exact this
        have hst : lg (l.take (i + 1)) = acc := by rw [HST.out, ho]; simp
        have HS2 : Hid _ := hst
        clear ho HST hst
        go_wp2_with (go_at_call 14; refine (HE.out _).mono ?_; rintro e w' ⟨rfl, hb⟩)
        go_roundw
        case rel =>
          refine ⟨i + 1, by omega, by omega, by go_num, ?_, ?_⟩
          · rw [HS2.out]
            exact (owns_below HO.out hb).alloc _
          · exact (HB.out.trans (hb.mono HB.out.size)).alloc (by have := HB.out.size; have := hb.size; omega) _
        case measure => simp [intOf]; omega
      | some x =>
        obtain ⟨x1, x2⟩ := x
        have HE : Hid (∀ w, Calls Try.prog 14 #[.agg #[.int .i64 xk, .int .i64 xv, .bool xb]] w fun e w' => e = .returned (.tuple #[.agg #[.int .i64 x1, .int .i64 x2], .bool true]) ∧ Below w.heap.size w w') := by
          have := event_any xk xv xb
          rw [ho] at this
          exact this
        have hst : lg (l.take (i + 1)) = acc ++ [(x1, x2)] := by rw [HST.out, ho]; rfl
        have HS2 : Hid _ := hst
        clear ho HST hst
        go_wp2_with (first | (go_at_call 14; refine (HE.out _).mono ?_; rintro e w' ⟨rfl, hb⟩) | (at_builtin; refine wpList_append_own _ rfl _ _ 26 rfl w.heap.size 36 i0 (.agg #[.int .i64 0, .int .i64 0]) 2 16 Try.underlying26 HI.out.1 HI.out.2.1 HI.out.2.2.1 HI.out.2.2.2 rfl (by decide) _ acc.length (evC acc) rfl (((owns_below HO.out hb).alloc _).alloc _) ⟨w'.heap.size + 1, 0, none⟩ 1 1 [.int .i64 x1, .int .i64 x2] rfl rfl ?_ ?_ ?_ ?_ ?_ ?_))
        · intro j u hj
          match j, hj with
          | 0, hj => simp at hj; subst hj; simp [Addr.add]
          | 1, hj => simp at hj; subst hj; simp [Addr.add]
        · intro u hu
          simp at hu
          rcases hu with rfl | rfl <;> rfl
        · unfold maxLen; omega
        · omega
        · have := HB.out.size; have := hb.size; simp; omega
        · intro v' w1 hown' hgrow hnn
          have hbw : Below w.heap.size w w' := HB.out.trans (hb.mono HB.out.size)
          have R2 : Below w.heap.size w w1 := ((hbw.alloc hbw.size _).alloc (by have := hbw.size; simp; omega) _).grown hgrow (by have := hbw.size; simp; omega) (fun r hr => (HO.out.lt r hr).1)
          have R1 : w1.ownsRow w.heap.size 36 2 v' (lg (l.take (i + 1))).length (evC (lg (l.take (i + 1)))) := by
            rw [HS2.out, List.length_append, evC_app]
            exact hown'
          have HR1 : Hid _ := R1
          have HR2 : Hid _ := R2
          clear hown' hgrow R1 R2 hnn hbw
          go_wp2
          go_roundw
          case rel => exact ⟨i + 1, by omega, by omega, by go_num, HR1.out, HR2.out⟩
          case measure => simp [intOf]; omega
    · have HO : Hid (wr.ownsRow w.heap.size 36 2 _ _ _) := hown
      have HB : Hid _ := hbel
      have hfin : l.take i = l.take 2000 := by
        by_cases h : i = 2000
        · rw [h]
        · rw [List.take_of_length_le (by rw [HL.out]; omega), List.take_of_length_le (by rw [HL.out]; omega)]
      have HF : Hid _ := hfin
      clear hown hbel HA HI hfin
      by_cases h2 : i < n
      · have h3 : i = 2000 := by omega
        subst h3
        go_wp2
        go_ret
        refine ⟨_, rfl, ?_, HB.out⟩
        exact HO.out
      · have h3 : ¬ (i : Int) < (n : Int) := by omega
        clear hlt
        go_wp2
        go_ret
        refine ⟨_, rfl, ?_, HB.out⟩
        rw [← HF.out]
        exact HO.out
end Go.Proofs.Ytfobiejgkdbidab
