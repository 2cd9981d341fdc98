import Derived.Test.YtfobiejgkdbidabRows
import Derived.Test.YtfobiejgkdbidabPin
namespace Go.Proofs.Ytfobiejgkdbidab
set_option linter.unusedSimpArgs false
open Go.ChangeShapes Go.WideShapes Go.ChangeAt Go.RowKit Go.Pin
/-- the cells of a list of events -/
def evC (l : List (Int × Int)) : List Value := l.flatMap fun e => [.int .i64 e.1, .int .i64 e.2]
theorem evC_len (l : List (Int × Int)) : (evC l).length = l.length * 2 := by
  induction l with
  | nil => rfl
  | cons e l ih => simp only [evC, List.flatMap_cons, List.length_append] at ih ⊢; rw [ih]; simp; omega
theorem evC_at (l : List (Int × Int)) (i : Nat) (e : Int × Int) (h : l[i]? = some e) : (evC l)[i * 2]? = some (.int .i64 e.1) ∧ (evC l)[i * 2 + 1]? = some (.int .i64 e.2) := by
  induction l generalizing i with
  | nil => simp at h
  | cons x l ih =>
    cases i with
    | zero => simp at h; subst h; exact ⟨rfl, rfl⟩
    | succ i =>
      have := ih i (by simpa using h)
      rw [show (i + 1) * 2 = i * 2 + 1 + 1 by omega]
      exact this
theorem drewN_add (w : World) (n m : Nat) : (w.drewN n).drewN m = w.drewN (n + m) := by
  simp [World.drewN, Nat.add_assoc]
/-- a slice of n elements of sz cells: what it holds -/
def Sl (w : World) (v : Value) (sz : Nat) (cs : List Value) (n : Nat) : Prop :=
  cs.length = n * sz ∧ ∃ a c, v = .slice a n c ∧ n ≤ c ∧ (n = 0 ∨ ∃ b o, a = some ⟨b, o, none⟩ ∧ ∀ j x, cs[j]? = some x → w.cell? ⟨b, o + j, none⟩ = some x)
set_option maxRecDepth 100000 in
set_option maxHeartbeats 1000000 in
theorem events_any (va vb : Value) (la lb : List (Int × Int)) (w : World) (ha : Sl w va 2 (evC la) la.length) (hb : Sl w vb 2 (evC lb) lb.length) (hl : la.length ≤ 1000000000) :
    Calls Try.prog 8 #[va, vb] w fun e w' => e = .returned (.bool (la == lb)) ∧ ∃ n, w' = w.drewN n := by
  obtain ⟨_, aa, ca, rfl, _, ha⟩ := ha
  obtain ⟨_, ab, cb, rfl, _, hb⟩ := hb
  by_cases hlen : la.length = lb.length
  · have h1 : ((la.length : Int) != (lb.length : Int)) = false := by simp; omega
    have HA : Hid _ := ha
    have HB : Hid _ := hb
    have HN : Hid _ := hlen
    rw [← hlen] at h1 HB ⊢
    clear ha hb hlen
    generalize hn : la.length = n at *
    have HL : Hid _ := hn
    clear hn
    go_enter Try.func8, Try.ntmps8
    go_wp2
    go_loopw [5] (fun v wr => ∃ i m : Nat, i ≤ n ∧ v = .int .i64 i ∧ wr = w.drewN m ∧ ∀ j, j < i → la[j]? = lb[j]?) (fun v _ => n - (intOf v).toNat)
    case atStart => exact ⟨0, 0, Nat.zero_le _, rfl, rfl, fun j hj => by omega⟩
    case round =>
      obtain ⟨i, m, hi, rfl, rfl, hall⟩ := hrel
      have HALL : Hid _ := hall
      clear hall
      by_cases hlt : i < n
      · rcases HA.out with h0 | ⟨ba, oa, rfl, hca⟩
        · omega
        rcases HB.out with h0 | ⟨bb, ob, rfl, hcb⟩
        · omega
        obtain ⟨⟨xk, xv⟩, e1⟩ : ∃ x, la[i]? = some x := ⟨_, List.getElem?_eq_getElem (by rw [HL.out]; exact hlt)⟩
        obtain ⟨⟨yk, yv⟩, e2⟩ : ∃ x, lb[i]? = some x := ⟨_, List.getElem?_eq_getElem (by rw [← HN.out]; exact hlt)⟩
        obtain ⟨p1, p2⟩ := evC_at la i _ e1
        obtain ⟨q1, q2⟩ := evC_at lb i _ e2
        have c1 := hca _ _ p1
        have c2 := hca _ _ p2
        have c3 := hcb _ _ q1
        have c4 := hcb _ _ q2
        have E1 : Hid _ := e1
        have E2 : Hid _ := e2
        clear hca hcb p1 p2 q1 q2 e1 e2 HA HB
        simp only at c1 c2 c3 c4
        rw [← Nat.add_assoc] at c2 c4
        by_cases hk : xk = yk
        · by_cases hv : xv = yv
          · subst hk
            subst hv
            go_wp2
            go_quiet (fail)
            go_wp2
            go_roundw
            case rel =>
              refine ⟨i + 1, _, by omega, by go_num, rfl, fun j hj => ?_⟩
              by_cases hji : j = i
              · subst hji; rw [E1.out, E2.out]
              · exact HALL.out j (by omega)
            case measure => simp [intOf]; omega
          · have hv' : (xv == yv) = false := by simp [hv]
            subst hk
            have hne : (la == lb) = false := by
              simp
              intro e
              have := E1.out
              rw [e, E2.out] at this
              simp only [Option.some.injEq, Prod.mk.injEq] at this
              exact hv this.2.symm
            clear hv
            go_wp2
            go_quiet (fail)
            go_wp2
            go_ret
            exact ⟨by rw [hne]; rfl, _, drewN_add _ _ _⟩
        · have hk' : (xk == yk) = false := by simp [hk]
          have hne : (la == lb) = false := by
            simp
            intro e
            have := E1.out
            rw [e, E2.out] at this
            simp only [Option.some.injEq, Prod.mk.injEq] at this
            exact hk this.1.symm
          clear hk
          go_wp2
          go_quiet (fail)
          go_wp2
          go_ret
          exact ⟨by rw [hne]; rfl, _, drewN_add _ _ _⟩
      · have hi' : i = n := by omega
        subst hi'
        go_wp2
        go_ret
        refine ⟨?_, _, rfl⟩
        have : la = lb := by
          apply List.ext_getElem?
          intro j
          by_cases hj : j < i
          · exact HALL.out j hj
          · rw [List.getElem?_eq_none (by rw [HL.out]; omega), List.getElem?_eq_none (by rw [← HN.out]; omega)]
        rw [this]
        simp
  · have h1 : ((la.length : Int) != (lb.length : Int)) = true := by simp; omega
    have h2 : (la == lb) = false := by
      simp
      intro e
      exact hlen (by rw [e])
    rw [h2]
    clear ha hb hl
    go_enter Try.func8, Try.ntmps8
    go_wp2
    go_ret
    exact ⟨rfl, 0, rfl⟩

/-- the rows of like ones -/
def rnStep (acc : List (Int × Int × Int)) (e : Int × Int) : List (Int × Int × Int) :=
  match acc.getLast? with
  | some (k, v, t) => if k = e.1 ∧ v = e.2 then acc.dropLast ++ [(k, v, t + 1)] else acc ++ [(e.1, e.2, 1)]
  | none => [(e.1, e.2, 1)]
def rn (l : List (Int × Int)) : List (Int × Int × Int) := l.foldl rnStep []
def rnC (l : List (Int × Int × Int)) : List Value := l.flatMap fun e => [.int .i64 e.1, .int .i64 e.2.1, .int .i64 e.2.2]
theorem rnC_len (l : List (Int × Int × Int)) : (rnC l).length = l.length * 3 := by
  induction l with
  | nil => rfl
  | cons e l ih => simp only [rnC, List.flatMap_cons, List.length_append] at ih ⊢; rw [ih]; simp; omega
theorem rnC_app (a b : List (Int × Int × Int)) : rnC (a ++ b) = rnC a ++ rnC b := by simp [rnC]
theorem rn_take_succ (l : List (Int × Int)) (i : Nat) (e : Int × Int) (h : l[i]? = some e) : rn (l.take (i + 1)) = rnStep (rn (l.take i)) e := by
  have hi : i < l.length := (List.getElem?_eq_some_iff.1 h).1
  rw [List.take_succ_eq_append_getElem hi]
  have : l[i] = e := by rw [List.getElem?_eq_getElem hi] at h; exact Option.some.inj h
  rw [this]
  simp [rn, List.foldl_append]
theorem rnStep_new (e : Int × Int) : rnStep [] e = [(e.1, e.2, 1)] := rfl
theorem rnStep_like (q : List (Int × Int × Int)) (k v t : Int) : rnStep (q ++ [(k, v, t)]) (k, v) = q ++ [(k, v, t + 1)] := by
  simp [rnStep]
theorem rnStep_unlike (q : List (Int × Int × Int)) (k v t : Int) (e : Int × Int) (h : ¬ (k = e.1 ∧ v = e.2)) : rnStep (q ++ [(k, v, t)]) e = q ++ [(k, v, t)] ++ [(e.1, e.2, 1)] := by
  simp [rnStep, h]
theorem rn_bound (l : List (Int × Int)) : (rn l).length ≤ l.length ∧ ∀ x ∈ rn l, 1 ≤ x.2.2 ∧ x.2.2 ≤ l.length := by
  have key : ∀ (n : Nat) (l : List (Int × Int)), l.length = n → (rn l).length ≤ l.length ∧ ∀ x ∈ rn l, 1 ≤ x.2.2 ∧ x.2.2 ≤ l.length := by
    intro n
    induction n with
    | zero => intro l h; rw [List.length_eq_zero_iff.1 h]; simp [rn]
    | succ n ih =>
      intro l h
      have hn : n < l.length := by omega
      have hl : l = l.take n ++ [l[n]] := by
        rw [← List.take_succ_eq_append_getElem hn, List.take_of_length_le (by omega)]
      have h1 := ih (l.take n) (by simp; omega)
      have h2 := rn_take_succ l n l[n] (List.getElem?_eq_getElem hn)
      rw [List.take_of_length_le (show l.length ≤ n + 1 by omega)] at h2
      rw [h2]
      generalize rn (l.take n) = acc at *
      have hlen : (l.take n).length = n := by simp; omega
      rw [hlen] at h1
      rcases List.eq_nil_or_concat acc with rfl | ⟨q, ⟨k, v, t⟩, rfl⟩
      · rw [rnStep_new]
        refine ⟨by simp; omega, ?_⟩
        intro x hx
        simp at hx
        subst hx
        exact ⟨by simp, by simp; omega⟩
      · rw [List.concat_eq_append] at h1 ⊢
        have ht := h1.2 (k, v, t) (by simp)
        have hq : ∀ x ∈ q, 1 ≤ x.2.2 ∧ x.2.2 ≤ (n : Int) := fun x hx => h1.2 x (by simp [hx])
        have hql : q.length + 1 ≤ n := by simpa using h1.1
        by_cases hc : k = l[n].1 ∧ v = l[n].2
        · have : l[n] = (k, v) := by rw [hc.1, hc.2]
          rw [this, rnStep_like]
          refine ⟨by simp; omega, ?_⟩
          intro x hx
          rw [List.mem_append, List.mem_singleton] at hx
          rcases hx with hx | rfl
          · have := hq x hx; omega
          · simp only at ht ⊢; omega
        · rw [rnStep_unlike _ _ _ _ _ hc]
          refine ⟨by simp; omega, ?_⟩
          intro x hx
          rw [List.mem_append, List.mem_append, List.mem_singleton, List.mem_singleton] at hx
          rcases hx with (hx | rfl) | rfl
          · have := hq x hx; omega
          · simp only at ht ⊢; omega
          · exact ⟨by simp, by simp; omega⟩
  exact key _ l rfl
theorem info55 : (Try.prog.info? 38).map (fun i => (i.zero, i.size, i.bytes)) = some (some (.agg #[.int .i64 0, .int .i64 0, .int .i64 0]), 3, 24) := by kernel_rfl
theorem rnC_at (l : List (Int × Int × Int)) (i : Nat) (e : Int × Int × Int) (h : l[i]? = some e) : (rnC l)[i * 3]? = some (.int .i64 e.1) ∧ (rnC l)[i * 3 + 1]? = some (.int .i64 e.2.1) ∧ (rnC l)[i * 3 + 2]? = some (.int .i64 e.2.2) := by
  induction l generalizing i with
  | nil => simp at h
  | cons x l ih =>
    cases i with
    | zero => simp at h; subst h; exact ⟨rfl, rfl, rfl⟩
    | succ i =>
      have := ih i (by simpa using h)
      rw [show (i + 1) * 3 = i * 3 + 1 + 1 + 1 by omega]
      exact this
set_option maxRecDepth 100000 in
set_option maxHeartbeats 1000000 in
theorem runs_any (va vb : Value) (la lb : List (Int × Int × Int)) (w : World) (ha : Sl w va 3 (rnC la) la.length) (hb : Sl w vb 3 (rnC lb) lb.length) (hl : la.length ≤ 1000000000) :
    Calls Try.prog 9 #[va, vb] w fun e w' => e = .returned (.bool (la == lb)) ∧ ∃ n, w' = w.drewN n := by
  obtain ⟨_, aa, ca, rfl, _, ha⟩ := ha
  obtain ⟨_, ab, cb, rfl, _, hb⟩ := hb
  by_cases hlen : la.length = lb.length
  · have h1 : ((la.length : Int) != (lb.length : Int)) = false := by simp; omega
    have HA : Hid _ := ha
    have HB : Hid _ := hb
    have HN : Hid _ := hlen
    rw [← hlen] at h1 HB ⊢
    clear ha hb hlen
    generalize hn : la.length = n at *
    have HL : Hid _ := hn
    clear hn
    go_enter Try.func9, Try.ntmps9
    go_wp2
    go_loopw [5] (fun v wr => ∃ i m : Nat, i ≤ n ∧ v = .int .i64 i ∧ wr = w.drewN m ∧ ∀ j, j < i → la[j]? = lb[j]?) (fun v _ => n - (intOf v).toNat)
    case atStart => exact ⟨0, 0, Nat.zero_le _, rfl, rfl, fun j hj => by omega⟩
    case round =>
      obtain ⟨i, m, hi, rfl, rfl, hall⟩ := hrel
      have HALL : Hid _ := hall
      clear hall
      by_cases hlt : i < n
      · rcases HA.out with h0 | ⟨ba, oa, rfl, hca⟩
        · omega
        rcases HB.out with h0 | ⟨bb, ob, rfl, hcb⟩
        · omega
        obtain ⟨⟨xk, xv, xt⟩, e1⟩ : ∃ x, la[i]? = some x := ⟨_, List.getElem?_eq_getElem (by rw [HL.out]; exact hlt)⟩
        obtain ⟨⟨yk, yv, yt⟩, e2⟩ : ∃ x, lb[i]? = some x := ⟨_, List.getElem?_eq_getElem (by rw [← HN.out]; exact hlt)⟩
        obtain ⟨p1, p2, p3⟩ := rnC_at la i _ e1
        obtain ⟨q1, q2, q3⟩ := rnC_at lb i _ e2
        have c1 := hca _ _ p1
        have c2 := hca _ _ p2
        have c3 := hca _ _ p3
        have c4 := hcb _ _ q1
        have c5 := hcb _ _ q2
        have c6 := hcb _ _ q3
        have E1 : Hid _ := e1
        have E2 : Hid _ := e2
        clear hca hcb p1 p2 p3 q1 q2 q3 e1 e2 HA HB
        simp only at c1 c2 c3 c4 c5 c6
        rw [← Nat.add_assoc] at c2 c3 c5 c6
        by_cases heq : xk = yk ∧ xv = yv ∧ xt = yt
        · obtain ⟨rfl, rfl, rfl⟩ := heq
          go_wp2
          go_quiet (fail)
          go_wp2
          go_roundw
          case rel =>
            refine ⟨i + 1, _, by omega, by go_num, rfl, fun j hj => ?_⟩
            by_cases hji : j = i
            · subst hji; rw [E1.out, E2.out]
            · exact HALL.out j (by omega)
          case measure => simp [intOf]; omega
        · have hne : (la == lb) = false := by
            simp
            intro e
            have := E1.out
            rw [e, E2.out] at this
            simp only [Option.some.injEq, Prod.mk.injEq] at this
            exact heq ⟨this.1.symm, this.2.1.symm, this.2.2.symm⟩
          by_cases hk : xk = yk
          · by_cases hv : xv = yv
            · have ht : (xt == yt) = false := by simp; omega
              subst hk
              subst hv
              clear heq
              go_wp2
              go_quiet (fail)
              go_wp2
              go_ret
              exact ⟨by rw [hne]; rfl, _, drewN_add _ _ _⟩
            · have hv' : (xv == yv) = false := by simp [hv]
              subst hk
              clear hv heq
              go_wp2
              go_quiet (fail)
              go_wp2
              go_ret
              exact ⟨by rw [hne]; rfl, _, drewN_add _ _ _⟩
          · have hk' : (xk == yk) = false := by simp [hk]
            clear hk heq
            go_wp2
            go_quiet (fail)
            go_wp2
            go_ret
            exact ⟨by rw [hne]; rfl, _, drewN_add _ _ _⟩
      · have hi' : i = n := by omega
        subst hi'
        go_wp2
        go_ret
        refine ⟨?_, _, rfl⟩
        have : la = lb := by
          apply List.ext_getElem?
          intro j
          by_cases hj : j < i
          · exact HALL.out j hj
          · rw [List.getElem?_eq_none (by rw [HL.out]; omega), List.getElem?_eq_none (by rw [← HN.out]; omega)]
        rw [this]
        simp
  · have h1 : ((la.length : Int) != (lb.length : Int)) = true := by simp; omega
    have h2 : (la == lb) = false := by
      simp
      intro e
      exact hlen (by rw [e])
    rw [h2]
    clear ha hb hl
    go_enter Try.func9, Try.ntmps9
    go_wp2
    go_ret
    exact ⟨rfl, 0, rfl⟩

end Go.Proofs.Ytfobiejgkdbidab
