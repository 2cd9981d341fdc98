import Derived.Test.YtigapdfefapdgaaRows
import Derived.Test.YtigapdfefapdgaaPin
namespace Go.Proofs.Ytigapdfefapdgaa
set_option linter.unusedSimpArgs false
open Go.ChangeShapes Go.WideShapes Go.ChangeAt Go.RowKit Go.Pin
/-- the cells of a list of events -/
def evC (l : List (Int × Int)) : List Value := l.flatMap fun e => [.int .i64 e.1, .int .i64 e.2]
theorem evC_len (l : List (Int × Int)) : (evC l).length = l.length * 2 := by
  induction l with
  | nil => rfl
  | cons e l ih => simp only [evC, List.flatMap_cons, List.length_append] at ih ⊢; rw [ih]; simp; omega
theorem evC_at (l : List (Int × Int)) (i : Nat) (e : Int × Int) (h : l[i]? = some e) : (evC l)[i * 2]? = some (.int .i64 e.1) ∧ (evC l)[i * 2 + 1]? = some (.int .i64 e.2) := by
  induction l generalizing i with
  | nil => simp at h
  | cons x l ih =>
    cases i with
    | zero => simp at h; subst h; exact ⟨rfl, rfl⟩
    | succ i =>
      have := ih i (by simpa using h)
      rw [show (i + 1) * 2 = i * 2 + 1 + 1 by omega]
      exact this
theorem drewN_add (w : World) (n m : Nat) : (w.drewN n).drewN m = w.drewN (n + m) := by
  simp [World.drewN, Nat.add_assoc]
/-- a slice of n elements of sz cells: what it holds -/
def Sl (w : World) (v : Value) (sz : Nat) (cs : List Value) (n : Nat) : Prop :=
  cs.length = n * sz ∧ ∃ a c, v = .slice a n c ∧ n ≤ c ∧ (n = 0 ∨ ∃ b o, a = some ⟨b, o, none⟩ ∧ ∀ j x, cs[j]? = some x → w.cell? ⟨b, o + j, none⟩ = some x)
set_option maxRecDepth 100000 in
set_option maxHeartbeats 1000000 in
theorem events_any (va vb : Value) (la lb : List (Int × Int)) (w : World) (ha : Sl w va 2 (evC la) la.length) (hb : Sl w vb 2 (evC lb) lb.length) (hl : la.length ≤ 1000000000) :
    Calls Try.prog 19 #[va, vb] w fun e w' => e = .returned (.bool (la == lb)) ∧ ∃ n, w' = w.drewN n := by
  obtain ⟨_, aa, ca, rfl, _, ha⟩ := ha
  obtain ⟨_, ab, cb, rfl, _, hb⟩ := hb
  by_cases hlen : la.length = lb.length
  · have h1 : ((la.length : Int) != (lb.length : Int)) = false := by simp; omega
    have HA : Hid _ := ha
    have HB : Hid _ := hb
    have HN : Hid _ := hlen
    rw [← hlen] at h1 HB ⊢
    clear ha hb hlen
    generalize hn : la.length = n at *
    have HL : Hid _ := hn
    clear hn
    go_enter Try.func19, Try.ntmps19
    go_wp2
    go_loopw [5] (fun v wr => ∃ i m : Nat, i ≤ n ∧ v = .int .i64 i ∧ wr = w.drewN m ∧ ∀ j, j < i → la[j]? = lb[j]?) (fun v _ => n - (intOf v).toNat)
    case atStart => exact ⟨0, 0, Nat.zero_le _, rfl, rfl, fun j hj => by omega⟩
    case round =>
      obtain ⟨i, m, hi, rfl, rfl, hall⟩ := hrel
      have HALL : Hid _ := hall
      clear hall
      by_cases hlt : i < n
      · rcases HA.out with h0 | ⟨ba, oa, rfl, hca⟩
        · omega
        rcases HB.out with h0 | ⟨bb, ob, rfl, hcb⟩
        · omega
        obtain ⟨⟨xk, xv⟩, e1⟩ : ∃ x, la[i]? = some x := ⟨_, List.getElem?_eq_getElem (by rw [HL.out]; exact hlt)⟩
        obtain ⟨⟨yk, yv⟩, e2⟩ : ∃ x, lb[i]? = some x := ⟨_, List.getElem?_eq_getElem (by rw [← HN.out]; exact hlt)⟩
        obtain ⟨p1, p2⟩ := evC_at la i _ e1
        obtain ⟨q1, q2⟩ := evC_at lb i _ e2
        have c1 := hca _ _ p1
        have c2 := hca _ _ p2
        have c3 := hcb _ _ q1
        have c4 := hcb _ _ q2
        have E1 : Hid _ := e1
        have E2 : Hid _ := e2
        clear hca hcb p1 p2 q1 q2 e1 e2 HA HB
        simp only at c1 c2 c3 c4
        rw [← Nat.add_assoc] at c2 c4
        by_cases hk : xk = yk
        · by_cases hv : xv = yv
          · subst hk
            subst hv
            go_wp2
            go_quiet (fail)
            go_wp2
            go_roundw
            case rel =>
              refine ⟨i + 1, _, by omega, by go_num, rfl, fun j hj => ?_⟩
              by_cases hji : j = i
              · subst hji; rw [E1.out, E2.out]
              · exact HALL.out j (by omega)
            case measure => simp [intOf]; omega
          · have hv' : (xv == yv) = false := by simp [hv]
            subst hk
            have hne : (la == lb) = false := by
              simp
              intro e
              have := E1.out
              rw [e, E2.out] at this
              simp only [Option.some.injEq, Prod.mk.injEq] at this
              exact hv this.2.symm
            clear hv
            go_wp2
            go_quiet (fail)
            go_wp2
            go_ret
            exact ⟨by rw [hne]; rfl, _, drewN_add _ _ _⟩
        · have hk' : (xk == yk) = false := by simp [hk]
          have hne : (la == lb) = false := by
            simp
            intro e
            have := E1.out
            rw [e, E2.out] at this
            simp only [Option.some.injEq, Prod.mk.injEq] at this
            exact hk this.1.symm
          clear hk
          go_wp2
          go_quiet (fail)
          go_wp2
          go_ret
          exact ⟨by rw [hne]; rfl, _, drewN_add _ _ _⟩
      · have hi' : i = n := by omega
        subst hi'
        go_wp2
        go_ret
        refine ⟨?_, _, rfl⟩
        have : la = lb := by
          apply List.ext_getElem?
          intro j
          by_cases hj : j < i
          · exact HALL.out j hj
          · rw [List.getElem?_eq_none (by rw [HL.out]; omega), List.getElem?_eq_none (by rw [← HN.out]; omega)]
        rw [this]
        simp
  · have h1 : ((la.length : Int) != (lb.length : Int)) = true := by simp; omega
    have h2 : (la == lb) = false := by
      simp
      intro e
      exact hlen (by rw [e])
    rw [h2]
    clear ha hb hl
    go_enter Try.func19, Try.ntmps19
    go_wp2
    go_ret
    exact ⟨rfl, 0, rfl⟩

/-- the rows of like ones -/
def rnStep (acc : List (Int × Int × Int)) (e : Int × Int) : List (Int × Int × Int) :=
  match acc.getLast? with
  | some (k, v, t) => if k = e.1 ∧ v = e.2 then acc.dropLast ++ [(k, v, t + 1)] else acc ++ [(e.1, e.2, 1)]
  | none => [(e.1, e.2, 1)]
def rn (l : List (Int × Int)) : List (Int × Int × Int) := l.foldl rnStep []
def rnC (l : List (Int × Int × Int)) : List Value := l.flatMap fun e => [.int .i64 e.1, .int .i64 e.2.1, .int .i64 e.2.2]
theorem rnC_len (l : List (Int × Int × Int)) : (rnC l).length = l.length * 3 := by
  induction l with
  | nil => rfl
  | cons e l ih => simp only [rnC, List.flatMap_cons, List.length_append] at ih ⊢; rw [ih]; simp; omega
theorem rnC_app (a b : List (Int × Int × Int)) : rnC (a ++ b) = rnC a ++ rnC b := by simp [rnC]
theorem rn_take_succ (l : List (Int × Int)) (i : Nat) (e : Int × Int) (h : l[i]? = some e) : rn (l.take (i + 1)) = rnStep (rn (l.take i)) e := by
  have hi : i < l.length := (List.getElem?_eq_some_iff.1 h).1
  rw [List.take_succ_eq_append_getElem hi]
  have : l[i] = e := by rw [List.getElem?_eq_getElem hi] at h; exact Option.some.inj h
  rw [this]
  simp [rn, List.foldl_append]
theorem rnStep_new (e : Int × Int) : rnStep [] e = [(e.1, e.2, 1)] := rfl
theorem rnStep_like (q : List (Int × Int × Int)) (k v t : Int) : rnStep (q ++ [(k, v, t)]) (k, v) = q ++ [(k, v, t + 1)] := by
  simp [rnStep]
theorem rnStep_unlike (q : List (Int × Int × Int)) (k v t : Int) (e : Int × Int) (h : ¬ (k = e.1 ∧ v = e.2)) : rnStep (q ++ [(k, v, t)]) e = q ++ [(k, v, t)] ++ [(e.1, e.2, 1)] := by
  simp [rnStep, h]
theorem rn_bound (l : List (Int × Int)) : (rn l).length ≤ l.length ∧ ∀ x ∈ rn l, 1 ≤ x.2.2 ∧ x.2.2 ≤ l.length := by
  have key : ∀ (n : Nat) (l : List (Int × Int)), l.length = n → (rn l).length ≤ l.length ∧ ∀ x ∈ rn l, 1 ≤ x.2.2 ∧ x.2.2 ≤ l.length := by
    intro n
    induction n with
    | zero => intro l h; rw [List.length_eq_zero_iff.1 h]; simp [rn]
    | succ n ih =>
      intro l h
      have hn : n < l.length := by omega
      have hl : l = l.take n ++ [l[n]] := by
        rw [← List.take_succ_eq_append_getElem hn, List.take_of_length_le (by omega)]
      have h1 := ih (l.take n) (by simp; omega)
      have h2 := rn_take_succ l n l[n] (List.getElem?_eq_getElem hn)
      rw [List.take_of_length_le (show l.length ≤ n + 1 by omega)] at h2
      rw [h2]
      generalize rn (l.take n) = acc at *
      have hlen : (l.take n).length = n := by simp; omega
      rw [hlen] at h1
      rcases List.eq_nil_or_concat acc with rfl | ⟨q, ⟨k, v, t⟩, rfl⟩
      · rw [rnStep_new]
        refine ⟨by simp; omega, ?_⟩
        intro x hx
        simp at hx
        subst hx
        exact ⟨by simp, by simp; omega⟩
      · rw [List.concat_eq_append] at h1 ⊢
        have ht := h1.2 (k, v, t) (by simp)
        have hq : ∀ x ∈ q, 1 ≤ x.2.2 ∧ x.2.2 ≤ (n : Int) := fun x hx => h1.2 x (by simp [hx])
        have hql : q.length + 1 ≤ n := by simpa using h1.1
        by_cases hc : k = l[n].1 ∧ v = l[n].2
        · have : l[n] = (k, v) := by rw [hc.1, hc.2]
          rw [this, rnStep_like]
          refine ⟨by simp; omega, ?_⟩
          intro x hx
          rw [List.mem_append, List.mem_singleton] at hx
          rcases hx with hx | rfl
          · have := hq x hx; omega
          · simp only at ht ⊢; omega
        · rw [rnStep_unlike _ _ _ _ _ hc]
          refine ⟨by simp; omega, ?_⟩
          intro x hx
          rw [List.mem_append, List.mem_append, List.mem_singleton, List.mem_singleton] at hx
          rcases hx with (hx | rfl) | rfl
          · have := hq x hx; omega
          · simp only at ht ⊢; omega
          · exact ⟨by simp, by simp; omega⟩
  exact key _ l rfl
theorem info55 : (Try.prog.info? 55).map (fun i => (i.zero, i.size, i.bytes)) = some (some (.agg #[.int .i64 0, .int .i64 0, .int .i64 0]), 3, 24) := by kernel_rfl
set_option maxRecDepth 100000 in
set_option maxHeartbeats 1000000 in
theorem refRuns_any (vl : Value) (l : List (Int × Int)) (w : World) (ha : Sl w vl 2 (evC l) l.length) (hl : l.length ≤ 1000000000) :
    Calls Try.prog 33 #[vl] w fun e w' => ∃ v, e = .returned v ∧ w'.ownsRow w.heap.size 55 3 v (rn l).length (rnC (rn l)) ∧ Below w.heap.size w w' := by
  obtain ⟨_, aa, ca, rfl, _, ha⟩ := ha
  obtain ⟨i0, hi, hz0, hz1, hz2⟩ := info_parts info55
  have HA : Hid _ := ha
  have HI : Hid _ := And.intro hi (And.intro hz0 (And.intro hz1 hz2))
  clear ha hi hz0 hz1 hz2
  generalize hn : l.length = n at *
  have HL : Hid _ := hn
  clear hn
  go_enter Try.func33, Try.ntmps33
  go_wp2
  go_loopw [3, 4] (fun v iv wr => ∃ i : Nat, i ≤ n ∧ iv = .int .i64 i ∧ wr.ownsRow w.heap.size 55 3 v (rn (l.take i)).length (rnC (rn (l.take i))) ∧ Below w.heap.size w wr) (fun _ iv _ => n - (intOf iv).toNat)
  case atStart => exact ⟨0, Nat.zero_le _, rfl, World.ownsRow_nil _ _ _ _, Below.refl _ _⟩
  case round =>
    obtain ⟨i, hin, rfl, hown, hbel⟩ := hrel
    by_cases hlt : i < n
    · rcases HA.out with h0 | ⟨ba, oa, rfl, hca⟩
      · omega
      obtain ⟨⟨xk, xv⟩, e1⟩ : ∃ x, l[i]? = some x := ⟨_, List.getElem?_eq_getElem (by rw [HL.out]; exact hlt)⟩
      obtain ⟨p1, p2⟩ := evC_at l i _ e1
      have c1 := hca _ _ p1
      have c2 := hca _ _ p2
      simp only at c1 c2
      rw [← Nat.add_assoc] at c2
      have d1 : wr.cell? ⟨ba, oa + i * 2, none⟩ = some (.int .i64 xk) := (hbel.cell (World.block_lt_of_cell? w _ c1)).trans c1
      have d2 : wr.cell? ⟨ba, oa + i * 2 + 1, none⟩ = some (.int .i64 xv) := (hbel.cell (World.block_lt_of_cell? w _ c2)).trans c2
      have hst := rn_take_succ l i _ e1
      have hbd := rn_bound (l.take i)
      have hti : (l.take i).length = i := by rw [List.length_take, HL.out]; omega
      rw [hti] at hbd
      have hsz := hbel.size
      have HST : Hid _ := hst
      have HBD : Hid _ := hbd
      have HB : Hid _ := hbel
      have hbb : ba < w.heap.size := World.block_lt_of_cell? w _ c1
      clear hca p1 p2 c1 c2 hst hbd hti hbel e1 HA
      generalize rn (l.take i) = acc at *
      rcases List.eq_nil_or_concat acc with rfl | ⟨q, ⟨k, v, t⟩, rfl⟩
      · rcases hown with ⟨_, ⟨rfl, _⟩ | ⟨g, cap, cur, rfl, hg1, hg2, hg3, hg4, hg5, hg6⟩⟩
        · go_wp2_with fail
          go_quiet (fail)
          have HO2 : Hid ((wr.drewN nq).ownsRow w.heap.size 55 3 (.slice none 0 0) 0 []) := World.ownsRow_nil _ _ _ _
          have HB2 : Hid (Below w.heap.size w (wr.drewN nq)) := below_drewN' HB.out nq
          have k1 : (wr.drewN nq).cell? ⟨ba, oa + i * 2, none⟩ = some (.int .i64 xk) := d1
          have k2 : (wr.drewN nq).cell? ⟨ba, oa + i * 2 + 1, none⟩ = some (.int .i64 xv) := d2
          clear d1 d2 HB
          generalize wr.drewN nq = wq at *
          go_wp2_with (at_builtin; refine wpList_append_own _ rfl _ _ 45 rfl w.heap.size 55 i0 (.agg #[.int .i64 0, .int .i64 0, .int .i64 0]) 3 24 Try.underlying45 HI.out.1 HI.out.2.1 HI.out.2.2.1 HI.out.2.2.2 rfl (by decide) _ 0 [] rfl (HO2.out.alloc _) ⟨wq.heap.size, 0, none⟩ 1 1 [.int .i64 xk, .int .i64 xv, .int .i64 1] rfl rfl ?_ ?_ ?_ ?_ ?_ ?_)
          · intro j u hj
            match j, hj with
            | 0, hj => simp at hj; subst hj; simp [Addr.add]
            | 1, hj => simp at hj; subst hj; simp [Addr.add]
            | 2, hj => simp at hj; subst hj; simp [Addr.add]
          · intro u hu
            simp at hu
            rcases hu with rfl | rfl | rfl <;> rfl
          · unfold maxLen; omega
          · omega
          · have := HB2.out.size; simp; omega
          · intro v' w1 hown' hgrow hnn
            have R2 : Below w.heap.size w w1 := (HB2.out.alloc HB2.out.size _).grown hgrow (by have := HB2.out.size; simp; omega) (fun r hr => (HO2.out.lt r hr).1)
            have R1 : w1.ownsRow w.heap.size 55 3 v' (rn (l.take (i + 1))).length (rnC (rn (l.take (i + 1)))) := by
              rw [HST.out, rnStep_new]; exact hown'
            have HR1 : Hid _ := R1
            have HR2 : Hid _ := R2
            clear hown' hgrow R1 R2 hnn HO2 HB2
            go_wp2
            go_roundw
            case rel => exact ⟨i + 1, by omega, by go_num, HR1.out, HR2.out⟩
            case measure => simp [intOf]; omega

        · have G1 : Hid _ := hg1
          have G2 : Hid _ := hg2
          have G3 : Hid _ := And.intro hg4 hg5
          clear hg1 hg2 hg3 hg4 hg5 hg6
          go_wp2_with fail
          go_quiet (fail)
          have HO2 : Hid ((wr.drewN nq).ownsRow w.heap.size 55 3 (.slice (some ⟨g, 0, none⟩) 0 cap) 0 []) := ⟨rfl, .inr ⟨g, cap, cur, rfl, G1.out, G2.out, Nat.zero_le _, G3.out.1, G3.out.2, by simp⟩⟩
          have HB2 : Hid (Below w.heap.size w (wr.drewN nq)) := below_drewN' HB.out nq
          have k1 : (wr.drewN nq).cell? ⟨ba, oa + i * 2, none⟩ = some (.int .i64 xk) := d1
          have k2 : (wr.drewN nq).cell? ⟨ba, oa + i * 2 + 1, none⟩ = some (.int .i64 xv) := d2
          clear d1 d2 HB
          generalize wr.drewN nq = wq at *
          go_wp2_with (at_builtin; refine wpList_append_own _ rfl _ _ 45 rfl w.heap.size 55 i0 (.agg #[.int .i64 0, .int .i64 0, .int .i64 0]) 3 24 Try.underlying45 HI.out.1 HI.out.2.1 HI.out.2.2.1 HI.out.2.2.2 rfl (by decide) _ 0 [] rfl (HO2.out.alloc _) ⟨wq.heap.size, 0, none⟩ 1 1 [.int .i64 xk, .int .i64 xv, .int .i64 1] rfl rfl ?_ ?_ ?_ ?_ ?_ ?_)
          · intro j u hj
            match j, hj with
            | 0, hj => simp at hj; subst hj; simp [Addr.add]
            | 1, hj => simp at hj; subst hj; simp [Addr.add]
            | 2, hj => simp at hj; subst hj; simp [Addr.add]
          · intro u hu
            simp at hu
            rcases hu with rfl | rfl | rfl <;> rfl
          · unfold maxLen; omega
          · omega
          · have := HB2.out.size; simp; omega
          · intro v' w1 hown' hgrow hnn
            have R2 : Below w.heap.size w w1 := (HB2.out.alloc HB2.out.size _).grown hgrow (by have := HB2.out.size; simp; omega) (fun r hr => (HO2.out.lt r hr).1)
            have R1 : w1.ownsRow w.heap.size 55 3 v' (rn (l.take (i + 1))).length (rnC (rn (l.take (i + 1)))) := by
              rw [HST.out, rnStep_new]; exact hown'
            have HR1 : Hid _ := R1
            have HR2 : Hid _ := R2
            clear hown' hgrow R1 R2 hnn HO2 HB2
            go_wp2
            go_roundw
            case rel => exact ⟨i + 1, by omega, by go_num, HR1.out, HR2.out⟩
            case measure => simp [intOf]; omega

      · rw [List.concat_eq_append] at *
        rw [show (q ++ [(k, v, t)]).length = q.length + 1 by simp] at hown
        have hown1 := hown
        rcases hown with ⟨_, ⟨_, h0⟩ | ⟨g, cap, cur, rfl, hg1, hg2, hg3, hg4, hg5, hg6⟩⟩
        · omega
        have f1 : wr.cell? ⟨g, q.length * 3, none⟩ = some (.int .i64 k) := by
          rw [hown1.cellAt _ (by omega), rnC_app, List.getElem?_append_right (by rw [rnC_len]; omega), rnC_len, Nat.sub_self]; rfl
        have f2 : wr.cell? ⟨g, q.length * 3 + 1, none⟩ = some (.int .i64 v) := by
          rw [hown1.cellAt _ (by omega), rnC_app, List.getElem?_append_right (by rw [rnC_len]; omega), rnC_len, Nat.add_sub_cancel_left]; rfl
        have f3 : wr.cell? ⟨g, q.length * 3 + 2, none⟩ = some (.int .i64 t) := by
          rw [hown1.cellAt _ (by omega), rnC_app, List.getElem?_append_right (by rw [rnC_len]; omega), rnC_len, Nat.add_sub_cancel_left]; rfl
        have f4 : wr.frozen? ⟨g, q.length * 3 + 2, none⟩ = false := hown1.frozenAt _
        have HOW : Hid (wr.ownsRow w.heap.size 55 3 (.slice (some ⟨g, 0, none⟩) (q.length + 1) cap) (q.length + 1) (rnC (q ++ [(k, v, t)]))) := hown1
        have hqb : q.length + 1 ≤ n := by have := HBD.out.1; simp at this; omega
        have htb : 1 ≤ t ∧ t ≤ (i : Int) := HBD.out.2 (k, v, t) (by simp)
        have ht1 := htb.1
        have ht2 := htb.2
        have HGE : Hid _ := hg1
        clear hown1 hg1 hg2 hg3 hg4 hg5 hg6 htb
        generalize hm : q.length = m at *
        have HM : Hid _ := hm
        clear hm
        by_cases hk : xk = k
        · by_cases hv : xv = v
          · subst hk
            subst hv
            go_wp2_with fail
            go_quiet (fail)
            go_wp2
            go_roundw
            case rel =>
              have hst := HOW.out.stored (m * 3 + 2) (.int .i64 (t + 1))
              have hset : (rnC (q ++ [(xk, xv, t)])).set (m * 3 + 2) (.int .i64 (t + 1)) = rnC (q ++ [(xk, xv, t + 1)]) := by
                rw [rnC_app, rnC_app, List.set_append_right _ _ (by rw [rnC_len, HM.out]; omega), rnC_len, HM.out, Nat.add_sub_cancel_left]
                rfl
              refine ⟨i + 1, by omega, by go_num, ?_, ?_⟩
              · rw [HST.out, rnStep_like, List.length_append, HM.out, ← hset]
                exact hst.1
              · exact below_drewN' (HB.out.setCell (p := ⟨g, m * 3 + 2, none⟩) HGE.out _) nq
            case measure => simp [intOf]; omega
          · have hvf : (v == xv) = false := by simp; omega
            have HNE : Hid (v ≠ xv) := fun h => hv h.symm
            subst hk
            clear hv f3 f4
            go_wp2_with fail
            go_quiet (fail)
            have HO2 : Hid ((wr.drewN nq).ownsRow w.heap.size 55 3 (.slice (some ⟨g, 0, none⟩) (m + 1) cap) (m + 1) (rnC (q ++ [(xk, v, t)]))) := HOW.out
            have HB2 : Hid (Below w.heap.size w (wr.drewN nq)) := below_drewN' HB.out nq
            have k1 : (wr.drewN nq).cell? ⟨ba, oa + i * 2, none⟩ = some (.int .i64 xk) := d1
            have k2 : (wr.drewN nq).cell? ⟨ba, oa + i * 2 + 1, none⟩ = some (.int .i64 xv) := d2
            clear d1 d2 HB
            generalize wr.drewN nq = wq at *
            go_wp2_with (at_builtin; refine wpList_append_own _ rfl _ _ 45 rfl w.heap.size 55 i0 (.agg #[.int .i64 0, .int .i64 0, .int .i64 0]) 3 24 Try.underlying45 HI.out.1 HI.out.2.1 HI.out.2.2.1 HI.out.2.2.2 rfl (by decide) _ (m + 1) (rnC (q ++ [(xk, v, t)])) rfl (HO2.out.alloc _) ⟨wq.heap.size, 0, none⟩ 1 1 [.int .i64 xk, .int .i64 xv, .int .i64 1] rfl rfl ?_ ?_ ?_ ?_ ?_ ?_)
            · intro j u hj
              match j, hj with
              | 0, hj => simp at hj; subst hj; simp [Addr.add]
              | 1, hj => simp at hj; subst hj; simp [Addr.add]
              | 2, hj => simp at hj; subst hj; simp [Addr.add]
            · intro u hu
              simp at hu
              rcases hu with rfl | rfl | rfl <;> rfl
            · unfold maxLen; omega
            · omega
            · have := HB2.out.size; simp; omega
            · intro v' w1 hown' hgrow hnn
              have R2 : Below w.heap.size w w1 := (HB2.out.alloc HB2.out.size _).grown hgrow (by have := HB2.out.size; simp; omega) (fun r hr => (HO2.out.lt r hr).1)
              have R1 : w1.ownsRow w.heap.size 55 3 v' (rn (l.take (i + 1))).length (rnC (rn (l.take (i + 1)))) := by
                rw [HST.out, rnStep_unlike _ _ _ _ _ (fun h => HNE.out h.2)]
                rw [List.length_append, List.length_append, HM.out, rnC_app (q ++ [(xk, v, t)])]
                exact hown'
              have HR1 : Hid _ := R1
              have HR2 : Hid _ := R2
              clear hown' hgrow R1 R2 hnn HO2 HB2
              go_wp2
              go_roundw
              case rel => exact ⟨i + 1, by omega, by go_num, HR1.out, HR2.out⟩
              case measure => simp [intOf]; omega

        · have hkf : (k == xk) = false := by simp; omega
          have HNE : Hid (k ≠ xk) := fun h => hk h.symm
          clear hk f3 f4
          go_wp2_with fail
          go_quiet (fail)
          have HO2 : Hid ((wr.drewN nq).ownsRow w.heap.size 55 3 (.slice (some ⟨g, 0, none⟩) (m + 1) cap) (m + 1) (rnC (q ++ [(k, v, t)]))) := HOW.out
          have HB2 : Hid (Below w.heap.size w (wr.drewN nq)) := below_drewN' HB.out nq
          have k1 : (wr.drewN nq).cell? ⟨ba, oa + i * 2, none⟩ = some (.int .i64 xk) := d1
          have k2 : (wr.drewN nq).cell? ⟨ba, oa + i * 2 + 1, none⟩ = some (.int .i64 xv) := d2
          clear d1 d2 HB
          generalize wr.drewN nq = wq at *
          go_wp2_with (at_builtin; refine wpList_append_own _ rfl _ _ 45 rfl w.heap.size 55 i0 (.agg #[.int .i64 0, .int .i64 0, .int .i64 0]) 3 24 Try.underlying45 HI.out.1 HI.out.2.1 HI.out.2.2.1 HI.out.2.2.2 rfl (by decide) _ (m + 1) (rnC (q ++ [(k, v, t)])) rfl (HO2.out.alloc _) ⟨wq.heap.size, 0, none⟩ 1 1 [.int .i64 xk, .int .i64 xv, .int .i64 1] rfl rfl ?_ ?_ ?_ ?_ ?_ ?_)
          · intro j u hj
            match j, hj with
            | 0, hj => simp at hj; subst hj; simp [Addr.add]
            | 1, hj => simp at hj; subst hj; simp [Addr.add]
            | 2, hj => simp at hj; subst hj; simp [Addr.add]
          · intro u hu
            simp at hu
            rcases hu with rfl | rfl | rfl <;> rfl
          · unfold maxLen; omega
          · omega
          · have := HB2.out.size; simp; omega
          · intro v' w1 hown' hgrow hnn
            have R2 : Below w.heap.size w w1 := (HB2.out.alloc HB2.out.size _).grown hgrow (by have := HB2.out.size; simp; omega) (fun r hr => (HO2.out.lt r hr).1)
            have R1 : w1.ownsRow w.heap.size 55 3 v' (rn (l.take (i + 1))).length (rnC (rn (l.take (i + 1)))) := by
              rw [HST.out, rnStep_unlike _ _ _ _ _ (fun h => HNE.out h.1)]
              rw [List.length_append, List.length_append, HM.out, rnC_app (q ++ [(k, v, t)])]
              exact hown'
            have HR1 : Hid _ := R1
            have HR2 : Hid _ := R2
            clear hown' hgrow R1 R2 hnn HO2 HB2
            go_wp2
            go_roundw
            case rel => exact ⟨i + 1, by omega, by go_num, HR1.out, HR2.out⟩
            case measure => simp [intOf]; omega

    · have hi' : i = n := by omega
      subst hi'
      have HO : Hid _ := hown
      have HB : Hid _ := hbel
      clear hown hbel HA HI
      go_wp2
      go_ret
      have : l.take i = l := List.take_of_length_le (by rw [HL.out]; omega)
      refine ⟨_, rfl, ?_, HB.out⟩
      have h2 := HO.out
      rw [this] at h2
      exact h2
theorem rnC_at (l : List (Int × Int × Int)) (i : Nat) (e : Int × Int × Int) (h : l[i]? = some e) : (rnC l)[i * 3]? = some (.int .i64 e.1) ∧ (rnC l)[i * 3 + 1]? = some (.int .i64 e.2.1) ∧ (rnC l)[i * 3 + 2]? = some (.int .i64 e.2.2) := by
  induction l generalizing i with
  | nil => simp at h
  | cons x l ih =>
    cases i with
    | zero => simp at h; subst h; exact ⟨rfl, rfl, rfl⟩
    | succ i =>
      have := ih i (by simpa using h)
      rw [show (i + 1) * 3 = i * 3 + 1 + 1 + 1 by omega]
      exact this
set_option maxRecDepth 100000 in
set_option maxHeartbeats 1000000 in
theorem runs_any (va vb : Value) (la lb : List (Int × Int × Int)) (w : World) (ha : Sl w va 3 (rnC la) la.length) (hb : Sl w vb 3 (rnC lb) lb.length) (hl : la.length ≤ 1000000000) :
    Calls Try.prog 32 #[va, vb] w fun e w' => e = .returned (.bool (la == lb)) ∧ ∃ n, w' = w.drewN n := by
  obtain ⟨_, aa, ca, rfl, _, ha⟩ := ha
  obtain ⟨_, ab, cb, rfl, _, hb⟩ := hb
  by_cases hlen : la.length = lb.length
  · have h1 : ((la.length : Int) != (lb.length : Int)) = false := by simp; omega
    have HA : Hid _ := ha
    have HB : Hid _ := hb
    have HN : Hid _ := hlen
    rw [← hlen] at h1 HB ⊢
    clear ha hb hlen
    generalize hn : la.length = n at *
    have HL : Hid _ := hn
    clear hn
    go_enter Try.func32, Try.ntmps32
    go_wp2
    go_loopw [5] (fun v wr => ∃ i m : Nat, i ≤ n ∧ v = .int .i64 i ∧ wr = w.drewN m ∧ ∀ j, j < i → la[j]? = lb[j]?) (fun v _ => n - (intOf v).toNat)
    case atStart => exact ⟨0, 0, Nat.zero_le _, rfl, rfl, fun j hj => by omega⟩
    case round =>
      obtain ⟨i, m, hi, rfl, rfl, hall⟩ := hrel
      have HALL : Hid _ := hall
      clear hall
      by_cases hlt : i < n
      · rcases HA.out with h0 | ⟨ba, oa, rfl, hca⟩
        · omega
        rcases HB.out with h0 | ⟨bb, ob, rfl, hcb⟩
        · omega
        obtain ⟨⟨xk, xv, xt⟩, e1⟩ : ∃ x, la[i]? = some x := ⟨_, List.getElem?_eq_getElem (by rw [HL.out]; exact hlt)⟩
        obtain ⟨⟨yk, yv, yt⟩, e2⟩ : ∃ x, lb[i]? = some x := ⟨_, List.getElem?_eq_getElem (by rw [← HN.out]; exact hlt)⟩
        obtain ⟨p1, p2, p3⟩ := rnC_at la i _ e1
        obtain ⟨q1, q2, q3⟩ := rnC_at lb i _ e2
        have c1 := hca _ _ p1
        have c2 := hca _ _ p2
        have c3 := hca _ _ p3
        have c4 := hcb _ _ q1
        have c5 := hcb _ _ q2
        have c6 := hcb _ _ q3
        have E1 : Hid _ := e1
        have E2 : Hid _ := e2
        clear hca hcb p1 p2 p3 q1 q2 q3 e1 e2 HA HB
        simp only at c1 c2 c3 c4 c5 c6
        rw [← Nat.add_assoc] at c2 c3 c5 c6
        by_cases heq : xk = yk ∧ xv = yv ∧ xt = yt
        · obtain ⟨rfl, rfl, rfl⟩ := heq
          go_wp2
          go_quiet (fail)
          go_wp2
          go_roundw
          case rel =>
            refine ⟨i + 1, _, by omega, by go_num, rfl, fun j hj => ?_⟩
            by_cases hji : j = i
            · subst hji; rw [E1.out, E2.out]
            · exact HALL.out j (by omega)
          case measure => simp [intOf]; omega
        · have hne : (la == lb) = false := by
            simp
            intro e
            have := E1.out
            rw [e, E2.out] at this
            simp only [Option.some.injEq, Prod.mk.injEq] at this
            exact heq ⟨this.1.symm, this.2.1.symm, this.2.2.symm⟩
          by_cases hk : xk = yk
          · by_cases hv : xv = yv
            · have ht : (xt == yt) = false := by simp; omega
              subst hk
              subst hv
              clear heq
              go_wp2
              go_quiet (fail)
              go_wp2
              go_ret
              exact ⟨by rw [hne]; rfl, _, drewN_add _ _ _⟩
            · have hv' : (xv == yv) = false := by simp [hv]
              subst hk
              clear hv heq
              go_wp2
              go_quiet (fail)
              go_wp2
              go_ret
              exact ⟨by rw [hne]; rfl, _, drewN_add _ _ _⟩
          · have hk' : (xk == yk) = false := by simp [hk]
            clear hk heq
            go_wp2
            go_quiet (fail)
            go_wp2
            go_ret
            exact ⟨by rw [hne]; rfl, _, drewN_add _ _ _⟩
      · have hi' : i = n := by omega
        subst hi'
        go_wp2
        go_ret
        refine ⟨?_, _, rfl⟩
        have : la = lb := by
          apply List.ext_getElem?
          intro j
          by_cases hj : j < i
          · exact HALL.out j hj
          · rw [List.getElem?_eq_none (by rw [HL.out]; omega), List.getElem?_eq_none (by rw [← HN.out]; omega)]
        rw [this]
        simp
  · have h1 : ((la.length : Int) != (lb.length : Int)) = true := by simp; omega
    have h2 : (la == lb) = false := by
      simp
      intro e
      exact hlen (by rw [e])
    rw [h2]
    clear ha hb hl
    go_enter Try.func32, Try.ntmps32
    go_wp2
    go_ret
    exact ⟨rfl, 0, rfl⟩

end Go.Proofs.Ytigapdfefapdgaa
