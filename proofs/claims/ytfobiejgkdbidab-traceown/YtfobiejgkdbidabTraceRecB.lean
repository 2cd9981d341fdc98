import Derived.Test.YtfobiejgkdbidabTraceRec
import Derived.Maps.AppendAt
namespace Go.Proofs.Ytfobiejgkdbidab
set_option linter.unusedSimpArgs false
open Go.ChangeShapes Go.WideShapes Go.ChangeAt Go.RowKit Go.Pin
set_option maxRecDepth 100000 in
theorem rlog_nil (k v : Int) (w : World) :
    Calls Try.prog 27 #[.pointer none, .int .i64 k, .int .i64 v] w fun e w' => e = .returned (.tuple #[]) ∧ w' = w := by
  go_enter Try.func27, Try.ntmps27
  go_wp2
  first | go_end0 | refine bodyPost_ret (results_none rfl _ _ _) rfl ?_
  exact ⟨rfl, rfl⟩
/-- what a call that logs leaves -/
def Logged (B R : Nat) (vs : Value) (l : List (Int × Int)) (x : Int × Int) (w w' : World) : Prop :=
  ∃ vs', Rec B w' R vs' (l ++ [x]) ∧ Grow (Blk R vs) w w' ∧ (vs'.ownBlock = vs.ownBlock ∨ ∃ g, vs'.ownBlock = some g ∧ w.heap.size ≤ g)
set_option maxRecDepth 100000 in
theorem rIf_any (B R : Nat) (vs : Value) (l : List (Int × Int)) (b : Bool) (w : World) (h : Rec B w R vs l) (hl : l.length ≤ 1000000) :
    Calls Try.prog 17 #[.pointer (some ⟨R, 0, none⟩), .bool b] w fun e w' => e = .returned (.bool b) ∧ Logged B R vs l (1, if b then 1 else 0) w w' := by
  have HR : Hid _ := h
  have HL : Hid _ := hl
  clear h hl
  cases b
  all_goals
    go_enter Try.func17, Try.ntmps17
    go_wp2_with (first | (go_at_call 27; refine (rlog_any B R vs l _ _ _ HR.out HL.out).mono ?_; rintro e w' ⟨rfl, hw⟩))
    go_ret
    exact ⟨rfl, hw⟩
set_option maxRecDepth 100000 in
theorem rAt_any (B R : Nat) (vs : Value) (l : List (Int × Int)) (v : Int) (w : World) (h : Rec B w R vs l) (hl : l.length ≤ 1000000) :
    Calls Try.prog 18 #[.pointer (some ⟨R, 0, none⟩), .int .i64 v] w fun e w' => e = .returned (.int .i64 v) ∧ Logged B R vs l (2, v) w w' := by
  have HR : Hid _ := h
  have HL : Hid _ := hl
  clear h hl
  go_enter Try.func18, Try.ntmps18
  go_wp2_with (first | (go_at_call 27; refine (rlog_any B R vs l _ _ _ HR.out HL.out).mono ?_; rintro e w' ⟨rfl, hw⟩))
  go_ret
  exact ⟨rfl, hw⟩
set_option maxRecDepth 100000 in
theorem rOp_any (B R : Nat) (vs : Value) (l : List (Int × Int)) (v : Int) (w : World) (h : Rec B w R vs l) (hl : l.length ≤ 1000000) :
    Calls Try.prog 19 #[.pointer (some ⟨R, 0, none⟩), .int .i64 v] w fun e w' => e = .returned (.tuple #[]) ∧ Logged B R vs l (3, v) w w' := by
  have HR : Hid _ := h
  have HL : Hid _ := hl
  clear h hl
  go_enter Try.func19, Try.ntmps19
  go_wp2_with (first | (go_at_call 27; refine (rlog_any B R vs l _ _ _ HR.out HL.out).mono ?_; rintro e w' ⟨rfl, hw⟩))
  go_end0
  exact ⟨rfl, hw⟩
set_option maxRecDepth 100000 in
theorem rIf_nil (b : Bool) (w : World) : Calls Try.prog 17 #[.pointer none, .bool b] w fun e w' => e = .returned (.bool b) ∧ w' = w := by
  cases b
  all_goals
    go_enter Try.func17, Try.ntmps17
    go_wp2_with (first | (go_at_call 27; refine (rlog_nil _ _ _).mono ?_; rintro e w' ⟨rfl, rfl⟩))
    go_ret
    exact ⟨rfl, rfl⟩
set_option maxRecDepth 100000 in
theorem rAt_nil (v : Int) (w : World) : Calls Try.prog 18 #[.pointer none, .int .i64 v] w fun e w' => e = .returned (.int .i64 v) ∧ w' = w := by
  go_enter Try.func18, Try.ntmps18
  go_wp2_with (first | (go_at_call 27; refine (rlog_nil _ _ _).mono ?_; rintro e w' ⟨rfl, rfl⟩))
  go_ret
  exact ⟨rfl, rfl⟩
set_option maxRecDepth 100000 in
theorem rOp_nil (v : Int) (w : World) : Calls Try.prog 19 #[.pointer none, .int .i64 v] w fun e w' => e = .returned (.tuple #[]) ∧ w' = w := by
  go_enter Try.func19, Try.ntmps19
  go_wp2_with (first | (go_at_call 27; refine (rlog_nil _ _ _).mono ?_; rintro e w' ⟨rfl, rfl⟩))
  go_end0
  exact ⟨rfl, rfl⟩
/-- a Recorder, or none -/
def RecO (w : World) (v : Value) (vs : Value) (l : List (Int × Int)) : Prop :=
  (v = .pointer none ∧ vs = .slice none 0 0 ∧ l = []) ∨ ∃ B R, v = .pointer (some ⟨R, 0, none⟩) ∧ Rec B w R vs l
theorem Rec.opt {B : Nat} {w : World} {R : Nat} {vs : Value} {l : List (Int × Int)} (h : Rec B w R vs l) : RecO w (.pointer (some ⟨R, 0, none⟩)) vs l := .inr ⟨B, R, rfl, h⟩
theorem recO_nil (w : World) : RecO w (.pointer none) (.slice none 0 0) [] := .inl ⟨rfl, rfl, rfl⟩
theorem RecO.below {w w' : World} {v vs : Value} {l : List (Int × Int)} (h : RecO w v vs l) (hb : Below w.heap.size w w') : RecO w' v vs l := by
  rcases h with h | ⟨B, R, rfl, h⟩
  · exact .inl h
  · exact .inr ⟨B, R, rfl, h.below hb⟩
theorem RecO.owns {w : World} {v vs : Value} {l : List (Int × Int)} (h : RecO w v vs l) : w.ownsRow 0 36 2 vs l.length (evC l) := by
  rcases h with ⟨rfl, rfl, rfl⟩ | ⟨B, R, rfl, h⟩
  · exact World.ownsRow_nil _ _ _ _
  · exact owns_mono (Nat.zero_le _) h.2.2
theorem RecO.sl {w : World} {v vs : Value} {l : List (Int × Int)} (h : RecO w v vs l) : Sl w vs 2 (evC l) l.length := sl_of_owns h.owns
set_option maxRecDepth 100000 in
theorem total_any (v vs : Value) (l : List (Int × Int)) (w : World) (h : RecO w v vs l) :
    Calls Try.prog 10 #[v] w fun e w' => e = .returned (.int .i64 l.length) ∧ w' = w := by
  rcases h with ⟨rfl, rfl, rfl⟩ | ⟨B, R, rfl, h⟩
  · go_enter Try.func10, Try.ntmps10
    go_wp2
    go_ret
    exact ⟨rfl, rfl⟩
  · have hc0 := h.cell0
    have HC : Hid _ := h.cell1
    clear h
    go_enter Try.func10, Try.ntmps10
    go_wp2_with (first | (go_at_call 16; refine (aLoad_any R 1 l.length _ HC.out).mono ?_; rintro e w' ⟨rfl, rfl⟩))
    go_ret
    exact ⟨rfl, rfl⟩
set_option maxRecDepth 100000 in
theorem logged_any (v vs : Value) (l : List (Int × Int)) (w : World) (h : RecO w v vs l) :
    Calls Try.prog 25 #[v] w fun e w' => e = .returned vs ∧ w' = w := by
  rcases h with ⟨rfl, rfl, rfl⟩ | ⟨B, R, rfl, h⟩
  · go_enter Try.func25, Try.ntmps25
    go_wp2
    go_ret
    exact ⟨rfl, rfl⟩
  · have hc0 := h.cell0
    clear h
    go_enter Try.func25, Try.ntmps25
    go_wp2
    go_ret
    exact ⟨rfl, rfl⟩
theorem rec_new (w : World) : Rec w.heap.size (w.alloc (.cells #[.slice none 0 0, .int .i64 0] 57)) w.heap.size (.slice none 0 0) [] :=
  ⟨Nat.le_refl _, by rw [heap_alloc_any, if_pos rfl]; rfl, World.ownsRow_nil _ _ _ _⟩
set_option maxRecDepth 100000 in
theorem new_any (w : World) :
    Calls Try.prog 12 #[] w fun e w' => e = .returned (.pointer (some ⟨w.heap.size, 0, none⟩)) ∧ w' = w.alloc (.cells #[.slice none 0 0, .int .i64 0] 57) := by
  go_enter Try.func12, Try.ntmps12
  go_wp2
  go_ret
  exact ⟨rfl, rfl⟩
set_option maxRecDepth 100000 in
theorem since_any (v : Value) (n : Int) (w : World) (hv : ∃ p, v = .pointer p) :
    Calls Try.prog 15 #[v, .int .i64 n] w fun e w' => e = .returned (.func (.func 24) #[] #[.pointer (some ⟨w.heap.size, 0, none⟩), .pointer (some ⟨w.heap.size + 1, 0, none⟩)]) ∧ w' = (w.alloc (.cells #[v] 23)).alloc (.cells #[.int .i64 n] 3) := by
  obtain ⟨p, rfl⟩ := hv
  go_enter Try.func15, Try.ntmps15
  go_wp2
  go_ret
  exact ⟨rfl, rfl⟩
set_option maxRecDepth 100000 in
set_option maxHeartbeats 1000000 in
theorem equal_any (va vb : Value) (la lb : List (Int × Int)) (w : World) (ha : Sl w va 2 (evC la) la.length) (hb : Sl w vb 2 (evC lb) lb.length) (hl : la.length ≤ 1000000000) :
    Calls Try.prog 28 #[va, vb] w fun e w' => e = .returned (.bool (la == lb)) ∧ ∃ n, w' = w.drewN n := by
  obtain ⟨_, aa, ca, rfl, _, ha⟩ := ha
  obtain ⟨_, ab, cb, rfl, _, hb⟩ := hb
  by_cases hlen : la.length = lb.length
  · have h1 : ((la.length : Int) != (lb.length : Int)) = false := by simp; omega
    have HA : Hid _ := ha
    have HB : Hid _ := hb
    have HN : Hid _ := hlen
    rw [← hlen] at h1 HB ⊢
    clear ha hb hlen
    generalize hn : la.length = n at *
    have HL : Hid _ := hn
    clear hn
    go_enter Try.func28, Try.ntmps28
    go_wp2
    go_loopw [13] (fun v wr => ∃ i m : Nat, i ≤ n ∧ v = .int .i64 i ∧ wr = w.drewN m ∧ ∀ j, j < i → la[j]? = lb[j]?) (fun v _ => n - (intOf v).toNat)
    case atStart => exact ⟨0, 0, Nat.zero_le _, rfl, rfl, fun j hj => by omega⟩
    case round =>
      obtain ⟨i, m, hi, rfl, rfl, hall⟩ := hrel
      have HALL : Hid _ := hall
      clear hall
      by_cases hlt : i < n
      · rcases HA.out with h0 | ⟨ba, oa, rfl, hca⟩
        · omega
        rcases HB.out with h0 | ⟨bb, ob, rfl, hcb⟩
        · omega
        obtain ⟨⟨xk, xv⟩, e1⟩ : ∃ x, la[i]? = some x := ⟨_, List.getElem?_eq_getElem (by rw [HL.out]; exact hlt)⟩
        obtain ⟨⟨yk, yv⟩, e2⟩ : ∃ x, lb[i]? = some x := ⟨_, List.getElem?_eq_getElem (by rw [← HN.out]; exact hlt)⟩
        obtain ⟨p1, p2⟩ := evC_at la i _ e1
        obtain ⟨q1, q2⟩ := evC_at lb i _ e2
        have c1 := hca _ _ p1
        have c2 := hca _ _ p2
        have c3 := hcb _ _ q1
        have c4 := hcb _ _ q2
        have E1 : Hid _ := e1
        have E2 : Hid _ := e2
        clear hca hcb p1 p2 q1 q2 e1 e2 HA HB
        simp only at c1 c2 c3 c4
        rw [← Nat.add_assoc] at c2 c4
        by_cases hk : xk = yk
        · by_cases hv : xv = yv
          · subst hk
            subst hv
            go_wp2
            go_quiet (fail)
            go_wp2
            go_roundw
            case rel =>
              refine ⟨i + 1, _, by omega, by go_num, rfl, fun j hj => ?_⟩
              by_cases hji : j = i
              · subst hji; rw [E1.out, E2.out]
              · exact HALL.out j (by omega)
            case measure => simp [intOf]; omega
          · have hv' : (xv == yv) = false := by simp [hv]
            subst hk
            have hne : (la == lb) = false := by
              simp
              intro e
              have := E1.out
              rw [e, E2.out] at this
              simp only [Option.some.injEq, Prod.mk.injEq] at this
              exact hv this.2.symm
            clear hv
            go_wp2
            go_quiet (fail)
            go_wp2
            go_ret
            exact ⟨by rw [hne]; rfl, _, drewN_add _ _ _⟩
        · have hk' : (xk == yk) = false := by simp [hk]
          have hne : (la == lb) = false := by
            simp
            intro e
            have := E1.out
            rw [e, E2.out] at this
            simp only [Option.some.injEq, Prod.mk.injEq] at this
            exact hk this.1.symm
          clear hk
          go_wp2
          go_quiet (fail)
          go_wp2
          go_ret
          exact ⟨by rw [hne]; rfl, _, drewN_add _ _ _⟩
      · have hi' : i = n := by omega
        subst hi'
        go_wp2
        go_ret
        refine ⟨?_, _, rfl⟩
        have : la = lb := by
          apply List.ext_getElem?
          intro j
          by_cases hj : j < i
          · exact HALL.out j hj
          · rw [List.getElem?_eq_none (by rw [HL.out]; omega), List.getElem?_eq_none (by rw [← HN.out]; omega)]
        rw [this]
        simp
  · have h1 : ((la.length : Int) != (lb.length : Int)) = true := by simp; omega
    have h2 : (la == lb) = false := by
      simp
      intro e
      exact hlen (by rw [e])
    rw [h2]
    clear ha hb hl
    go_enter Try.func28, Try.ntmps28
    go_wp2
    go_ret
    exact ⟨rfl, 0, rfl⟩

end Go.Proofs.Ytfobiejgkdbidab
