import Derived.RangeFuncNested
import Derived.RangeFuncBound
import Derived.RangeFuncCalls
import Derived.RangeFuncLeaves
import Derived.RangeFuncBox
import Derived.Shelf.Abstract
import Derived.Shelf.RegionOpen
import Derived.OwnWalkIn
import Derived.TacticsInMore
import Derived.LoopNIn
import Derived.LoopIn
import Derived.Maps.AppendAt
import Derived.Maps.OwnIn
import Derived.Test.YtfkbgodfcnmepaaDoorDmag
namespace Go.Proofs.YtfkbgodfcnmepaaDoor
set_option linter.unusedSimpArgs false
open Go.ChangeShapes Go.WideShapes Go.ChangeAt Go.RowKit Go.Pin Go.Shelf
attribute [local go_sem] Oper.semAt_some
def evV (x : Int × Int) : Value := .agg #[.int .i64 x.1, .int .i64 x.2]
/-- where Since begins -/
def frst (l : List (Int × Int)) (n : Int) : Nat := min n.toNat l.length
theorem beh_frst (l : List (Int × Int)) (n : Int) : beh l n = l.drop (frst l n) := by
  unfold beh frst
  by_cases h : n.toNat ≤ l.length
  · rw [Nat.min_eq_left h]
  · rw [Nat.min_eq_right (by omega), List.drop_length, List.drop_eq_nil_of_le (by omega)]
theorem take_succ_at {α : Type} (d : List α) (k : Nat) (x : α) (h : d[k]? = some x) : d.take (k + 1) = d.take k ++ [x] := by
  rw [List.take_add_one, h]; rfl
set_option maxRecDepth 100000 in
set_option maxHeartbeats 2000000 in
theorem since1_in (l' : Nat) (b1 b2 : Nat) (v vs : Value) (n : Int) (l : List (Int × Int)) (hl : l.length ≤ 1000000) (J Jx : List (Int × Int) → World → Prop) (W : World)
    (hJa : ∀ pre X o, J pre X → J pre (X.alloc o))
    (hJs : ∀ pre X, J pre X → Sl X vs 2 (evC l) l.length)
    (hY : ∀ pre x X, J pre X → pre.length < l.length → (beh l n)[pre.length]? = some x → YieldAt Fence.wide 3 Tryd.prog l' #[evV x] X fun e X' =>
      (e = .returned (.bool true) ∧ J (pre ++ [x]) X') ∨ (e = .returned (.bool false) ∧ Jx (pre ++ [x]) X'))
    (hr : RecO W v vs l) (h1 : W.cell? ⟨b1, 0, none⟩ = some v) (h2 : W.cell? ⟨b2, 0, none⟩ = some (.int .i64 n)) (h0 : J [] W) :
    CallsIn Fence.wide 4 Tryd.prog 48 #[.func (.yield l') #[] #[], .pointer (some ⟨b1, 0, none⟩), .pointer (some ⟨b2, 0, none⟩)] W fun e W' => (∃ v, e = .returned v) ∧
      (J (beh l n) W' ∨ ∃ pre, pre <+: beh l n ∧ Jx pre W') := by
  have HR : Hid (RecO W v vs l) := hr
  obtain ⟨_, aa, ca, rfl, hcap, hsl⟩ := hr.sl
  clear hr
  have HJ : Hid _ := hJs
  have HA : Hid _ := hJa
  have HY : Hid _ := hY
  have hbf := beh_frst l n
  have HBF : Hid _ := hbf
  clear hJs hJa hY hbf
  have hv : ∃ p, v = .pointer p := by rcases HR.out with ⟨rfl, _⟩ | ⟨_, _, rfl, _⟩ <;> exact ⟨_, rfl⟩
  obtain ⟨p, rfl⟩ := hv
  obtain ⟨f, hf⟩ : ∃ f, frst l n = f := ⟨_, rfl⟩
  have hfl : f ≤ l.length := by rw [← hf]; exact Nat.min_le_right _ _
  have hcs : (n < 0 ∧ f = 0) ∨ (n = f) ∨ ((l.length : Int) < n ∧ f = l.length) := by unfold frst at hf; omega
  rw [hf] at HBF
  clear hf
  have HN : Hid (l.length = 0 ∨ ∃ b o, aa = some ⟨b, o, none⟩) := by
    rcases hsl with h | ⟨b, o, h, _⟩
    · exact .inl h
    · exact .inr ⟨b, o, h⟩
  clear hsl
  have hle : f ≤ ca := by omega
  generalize hlen : l.length = len at *
  have HL : Hid _ := hlen
  clear hlen
  have hd : (l.drop f).length = len - f := by rw [List.length_drop, HL.out]
  have HD : Hid _ := hd
  clear hd
  rcases hcs with ⟨hc1, rfl⟩ | rfl | ⟨hc1, hfe⟩
  · refine callsIn_of_wp Tryd.func48 rfl trivial ?_ rfl
    simp only [Tryd.ntmps48, List.size_toArray, List.length_cons, List.length_nil, Nat.reduceAdd, Nat.reduceSub, Array.replicate_succ, Array.replicate_zero, List.push_toArray, List.append_toArray, List.nil_append, List.cons_append]
    gi_wp2_with (first | (refine ⟨trivial, ?_⟩; gi_at_call 49; refine (callsIn_wide.2 (logged_any _ _ l _ HR.out)).mono ?_; rintro e w' ⟨rfl, rfl⟩))
    all_goals
      gi_loopw [19] (fun i wr => ∃ k : Nat, k ≤ len - 0 ∧ i = .int .i64 k ∧ J ((l.drop 0).take k) wr) (fun i _ => len - 0 - (intOf i).toNat)
      case atStart => exact ⟨0, Nat.zero_le _, rfl, h0⟩
      case round =>
        obtain ⟨k, hk, rfl, hJ⟩ := hrel
        by_cases hlt : k < len - 0
        · rcases HN.out with h0' | ⟨b, o, rfl⟩
          · omega
          obtain ⟨⟨xk, xv⟩, e1⟩ : ∃ x, l[0 + k]? = some x := ⟨_, List.getElem?_eq_getElem (by rw [HL.out]; omega)⟩
          obtain ⟨_, aa', ca', hsv, _, hrd⟩ := HJ.out _ _ hJ
          cases hsv
          obtain ⟨p1, p2⟩ := evC_at l (0 + k) _ e1
          rcases hrd with h0' | ⟨b', o', hbo, hcell⟩
          · omega
          cases hbo
          have c1 := hcell _ _ p1
          have c2 := hcell _ _ p2
          have e2 : (l.drop 0)[k]? = some (xk, xv) := by rw [List.getElem?_drop]; exact e1
          have hlk : ((l.drop 0).take k).length = k := by rw [List.length_take, HD.out]; omega
          have yy := HY.out _ (xk, xv) _ (HA.out _ _ (.cells #[.int .i64 xk, .int .i64 xv] 82) hJ) (by rw [hlk]; omega) (by rw [hlk, HBF.out]; exact e2)
          rw [← take_succ_at _ _ _ e2] at yy
          simp only [Nat.add_mul, Nat.zero_mul, Nat.zero_add, Nat.add_zero, ← Nat.add_assoc] at c1 c2
          clear hcell p1 p2 e1 hlk e2 HY HR
          obtain ⟨fn, tmps, assign, body, hy, hR⟩ := yy
          simp only [evV] at hy
          gi_wp2
          all_goals
            refine hR.mono ?_
            rintro e W3 (⟨rfl, hJ3⟩ | ⟨rfl, hJx3⟩)
            · gi_wp2
              go_roundw
              case rel => exact ⟨k + 1, by omega, by go_num, hJ3⟩
              case measure => simp [intOf]; omega
            · gi_wp2
              refine bodyPost_ret (results_none rfl _ _ _) rfl ?_
              exact ⟨⟨_, rfl⟩, .inr ⟨_, by rw [HBF.out]; exact List.take_prefix _ _, hJx3⟩⟩
        · have hJ' : J (beh l n) wr := by
            have hke : k = len - 0 := by omega
            rw [HBF.out, ← List.take_of_length_le (l := l.drop 0) (i := k) (by rw [HD.out, hke]; exact Nat.le_refl _)]
            exact hJ
          clear hJ
          gi_wp2
          go_end0
          exact ⟨⟨_, rfl⟩, .inl hJ'⟩
  · refine callsIn_of_wp Tryd.func48 rfl trivial ?_ rfl
    simp only [Tryd.ntmps48, List.size_toArray, List.length_cons, List.length_nil, Nat.reduceAdd, Nat.reduceSub, Array.replicate_succ, Array.replicate_zero, List.push_toArray, List.append_toArray, List.nil_append, List.cons_append]
    gi_wp2_with (first | (refine ⟨trivial, ?_⟩; gi_at_call 49; refine (callsIn_wide.2 (logged_any _ _ l _ HR.out)).mono ?_; rintro e w' ⟨rfl, rfl⟩))
    all_goals try generalize h17 : Option.map (fun x : Addr => x.add (f * 2)) aa = a17
    all_goals
      gi_loopw [19] (fun i wr => ∃ k : Nat, k ≤ len - f ∧ i = .int .i64 k ∧ J ((l.drop f).take k) wr) (fun i _ => len - f - (intOf i).toNat)
      case atStart => exact ⟨0, Nat.zero_le _, rfl, h0⟩
      case round =>
        obtain ⟨k, hk, rfl, hJ⟩ := hrel
        by_cases hlt : k < len - f
        · rcases HN.out with h0' | ⟨b, o, rfl⟩
          · omega
          obtain ⟨⟨xk, xv⟩, e1⟩ : ∃ x, l[f + k]? = some x := ⟨_, List.getElem?_eq_getElem (by rw [HL.out]; omega)⟩
          obtain ⟨_, aa', ca', hsv, _, hrd⟩ := HJ.out _ _ hJ
          cases hsv
          obtain ⟨p1, p2⟩ := evC_at l (f + k) _ e1
          rcases hrd with h0' | ⟨b', o', hbo, hcell⟩
          · omega
          cases hbo
          try obtain rfl : a17 = some ⟨b, o + f * 2, none⟩ := by rw [← h17, Option.map_some, add_mid]
          have c1 := hcell _ _ p1
          have c2 := hcell _ _ p2
          have e2 : (l.drop f)[k]? = some (xk, xv) := by rw [List.getElem?_drop]; exact e1
          have hlk : ((l.drop f).take k).length = k := by rw [List.length_take, HD.out]; omega
          have yy := HY.out _ (xk, xv) _ (HA.out _ _ (.cells #[.int .i64 xk, .int .i64 xv] 82) hJ) (by rw [hlk]; omega) (by rw [hlk, HBF.out]; exact e2)
          rw [← take_succ_at _ _ _ e2] at yy
          simp only [Nat.add_mul, Nat.zero_mul, Nat.zero_add, Nat.add_zero, ← Nat.add_assoc] at c1 c2
          clear hcell p1 p2 e1 hlk e2 HY HR
          obtain ⟨fn, tmps, assign, body, hy, hR⟩ := yy
          simp only [evV] at hy
          gi_wp2
          all_goals
            refine hR.mono ?_
            rintro e W3 (⟨rfl, hJ3⟩ | ⟨rfl, hJx3⟩)
            · gi_wp2
              go_roundw
              case rel => exact ⟨k + 1, by omega, by go_num, hJ3⟩
              case measure => simp [intOf]; omega
            · gi_wp2
              refine bodyPost_ret (results_none rfl _ _ _) rfl ?_
              exact ⟨⟨_, rfl⟩, .inr ⟨_, by rw [HBF.out]; exact List.take_prefix _ _, hJx3⟩⟩
        · have hJ' : J (beh l f) wr := by
            have hke : k = len - f := by omega
            rw [HBF.out, ← List.take_of_length_le (l := l.drop f) (i := k) (by rw [HD.out, hke]; exact Nat.le_refl _)]
            exact hJ
          clear hJ
          gi_wp2
          go_end0
          exact ⟨⟨_, rfl⟩, .inl hJ'⟩
  · subst hfe
    refine callsIn_of_wp Tryd.func48 rfl trivial ?_ rfl
    simp only [Tryd.ntmps48, List.size_toArray, List.length_cons, List.length_nil, Nat.reduceAdd, Nat.reduceSub, Array.replicate_succ, Array.replicate_zero, List.push_toArray, List.append_toArray, List.nil_append, List.cons_append]
    gi_wp2_with (first | (refine ⟨trivial, ?_⟩; gi_at_call 49; refine (callsIn_wide.2 (logged_any _ _ l _ HR.out)).mono ?_; rintro e w' ⟨rfl, rfl⟩))
    all_goals
      gi_loopw [19] (fun i wr => ∃ k : Nat, k ≤ f - f ∧ i = .int .i64 k ∧ J ((l.drop f).take k) wr) (fun i _ => f - f - (intOf i).toNat)
      case atStart => exact ⟨0, Nat.zero_le _, rfl, h0⟩
      case round =>
        obtain ⟨k, hk, rfl, hJ⟩ := hrel
        by_cases hlt : k < f - f
        · rcases HN.out with h0' | ⟨b, o, rfl⟩
          · omega
          obtain ⟨⟨xk, xv⟩, e1⟩ : ∃ x, l[f + k]? = some x := ⟨_, List.getElem?_eq_getElem (by rw [HL.out]; omega)⟩
          obtain ⟨_, aa', ca', hsv, _, hrd⟩ := HJ.out _ _ hJ
          cases hsv
          obtain ⟨p1, p2⟩ := evC_at l (f + k) _ e1
          rcases hrd with h0' | ⟨b', o', hbo, hcell⟩
          · omega
          cases hbo
          have c1 := hcell _ _ p1
          have c2 := hcell _ _ p2
          have e2 : (l.drop f)[k]? = some (xk, xv) := by rw [List.getElem?_drop]; exact e1
          have hlk : ((l.drop f).take k).length = k := by rw [List.length_take, HD.out]; omega
          have yy := HY.out _ (xk, xv) _ (HA.out _ _ (.cells #[.int .i64 xk, .int .i64 xv] 82) hJ) (by rw [hlk]; omega) (by rw [hlk, HBF.out]; exact e2)
          rw [← take_succ_at _ _ _ e2] at yy
          simp only [Nat.add_mul, Nat.zero_mul, Nat.zero_add, Nat.add_zero, ← Nat.add_assoc] at c1 c2
          clear hcell p1 p2 e1 hlk e2 HY HR
          obtain ⟨fn, tmps, assign, body, hy, hR⟩ := yy
          simp only [evV] at hy
          gi_wp2
          all_goals
            refine hR.mono ?_
            rintro e W3 (⟨rfl, hJ3⟩ | ⟨rfl, hJx3⟩)
            · gi_wp2
              go_roundw
              case rel => exact ⟨k + 1, by omega, by go_num, hJ3⟩
              case measure => simp [intOf]; omega
            · gi_wp2
              refine bodyPost_ret (results_none rfl _ _ _) rfl ?_
              exact ⟨⟨_, rfl⟩, .inr ⟨_, by rw [HBF.out]; exact List.take_prefix _ _, hJx3⟩⟩
        · have hJ' : J (beh l n) wr := by
            have hke : k = f - f := by omega
            rw [HBF.out, ← List.take_of_length_le (l := l.drop f) (i := k) (by rw [HD.out, hke]; exact Nat.le_refl _)]
            exact hJ
          clear hJ
          gi_wp2
          go_end0
          exact ⟨⟨_, rfl⟩, .inl hJ'⟩
set_option maxRecDepth 100000 in
set_option maxHeartbeats 2000000 in
theorem since1_call (fk : Nat) (fc : Array Value) (hen : ∀ args w, (callFunc fk args).run Tryd.prog w = .ok (.enter fk args) w) (b1 b2 : Nat) (v vs : Value) (n : Int) (l : List (Int × Int)) (hl : l.length ≤ 1000000) (J Jx : List (Int × Int) → World → Prop) (W : World)
    (hJa : ∀ pre X o, J pre X → J pre (X.alloc o))
    (hJs : ∀ pre X, J pre X → Sl X vs 2 (evC l) l.length)
    (hY : ∀ pre x X, J pre X → pre.length < l.length → (beh l n)[pre.length]? = some x → Calls Tryd.prog fk (#[evV x] ++ fc) X fun e X' =>
      (e = .returned (.bool true) ∧ J (pre ++ [x]) X') ∨ (e = .returned (.bool false) ∧ Jx (pre ++ [x]) X'))
    (hr : RecO W v vs l) (h1 : W.cell? ⟨b1, 0, none⟩ = some v) (h2 : W.cell? ⟨b2, 0, none⟩ = some (.int .i64 n)) (h0 : J [] W) :
    Calls Tryd.prog 48 #[.func (.func fk) #[] fc, .pointer (some ⟨b1, 0, none⟩), .pointer (some ⟨b2, 0, none⟩)] W fun e W' => e = .returned (.tuple #[]) ∧
      (J (beh l n) W' ∨ ∃ pre, pre <+: beh l n ∧ Jx pre W') := by
  have HR : Hid (RecO W v vs l) := hr
  obtain ⟨_, aa, ca, rfl, hcap, hsl⟩ := hr.sl
  clear hr
  have HJ : Hid _ := hJs
  have HA : Hid _ := hJa
  have HY : Hid _ := hY
  have hbf := beh_frst l n
  have HBF : Hid _ := hbf
  clear hJs hJa hY hbf
  have hv : ∃ p, v = .pointer p := by rcases HR.out with ⟨rfl, _⟩ | ⟨_, _, rfl, _⟩ <;> exact ⟨_, rfl⟩
  obtain ⟨p, rfl⟩ := hv
  obtain ⟨f, hf⟩ : ∃ f, frst l n = f := ⟨_, rfl⟩
  have hfl : f ≤ l.length := by rw [← hf]; exact Nat.min_le_right _ _
  have hcs : (n < 0 ∧ f = 0) ∨ (n = f) ∨ ((l.length : Int) < n ∧ f = l.length) := by unfold frst at hf; omega
  rw [hf] at HBF
  clear hf
  have HN : Hid (l.length = 0 ∨ ∃ b o, aa = some ⟨b, o, none⟩) := by
    rcases hsl with h | ⟨b, o, h, _⟩
    · exact .inl h
    · exact .inr ⟨b, o, h⟩
  clear hsl
  have hle : f ≤ ca := by omega
  generalize hlen : l.length = len at *
  have HL : Hid _ := hlen
  clear hlen
  have hd : (l.drop f).length = len - f := by rw [List.length_drop, HL.out]
  have HD : Hid _ := hd
  clear hd
  rcases hcs with ⟨hc1, rfl⟩ | rfl | ⟨hc1, hfe⟩
  · go_enter Tryd.func48, Tryd.ntmps48
    go_wp2_with (first | (go_at_call 49; refine (logged_any _ _ l _ HR.out).mono ?_; rintro e w' ⟨rfl, rfl⟩))
    all_goals
      go_loopw [19] (fun i wr => ∃ k : Nat, k ≤ len - 0 ∧ i = .int .i64 k ∧ J ((l.drop 0).take k) wr) (fun i _ => len - 0 - (intOf i).toNat)
      case atStart => exact ⟨0, Nat.zero_le _, rfl, h0⟩
      case round =>
        obtain ⟨k, hk, rfl, hJ⟩ := hrel
        by_cases hlt : k < len - 0
        · rcases HN.out with h0' | ⟨b, o, rfl⟩
          · omega
          obtain ⟨⟨xk, xv⟩, e1⟩ : ∃ x, l[0 + k]? = some x := ⟨_, List.getElem?_eq_getElem (by rw [HL.out]; omega)⟩
          obtain ⟨_, aa', ca', hsv, _, hrd⟩ := HJ.out _ _ hJ
          cases hsv
          obtain ⟨p1, p2⟩ := evC_at l (0 + k) _ e1
          rcases hrd with h0' | ⟨b', o', hbo, hcell⟩
          · omega
          cases hbo
          have c1 := hcell _ _ p1
          have c2 := hcell _ _ p2
          have e2 : (l.drop 0)[k]? = some (xk, xv) := by rw [List.getElem?_drop]; exact e1
          have hlk : ((l.drop 0).take k).length = k := by rw [List.length_take, HD.out]; omega
          have yy := HY.out _ (xk, xv) _ (HA.out _ _ (.cells #[.int .i64 xk, .int .i64 xv] 82) hJ) (by rw [hlk]; omega) (by rw [hlk, HBF.out]; exact e2)
          rw [← take_succ_at _ _ _ e2] at yy
          simp only [Nat.add_mul, Nat.zero_mul, Nat.zero_add, Nat.add_zero, ← Nat.add_assoc] at c1 c2
          clear hcell p1 p2 e1 hlk e2 HY HR
          have HYY : Hid (∀ _ : Unit, _) := fun _ => yy
          clear yy
          go_wp2_with (fail)
          all_goals
            refine (HYY.out ()).mono ?_
            clear HYY
            rintro e W3 (⟨rfl, hJ3⟩ | ⟨rfl, hJx3⟩)
            · go_wp2
              go_roundw
              case rel => exact ⟨k + 1, by omega, by go_num, hJ3⟩
              case measure => simp [intOf]; omega
            · go_wp2
              first | go_end0 | refine bodyPost_ret (results_none rfl _ _ _) rfl ?_
              exact ⟨rfl, .inr ⟨_, by rw [HBF.out]; exact List.take_prefix _ _, hJx3⟩⟩
        · have hJ' : J (beh l n) wr := by
            have hke : k = len - 0 := by omega
            rw [HBF.out, ← List.take_of_length_le (l := l.drop 0) (i := k) (by rw [HD.out, hke]; exact Nat.le_refl _)]
            exact hJ
          clear hJ
          go_wp2
          go_end0
          exact ⟨rfl, .inl hJ'⟩
  · go_enter Tryd.func48, Tryd.ntmps48
    go_wp2_with (first | (go_at_call 49; refine (logged_any _ _ l _ HR.out).mono ?_; rintro e w' ⟨rfl, rfl⟩))
    all_goals try generalize h17 : Option.map (fun x : Addr => x.add (f * 2)) aa = a17
    all_goals
      go_loopw [19] (fun i wr => ∃ k : Nat, k ≤ len - f ∧ i = .int .i64 k ∧ J ((l.drop f).take k) wr) (fun i _ => len - f - (intOf i).toNat)
      case atStart => exact ⟨0, Nat.zero_le _, rfl, h0⟩
      case round =>
        obtain ⟨k, hk, rfl, hJ⟩ := hrel
        by_cases hlt : k < len - f
        · rcases HN.out with h0' | ⟨b, o, rfl⟩
          · omega
          obtain ⟨⟨xk, xv⟩, e1⟩ : ∃ x, l[f + k]? = some x := ⟨_, List.getElem?_eq_getElem (by rw [HL.out]; omega)⟩
          obtain ⟨_, aa', ca', hsv, _, hrd⟩ := HJ.out _ _ hJ
          cases hsv
          obtain ⟨p1, p2⟩ := evC_at l (f + k) _ e1
          rcases hrd with h0' | ⟨b', o', hbo, hcell⟩
          · omega
          cases hbo
          try obtain rfl : a17 = some ⟨b, o + f * 2, none⟩ := by rw [← h17, Option.map_some, add_mid]
          have c1 := hcell _ _ p1
          have c2 := hcell _ _ p2
          have e2 : (l.drop f)[k]? = some (xk, xv) := by rw [List.getElem?_drop]; exact e1
          have hlk : ((l.drop f).take k).length = k := by rw [List.length_take, HD.out]; omega
          have yy := HY.out _ (xk, xv) _ (HA.out _ _ (.cells #[.int .i64 xk, .int .i64 xv] 82) hJ) (by rw [hlk]; omega) (by rw [hlk, HBF.out]; exact e2)
          rw [← take_succ_at _ _ _ e2] at yy
          simp only [Nat.add_mul, Nat.zero_mul, Nat.zero_add, Nat.add_zero, ← Nat.add_assoc] at c1 c2
          clear hcell p1 p2 e1 hlk e2 HY HR
          have HYY : Hid (∀ _ : Unit, _) := fun _ => yy
          clear yy
          go_wp2_with (fail)
          all_goals
            refine (HYY.out ()).mono ?_
            clear HYY
            rintro e W3 (⟨rfl, hJ3⟩ | ⟨rfl, hJx3⟩)
            · go_wp2
              go_roundw
              case rel => exact ⟨k + 1, by omega, by go_num, hJ3⟩
              case measure => simp [intOf]; omega
            · go_wp2
              first | go_end0 | refine bodyPost_ret (results_none rfl _ _ _) rfl ?_
              exact ⟨rfl, .inr ⟨_, by rw [HBF.out]; exact List.take_prefix _ _, hJx3⟩⟩
        · have hJ' : J (beh l f) wr := by
            have hke : k = len - f := by omega
            rw [HBF.out, ← List.take_of_length_le (l := l.drop f) (i := k) (by rw [HD.out, hke]; exact Nat.le_refl _)]
            exact hJ
          clear hJ
          go_wp2
          go_end0
          exact ⟨rfl, .inl hJ'⟩
  · subst hfe
    go_enter Tryd.func48, Tryd.ntmps48
    go_wp2_with (first | (go_at_call 49; refine (logged_any _ _ l _ HR.out).mono ?_; rintro e w' ⟨rfl, rfl⟩))
    all_goals
      go_loopw [19] (fun i wr => ∃ k : Nat, k ≤ f - f ∧ i = .int .i64 k ∧ J ((l.drop f).take k) wr) (fun i _ => f - f - (intOf i).toNat)
      case atStart => exact ⟨0, Nat.zero_le _, rfl, h0⟩
      case round =>
        obtain ⟨k, hk, rfl, hJ⟩ := hrel
        by_cases hlt : k < f - f
        · rcases HN.out with h0' | ⟨b, o, rfl⟩
          · omega
          obtain ⟨⟨xk, xv⟩, e1⟩ : ∃ x, l[f + k]? = some x := ⟨_, List.getElem?_eq_getElem (by rw [HL.out]; omega)⟩
          obtain ⟨_, aa', ca', hsv, _, hrd⟩ := HJ.out _ _ hJ
          cases hsv
          obtain ⟨p1, p2⟩ := evC_at l (f + k) _ e1
          rcases hrd with h0' | ⟨b', o', hbo, hcell⟩
          · omega
          cases hbo
          have c1 := hcell _ _ p1
          have c2 := hcell _ _ p2
          have e2 : (l.drop f)[k]? = some (xk, xv) := by rw [List.getElem?_drop]; exact e1
          have hlk : ((l.drop f).take k).length = k := by rw [List.length_take, HD.out]; omega
          have yy := HY.out _ (xk, xv) _ (HA.out _ _ (.cells #[.int .i64 xk, .int .i64 xv] 82) hJ) (by rw [hlk]; omega) (by rw [hlk, HBF.out]; exact e2)
          rw [← take_succ_at _ _ _ e2] at yy
          simp only [Nat.add_mul, Nat.zero_mul, Nat.zero_add, Nat.add_zero, ← Nat.add_assoc] at c1 c2
          clear hcell p1 p2 e1 hlk e2 HY HR
          have HYY : Hid (∀ _ : Unit, _) := fun _ => yy
          clear yy
          go_wp2_with (fail)
          all_goals
            refine (HYY.out ()).mono ?_
            clear HYY
            rintro e W3 (⟨rfl, hJ3⟩ | ⟨rfl, hJx3⟩)
            · go_wp2
              go_roundw
              case rel => exact ⟨k + 1, by omega, by go_num, hJ3⟩
              case measure => simp [intOf]; omega
            · go_wp2
              first | go_end0 | refine bodyPost_ret (results_none rfl _ _ _) rfl ?_
              exact ⟨rfl, .inr ⟨_, by rw [HBF.out]; exact List.take_prefix _ _, hJx3⟩⟩
        · have hJ' : J (beh l n) wr := by
            have hke : k = f - f := by omega
            rw [HBF.out, ← List.take_of_length_le (l := l.drop f) (i := k) (by rw [HD.out, hke]; exact Nat.le_refl _)]
            exact hJ
          clear hJ
          go_wp2
          go_end0
          exact ⟨rfl, .inl hJ'⟩
end Go.Proofs.YtfkbgodfcnmepaaDoor
