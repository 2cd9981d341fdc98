import Derived.BigQuiet
import Derived.Deep.QuietTactic
import Derived.Test.YtjhleocpipmklaaDoorMjal
import Derived.Test.YtjhleocpipmklaaDoorMjac
import Derived.Test.YtjhleocpipmklaaDoorMjaf
/- the program's own reckoning of what a message is worth: numbers alone -/
namespace Go.Pat
theorem alt_at : ∀ (L : List Ln) (o : Option Int) (n : Nat), shp o n L = true → ∀ k, k + 1 < L.length → (L.getD (k + 1) (0, [])).1 = 1 - (L.getD k (0, [])).1
  | [], _, _, _, k, hk => by simp at hk
  | [_], _, _, _, k, hk => by simp at hk
  | (f, ts) :: (g, us) :: r, o, n, h, k, hk => by
    rw [shp_split] at h
    simp only [Bool.and_eq_true, decide_eq_true_eq] at h
    have h2 := h.2
    cases k with
    | zero =>
      rw [shp_split] at h2
      simp only [Bool.and_eq_true, decide_eq_true_eq] at h2
      have a := h.1.1.1.1.1
      have b := h2.1.1.1.1.1
      have c := h2.1.1.1.1.2
      have c' : f ≠ g := fun e => c (by rw [e])
      show g = 1 - f
      omega
    | succ k =>
      have := alt_at ((g, us) :: r) _ _ h2 k (by simpa using hk)
      simpa using this
theorem snd_zero {p : Pt} (h : 0 < p.ln.length) : sender p 0 = (p.ln.getD 0 (0, [])).1 := by simp [sender, h]
theorem snd_succ {p : Pt} (hs : shaped p = true) (k : Nat) : sender p (k + 1) = if oneWay p then sender p k else 1 - sender p k := by
  unfold shaped at hs
  simp only [Bool.and_eq_true, Bool.not_eq_true', List.isEmpty_eq_false_iff] at hs
  have hne : 0 < p.ln.length := List.length_pos_iff.2 hs.1.2
  have hal := alt_at _ _ _ hs.2
  have ho : oneWay p = true → p.ln.length = 1 ∧ (p.ln.getD 0 (0, [])).1 = 0 := by
    unfold oneWay
    rcases hl : p.ln with _ | ⟨⟨f, ts⟩, _ | ⟨b, c⟩⟩
    · simp
    · intro h; simp at h; exact ⟨rfl, by simpa using h⟩
    · intro h; simp at h
  by_cases h1 : oneWay p = true
  · have ⟨a, b⟩ := ho h1
    rw [if_pos h1]
    unfold sender
    rw [if_neg (by omega), if_neg (by omega), if_pos h1]
    split
    · rename_i hk
      have : k = 0 := by omega
      subst this; exact b.symm
    · rw [if_neg (by omega)]
  · have h1' : oneWay p = false := by simpa using h1
    have hz : ¬ p.ln.length = 0 := by omega
    rw [if_neg h1]
    unfold sender
    rw [h1']
    simp only [hz, if_false, Bool.false_eq_true]
    by_cases hk : k + 1 < p.ln.length
    · rw [if_pos hk, if_pos (by omega)]
      exact hal k hk
    · rw [if_neg hk]
      by_cases hk2 : k < p.ln.length
      · rw [if_pos hk2]
        have : k + 1 - p.ln.length = 0 := by omega
        rw [this]
        have e : k = p.ln.length - 1 := by omega
        simp only [Nat.zero_mod, if_true, lst, e]
      · rw [if_neg hk2]
        rcases Nat.mod_two_eq_zero_or_one (k - p.ln.length) with h | h
        · have : (k + 1 - p.ln.length) % 2 = 1 := by omega
          rw [this, h, if_neg (by decide), if_pos rfl]; omega
        · have : (k + 1 - p.ln.length) % 2 = 0 := by omega
          rw [this, h, if_pos rfl, if_neg (by decide)]
/-- the Source of what a side sent last -/
def shw (p : Pt) (f : Int) : Nat → Int
  | 0 => 0
  | k + 1 => if sender p k = f then src p k else shw p f k
theorem shw_in (p : Pt) (f : Int) : ∀ k, 0 ≤ shw p f k ∧ shw p f k ≤ 2
  | 0 => by simp [shw]
  | k + 1 => by
    have := shw_in p f k
    have := src_in p k
    simp only [shw]
    split <;> omega
theorem shw_le {p : Pt} {f : Int} : ∀ {k j : Nat}, k ≤ j → sender p j = f → shw p f k ≤ src p j
  | 0, j, _, _ => (src_in p j).1
  | k + 1, j, h, hj => by
    simp only [shw]
    split
    · rename_i e
      exact src_mono (by omega) (by rw [e, hj])
    · exact shw_le (by omega) hj
theorem shw_bst {p : Pt} (hv : ∀ k, sender p k = 0 ∨ sender p k = 1) {f : Int} (hf : f = 0 ∨ f = 1) : ∀ k, bst p f k = shw p (1 - f) k
  | 0 => rfl
  | k + 1 => by
    have ih := shw_bst hv hf k
    have hs := hv k
    simp only [bst, shw]
    by_cases e : sender p k = 1 - f
    · have hle := shw_le (p := p) (f := 1 - f) (Nat.le_refl k) e
      rw [if_pos e]
      by_cases h2 : src p k > bst p f k
      · rw [if_pos ⟨by omega, h2⟩]
      · rw [if_neg (fun h => h2 h.2)]
        omega
    · rw [if_neg e, if_neg (fun h => by have := h.1; omega)]
      exact ih
/-- four flags -/
def fb (a b c d : Bool) : Nat := (if a then 1 else 0) + (if b then 2 else 0) + (if c then 4 else 0) + (if d then 8 else 0)
def mix (l : List Int) : Nat := fb (l.any (· == 3)) (l.any (· == 4)) (l.any (· == 5)) (l.any (· == 6))
def fl (p : Pt) (k : Nat) : Nat := fb (dn p k 3) (dn p k 4) (dn p k 5) (dn p k 6)
/-- what is done ahead of message k -/
def fb0 (p : Pt) : Nat → Nat
  | 0 => 0
  | k + 1 => fl p k
theorem fb_lt (a b c d : Bool) : fb a b c d < 16 := by cases a <;> cases b <;> cases c <;> cases d <;> decide
theorem fb_or (a b c d a' b' c' d' : Bool) : fb a b c d ||| fb a' b' c' d' = fb (a || a') (b || b') (c || c') (d || d') := by
  cases a <;> cases b <;> cases c <;> cases d <;> cases a' <;> cases b' <;> cases c' <;> cases d' <;> decide
theorem any_t1 (L : List Ln) (f : Ln → Bool) (i : Nat) (h : i < L.length) : (L.take (i + 1)).any f = ((L.take i).any f || f (L.getD i (0, []))) := by
  rw [List.take_add_one, List.any_append, List.getElem?_eq_getElem h]
  simp [List.getD, h]
theorem dn_step {p : Pt} {k : Nat} (h : k < p.ln.length) (t : Int) : dn p k t = ((p.ln.take k).any (fun l => l.2.any (· == t)) || (p.ln.getD k (0, [])).2.any (· == t)) := any_t1 _ _ _ h
theorem fl_mix {p : Pt} {k : Nat} (h : k < p.ln.length) : fb0 p k ||| mix (p.ln.getD k (0, [])).2 = fl p k := by
  unfold fl mix
  simp only [dn_step h]
  rw [← fb_or]
  congr 1
  cases k with
  | zero => rfl
  | succ k => rfl
theorem fl_stay {p : Pt} {k : Nat} (h : p.ln.length ≤ k) (h0 : 0 < p.ln.length) : fb0 p k = fl p k := by
  cases k with
  | zero => omega
  | succ k =>
    show fl p k = fl p (k + 1)
    unfold fl
    simp only [dn_full (p := p) (i := k) (k := k + 1) h (by omega)]
theorem fb0_lt (p : Pt) (k : Nat) : fb0 p k < 16 := by cases k; exact (by decide : 0 < 16); exact fb_lt _ _ _ _
/-- the tokens so far -/
theorem mix_step (l : List Int) (i : Nat) (h : i < l.length) : mix (l.take (i + 1)) = mix (l.take i) ||| mix [l.getD i 0] := by
  have e : l.take (i + 1) = l.take i ++ [l.getD i 0] := by rw [List.take_add_one, List.getElem?_eq_getElem h]; simp [List.getD, h]
  rw [e]
  unfold mix
  rw [fb_or]
  simp
/-- Source and Dest out of the flags -/
theorem src_fl {p : Pt} {k : Nat} : src p k = if fl p k &&& (if sender p k = 0 then 4 else 2) ≠ 0 then 2 else if fl p k &&& 8 ≠ 0 then 1 else 0 := by
  unfold src fl stc
  by_cases h : sender p k = 0
  · simp only [h, if_true]
    cases dn p k 3 <;> cases dn p k 4 <;> cases dn p k 5 <;> cases dn p k 6 <;> decide
  · simp only [h, if_false]
    cases dn p k 3 <;> cases dn p k 4 <;> cases dn p k 5 <;> cases dn p k 6 <;> decide
theorem dst_fl {p : Pt} {k : Nat} (hk : sender p k = 0 ∨ sender p k = 1) : dst p k =
    if fl p k &&& (1 ||| (if sender p k = 0 then 2 else 4)) = 0 then 0 else if fl p k &&& (if sender p k = 0 then 2 else 4) = 0 then 1 else if fl p k &&& 1 = 0 then 2 else 3 + bst p (sender p k) k := by
  unfold dst fl stc
  rcases hk with h | h
  · simp only [h, if_true, show ¬ ((1 : Int) - 0 = 0) by decide, if_false]
    generalize bst p 0 k = b
    cases dn p k 3 <;> cases dn p k 4 <;> cases dn p k 5 <;> cases dn p k 6 <;> simp [fb]
  · simp only [h, show ((1 : Int) - 1 = 0) by decide, if_true, show ¬ ((1 : Int) = 0) by decide, if_false]
    generalize bst p 1 k = b
    cases dn p k 3 <;> cases dn p k 4 <;> cases dn p k 5 <;> cases dn p k 6 <;> simp [fb]
end Go.Pat
namespace Go.Proofs.YtjhleocpipmklaaDoor
set_option linter.unusedSimpArgs false
set_option linter.unusedVariables false
open Go.ChangeShapes Go.WideShapes Go.ChangeAt Go.RowKit Go.Pin Go.Pat
theorem u8_and : ∀ f g : Fin 16, bits .and .u8 ((f.val : Nat) : Int) ((g.val : Nat) : Int) = (((f.val &&& g.val : Nat)) : Int) := by decide +kernel
theorem u8_or : ∀ f g : Fin 16, bits .or .u8 ((f.val : Nat) : Int) ((g.val : Nat) : Int) = (((f.val ||| g.val : Nat)) : Int) := by decide +kernel
theorem gother_any (s : Int) (hs : s = 0 ∨ s = 1) (w : World) : Calls Tryd.prog 27 #[.int .i64 s] w fun e w' => e = .returned (.int .i64 (1 - s)) ∧ w' = w := by
  have h : wrap64 (1 - s) = 1 - s := IntWalk.wrap64_in _ ⟨by omega, by omega⟩
  go_enter Tryd.func27, Tryd.ntmps27
  go_wp2
  go_ret
  exact ⟨rfl, rfl⟩
theorem ghas_any (f g : Nat) (hf : f < 16) (hg : g < 16) (w : World) : Calls Tryd.prog 46 #[.int .u8 (f : Int), .int .u8 (g : Int)] w fun e w' => e = .returned (.bool (decide (f &&& g ≠ 0))) ∧ w' = w := by
  have h : bits .and .u8 (f : Int) (g : Int) = ((f &&& g : Nat) : Int) := u8_and ⟨f, hf⟩ ⟨g, hg⟩
  go_enter Tryd.func46, Tryd.ntmps46
  go_wp2
  go_ret
  refine ⟨?_, rfl⟩
  show Ending.returned (.bool (((f &&& g : Nat) : Int) != 0)) = _
  by_cases hz : f &&& g = 0
  · simp [hz]
  · simp [hz]
def prv (s : Int) : Nat := if s = 0 then 4 else 2
set_option maxRecDepth 100000 in
theorem gproves_any (s : Int) (hs : s = 0 ∨ s = 1) (w : World) : Calls Tryd.prog 47 #[.int .i64 s] w fun e w' => e = .returned (.int .u8 (prv s : Int)) ∧ w' = w := by
  rcases hs with rfl | rfl
  · have i0 : ∀ w, (Instr.index 125 (.agg #[.int .u8 4, .int .u8 2]) (.int .i64 0)).run Tryd.prog w = .ok (.int .u8 4) w := fun _ => by kernel_rfl
    go_enter Tryd.func47, Tryd.ntmps47
    go_wp2
    go_ret
    exact ⟨rfl, rfl⟩
  · have i0 : ∀ w, (Instr.index 125 (.agg #[.int .u8 4, .int .u8 2]) (.int .i64 1)).run Tryd.prog w = .ok (.int .u8 2) w := fun _ => by kernel_rfl
    go_enter Tryd.func47, Tryd.ntmps47
    go_wp2
    go_ret
    exact ⟨rfl, rfl⟩
theorem mix_none {t : Int} (h3 : t ≠ 3) (h4 : t ≠ 4) (h5 : t ≠ 5) (h6 : t ≠ 6) : mix [t] = 0 := by simp [mix, fb, h3, h4, h5, h6]
set_option maxRecDepth 100000 in
set_option maxHeartbeats 4000000 in
theorem mixed_any {u : Value} {C : List Int} (w : World) (hu : RdN w u C) :
    Calls Tryd.prog 24 #[u] w fun e w' => e = .returned (.int .u8 (mix C : Int)) ∧ w' = w := by
  obtain ⟨a, cap, rfl, -, hm, -⟩ := id hu
  have hat := hu.at.2.2
  obtain ⟨n, hn⟩ : ∃ n, C.length = n := ⟨_, rfl⟩
  rw [hn] at hat hm
  simp only [hn]
  have HAT : Hid _ := hat
  have HN : Hid (C.length = n ∧ n ≤ 140737488355328) := ⟨hn, hm⟩
  clear hat hm hu
  go_enter Tryd.func24, Tryd.ntmps24
  go_wp2
  go_loopw [2, 7] (fun v2 v7 wr => ∃ i : Nat, i ≤ n ∧ v7 = .int .i64 i ∧ v2 = .int .u8 (mix (C.take i) : Int) ∧ wr = w) (fun _ v _ => n - (intOf v).toNat)
  case atStart => exact ⟨0, Nat.zero_le _, rfl, rfl, rfl⟩
  case round =>
    obtain ⟨i, hi, rfl, rfl, rfl⟩ := hrel
    by_cases hlt : i < n
    · have b1 : (i : Int) < (n : Int) := by omega
      obtain ⟨b, o, rfl, hc⟩ := HAT.out i hlt
      have c := hc wr (Below.refl _ _)
      obtain ⟨t, ht⟩ : ∃ t, C.getD i 0 = t := ⟨_, rfl⟩
      obtain ⟨m, hmx⟩ : ∃ m, mix (C.take i) = m := ⟨_, rfl⟩
      have hst := mix_step C i (by rw [HN.out.1]; exact hlt)
      rw [ht, hmx] at hst
      have hm16 : m < 16 := by rw [← hmx]; exact fb_lt _ _ _ _
      rw [ht] at c
      rw [hmx]
      have HST : Hid (mix (C.take (i + 1)) = m ||| mix [t]) := hst
      have HI : Hid (i < n ∧ n ≤ 140737488355328) := ⟨hlt, HN.out.2⟩
      clear hst hc hi hlt
      by_cases t3 : t = 3
      · subst t3
        have hor : bits .or .u8 (m : Int) 1 = ((m ||| 1 : Nat) : Int) := u8_or ⟨m, hm16⟩ ⟨1, by decide⟩
        have HM : Hid (m < 16) := hm16
        clear hm16
        go_wp2
        exact ⟨⟨i + 1, HI.out.1, congrArg (Value.int .i64) (wrapS HI.out.1 HI.out.2), by rw [HST.out]; rfl, trivial⟩, measS HI.out.1 HI.out.2⟩
      by_cases t4 : t = 4
      · subst t4
        have hor : bits .or .u8 (m : Int) 2 = ((m ||| 2 : Nat) : Int) := u8_or ⟨m, hm16⟩ ⟨2, by decide⟩
        have HM : Hid (m < 16) := hm16
        clear hm16
        go_wp2
        exact ⟨⟨i + 1, HI.out.1, congrArg (Value.int .i64) (wrapS HI.out.1 HI.out.2), by rw [HST.out]; rfl, trivial⟩, measS HI.out.1 HI.out.2⟩
      by_cases t5 : t = 5
      · subst t5
        have hor : bits .or .u8 (m : Int) 4 = ((m ||| 4 : Nat) : Int) := u8_or ⟨m, hm16⟩ ⟨4, by decide⟩
        have HM : Hid (m < 16) := hm16
        clear hm16
        go_wp2
        exact ⟨⟨i + 1, HI.out.1, congrArg (Value.int .i64) (wrapS HI.out.1 HI.out.2), by rw [HST.out]; rfl, trivial⟩, measS HI.out.1 HI.out.2⟩
      by_cases t6 : t = 6
      · subst t6
        have hor : bits .or .u8 (m : Int) 8 = ((m ||| 8 : Nat) : Int) := u8_or ⟨m, hm16⟩ ⟨8, by decide⟩
        have HM : Hid (m < 16) := hm16
        clear hm16
        go_wp2
        exact ⟨⟨i + 1, HI.out.1, congrArg (Value.int .i64) (wrapS HI.out.1 HI.out.2), by rw [HST.out]; rfl, trivial⟩, measS HI.out.1 HI.out.2⟩
      clear hm16
      go_wp2
      exact ⟨⟨i + 1, HI.out.1, congrArg (Value.int .i64) (wrapS HI.out.1 HI.out.2), by rw [HST.out, mix_none t3 t4 t5 t6, Nat.or_zero], trivial⟩, measS HI.out.1 HI.out.2⟩
    · have b1 : ¬ (i : Int) < (n : Int) := by omega
      obtain rfl : i = n := by omega
      have HTK : Hid (C.take i = C) := List.take_of_length_le (by rw [HN.out.1]; exact Nat.le_refl _)
      go_wp2
      go_ret
      refine ⟨?_, rfl⟩
      rw [HTK.out]
      rfl
theorem and_lt16 {f g : Nat} (hf : f < 16) : f &&& g < 16 := Nat.lt_of_le_of_lt Nat.and_le_left hf
theorem prv_lt (s : Int) : prv s < 16 := by unfold prv; split <;> decide
set_option maxRecDepth 100000 in
theorem gsource_any (f : Nat) (hf : f < 16) (s : Int) (hs : s = 0 ∨ s = 1) (w : World) : Calls Tryd.prog 25 #[.int .u8 (f : Int), .int .i64 s] w fun e w' => e = .returned (.int .i64 (if f &&& prv s ≠ 0 then 2 else if f &&& 8 ≠ 0 then 1 else 0)) ∧ w' = w := by
  have CP := gproves_any s hs w
  have C1 := ghas_any f (prv s) hf (prv_lt s) w
  have C2 := ghas_any f 8 hf (by decide) w
  clear hs hf
  obtain ⟨r, hr⟩ : ∃ r, prv s = r := ⟨_, rfl⟩
  rw [hr] at CP C1 ⊢
  clear hr
  by_cases h1 : f &&& r = 0
  · by_cases h2 : f &&& 8 = 0
    · simp only [h1, h2, ne_eq, not_true, decide_false, if_false] at C1 C2 ⊢
      clear h1 h2
      go_enter Tryd.func25, Tryd.ntmps25
      go_wp2_with (first
        | (go_at_call 47; refine Calls.mono CP ?_; clear CP; rintro e w1 ⟨rfl, rfl⟩)
        | (go_at_call 46; refine Calls.mono C1 ?_; clear C1; rintro e w1 ⟨rfl, rfl⟩)
        | (go_at_call 46; refine Calls.mono C2 ?_; clear C2; rintro e w1 ⟨rfl, rfl⟩))
      go_ret
      exact ⟨rfl, rfl⟩
    · simp only [h1, h2, ne_eq, not_true, not_false_iff, decide_false, decide_true, if_false, if_true] at C1 C2 ⊢
      clear h1 h2
      go_enter Tryd.func25, Tryd.ntmps25
      go_wp2_with (first
        | (go_at_call 47; refine Calls.mono CP ?_; clear CP; rintro e w1 ⟨rfl, rfl⟩)
        | (go_at_call 46; refine Calls.mono C1 ?_; clear C1; rintro e w1 ⟨rfl, rfl⟩)
        | (go_at_call 46; refine Calls.mono C2 ?_; clear C2; rintro e w1 ⟨rfl, rfl⟩))
      go_ret
      exact ⟨rfl, rfl⟩
  · simp only [h1, ne_eq, not_false_iff, decide_true, if_true] at C1 ⊢
    clear h1 C2
    go_enter Tryd.func25, Tryd.ntmps25
    go_wp2_with (first
      | (go_at_call 47; refine Calls.mono CP ?_; clear CP; rintro e w1 ⟨rfl, rfl⟩)
      | (go_at_call 46; refine Calls.mono C1 ?_; clear C1; rintro e w1 ⟨rfl, rfl⟩))
    go_ret
    exact ⟨rfl, rfl⟩
theorem or1_lt {r : Nat} (h : r < 16) : 1 ||| r < 16 := Nat.or_lt_two_pow (n := 4) (by decide) h
def dfl (f r : Nat) (sh : Int) : Int := if f &&& (1 ||| r) = 0 then 0 else if f &&& r = 0 then 1 else if f &&& 1 = 0 then 2 else 3 + sh
set_option maxRecDepth 100000 in
set_option maxHeartbeats 2000000 in
theorem gdest_any (f : Nat) (hf : f < 16) (s : Int) (hs : s = 0 ∨ s = 1) (sh : Int) (h0 : sh = 0 ∨ sh = 1 ∨ sh = 2) (w : World) : Calls Tryd.prog 26 #[.int .u8 (f : Int), .int .i64 s, .int .i64 sh] w fun e w' => e = .returned (.int .i64 (dfl f (prv (1 - s)) sh)) ∧ w' = w := by
  have CO := gother_any s hs w
  have CP := gproves_any (1 - s) (by omega) w
  have h16 := prv_lt (1 - s)
  obtain ⟨r, hr⟩ : ∃ r, prv (1 - s) = r := ⟨_, rfl⟩
  rw [hr] at CP h16 ⊢
  have hor : bits .or .u8 1 (r : Int) = ((1 ||| r : Nat) : Int) := u8_or ⟨1, by decide⟩ ⟨r, h16⟩
  have C1 := ghas_any f (1 ||| r) hf (or1_lt h16) w
  have C2 := ghas_any f r hf h16 w
  have C3 := ghas_any f 1 hf (by decide) w
  obtain ⟨o, ho⟩ : ∃ o, 1 ||| r = o := ⟨_, rfl⟩
  rw [ho] at C1 hor
  unfold dfl
  rw [ho]
  clear hs hf hr h16 ho
  have key : ∀ x : Nat, f &&& x = 0 → decide (f &&& x ≠ 0) = false := fun x h => by simp [h]
  have key' : ∀ x : Nat, ¬ f &&& x = 0 → decide (f &&& x ≠ 0) = true := fun x h => by simp [h]
  by_cases h1 : f &&& o = 0
  · rw [key _ h1] at C1
    rw [if_pos h1]
    clear C2 C3 h0
    go_enter Tryd.func26, Tryd.ntmps26
    go_wp2_with (first
      | (go_at_call 27; refine Calls.mono CO ?_; clear CO; rintro e w1 ⟨rfl, rfl⟩)
      | (go_at_call 47; refine Calls.mono CP ?_; clear CP; rintro e w1 ⟨rfl, rfl⟩)
      | (go_at_call 46; refine Calls.mono C1 ?_; clear C1; rintro e w1 ⟨rfl, rfl⟩))
    go_ret
    exact ⟨rfl, rfl⟩
  rw [key' _ h1] at C1
  rw [if_neg h1]
  by_cases h2 : f &&& r = 0
  · rw [key _ h2] at C2
    rw [if_pos h2]
    clear C3 h0
    go_enter Tryd.func26, Tryd.ntmps26
    go_wp2_with (first
      | (go_at_call 27; refine Calls.mono CO ?_; clear CO; rintro e w1 ⟨rfl, rfl⟩)
      | (go_at_call 47; refine Calls.mono CP ?_; clear CP; rintro e w1 ⟨rfl, rfl⟩)
      | (go_at_call 46; refine Calls.mono C1 ?_; clear C1; rintro e w1 ⟨rfl, rfl⟩)
      | (go_at_call 46; refine Calls.mono C2 ?_; clear C2; rintro e w1 ⟨rfl, rfl⟩))
    go_ret
    exact ⟨rfl, rfl⟩
  rw [key' _ h2] at C2
  rw [if_neg h2]
  by_cases h3 : f &&& 1 = 0
  · rw [key _ h3] at C3
    rw [if_pos h3]
    clear h0
    go_enter Tryd.func26, Tryd.ntmps26
    go_wp2_with (first
      | (go_at_call 27; refine Calls.mono CO ?_; clear CO; rintro e w1 ⟨rfl, rfl⟩)
      | (go_at_call 47; refine Calls.mono CP ?_; clear CP; rintro e w1 ⟨rfl, rfl⟩)
      | (go_at_call 46; refine Calls.mono C1 ?_; clear C1; rintro e w1 ⟨rfl, rfl⟩)
      | (go_at_call 46; refine Calls.mono C2 ?_; clear C2; rintro e w1 ⟨rfl, rfl⟩)
      | (go_at_call 46; refine Calls.mono C3 ?_; clear C3; rintro e w1 ⟨rfl, rfl⟩))
    go_ret
    exact ⟨rfl, rfl⟩
  rw [key' _ h3] at C3
  rw [if_neg h3]
  rcases h0 with rfl | rfl | rfl
  all_goals
    go_enter Tryd.func26, Tryd.ntmps26
    go_wp2_with (first
      | (go_at_call 27; refine Calls.mono CO ?_; clear CO; rintro e w1 ⟨rfl, rfl⟩)
      | (go_at_call 47; refine Calls.mono CP ?_; clear CP; rintro e w1 ⟨rfl, rfl⟩)
      | (go_at_call 46; refine Calls.mono C1 ?_; clear C1; rintro e w1 ⟨rfl, rfl⟩)
      | (go_at_call 46; refine Calls.mono C2 ?_; clear C2; rintro e w1 ⟨rfl, rfl⟩)
      | (go_at_call 46; refine Calls.mono C3 ?_; clear C3; rintro e w1 ⟨rfl, rfl⟩))
    go_ret
    exact ⟨rfl, rfl⟩
end Go.Proofs.YtjhleocpipmklaaDoor
namespace Go.Proofs.YtjhleocpipmklaaDoor
set_option linter.unusedSimpArgs false
set_option linter.unusedVariables false
open Go.ChangeShapes Go.WideShapes Go.ChangeAt Go.RowKit Go.Pin Go.Pat
theorem ow_is (p : Pt) : oneWay p = (decide (p.ln.length = 1) && decide ((p.ln.getD 0 (0, [])).1 = 0)) := by
  unfold oneWay
  rcases hl : p.ln with _ | ⟨⟨f, ts⟩, _ | ⟨b, c⟩⟩
  · rfl
  · simp only [List.length_cons, List.length_nil, List.getD_cons_zero]
    by_cases h : f = 0 <;> simp [h]
  · simp
def TnP (p : Pt) (w : World) (e : Ending) (w' : World) : Prop :=
  e = .returned (.func (.func 45) #[] #[.pointer (some ⟨w.heap.size + 1, 0, none⟩), .pointer (some ⟨w.heap.size + 2, 0, none⟩)]) ∧ Below w.heap.size w w' ∧ w'.heap.size = w.heap.size + 3 ∧
  w'.heap[w.heap.size + 1]? = some (.cells #[.int .i64 (p.ln.getD 0 (0, [])).1] 3) ∧ w'.heap[w.heap.size + 2]? = some (.cells #[.bool (oneWay p)] 4)
set_option maxRecDepth 100000 in
set_option maxHeartbeats 4000000 in
theorem turns_any (v : Value) (p : Pt) (w : World) (h : RdP w v p) (hne : 0 < p.ln.length) : Calls Tryd.prog 23 #[v] w (TnP p w) := by
  obtain ⟨v0, v1, vl, rfl, h0, h1, hl⟩ := h
  obtain ⟨al, cl, rfl, _, hm, _⟩ := id hl
  have hst := pb_start w p.nm v0 v1 (.slice al p.ln.length cl)
  obtain ⟨b, o, a2, n2, c2, rfl, hc, -, -⟩ := hl.at hne
  have hc0 := (hc _ hst.old).1
  have hbw : b < w.heap.size := World.block_lt_of_cell? w _ ((hc w (Below.refl _ _)).1)
  have how := ow_is p
  unfold TnP
  rw [how]
  obtain ⟨fr, hfr⟩ : ∃ fr, (p.ln.getD 0 (0, [])).1 = fr := ⟨_, rfl⟩
  obtain ⟨q, hq⟩ : ∃ q, w.heap.size = q := ⟨_, rfl⟩
  obtain ⟨n, hn⟩ : ∃ n, p.ln.length = n := ⟨_, rfl⟩
  obtain ⟨nm, hnm⟩ : ∃ nm, p.nm = nm := ⟨_, rfl⟩
  simp only [hn, hq, hnm, hfr, Nat.zero_mul, Nat.add_zero] at hst hc0 hm hbw hne ⊢
  obtain ⟨W, hW⟩ : ∃ W, w.alloc (.cells #[.string nm, v0, v1, .slice (some ⟨b, o, none⟩) n cl] 26) = W := ⟨_, rfl⟩
  rw [hW] at hst hc0
  have hsz : W.heap.size = q + 1 := by rw [← hW, size_alloc, hq]
  have c3 := hst.c3
  have HP : Hid (PB q w nm v0 v1 (.slice (some ⟨b, o, none⟩) n cl) W) := hst
  have HS : Hid (W.heap.size = q + 1) := hsz
  clear hst hc how h0 h1 hl hm
  have b0 : (0 : Int) < (n : Int) := by omega
  clear hne
  have fin : ∀ x : Bool, Below q w ((W.alloc (.cells #[.int .i64 fr] 3)).alloc (.cells #[.bool x] 4)) ∧ ((W.alloc (.cells #[.int .i64 fr] 3)).alloc (.cells #[.bool x] 4)).heap.size = q + 3 ∧
      ((W.alloc (.cells #[.int .i64 fr] 3)).alloc (.cells #[.bool x] 4)).heap[q + 1]? = some (.cells #[.int .i64 fr] 3) ∧ ((W.alloc (.cells #[.int .i64 fr] 3)).alloc (.cells #[.bool x] 4)).heap[q + 2]? = some (.cells #[.bool x] 4) := fun x => by
    have hs := HS.out
    refine ⟨(HP.out.old.alloc (by omega) _).alloc (by rw [size_alloc]; omega) _, by rw [size_alloc, size_alloc, hs], ?_, ?_⟩
    · rw [heap_alloc_any, if_neg (by rw [size_alloc]; omega), ← hs]; exact heap_alloc_new _ _
    · have := heap_alloc_new (W.alloc (.cells #[.int .i64 fr] 3)) (.cells #[.bool x] 4)
      rw [size_alloc, hs] at this
      exact this
  have HF : Hid _ := fin
  clear fin
  by_cases h1 : n = 1
  · subst h1
    have e : (decide (1 = 1) && decide (fr = 0)) = (fr == 0) := by
      by_cases h : fr = 0 <;> simp [h]
    rw [e]
    clear e
    go_enter Tryd.func23, Tryd.ntmps23
    go_wp2
    go_ret
    exact ⟨rfl, HF.out _⟩
  · have b1 : ((n : Int) == 1) = false := by
      have : ¬ (n : Int) = 1 := by omega
      simpa using this
    have e : (decide (n = 1) && decide (fr = 0)) = false := by simp [h1]
    rw [e]
    clear e h1
    go_enter Tryd.func23, Tryd.ntmps23
    go_wp2
    go_ret
    exact ⟨rfl, HF.out _⟩
/-- who sends: the next one -/
theorem turn1_any (g : Nat) (f : Int) (o : Bool) (w : World) (hf : f = 0 ∨ f = 1) (h0 : w.heap[g]? = some (.cells #[.int .i64 f] 3)) (h1 : w.heap[g + 1]? = some (.cells #[.bool o] 4)) :
    Calls Tryd.prog 45 #[.pointer (some ⟨g, 0, none⟩), .pointer (some ⟨g + 1, 0, none⟩)] w fun e w' => e = .returned (.int .i64 f) ∧ w' = if o then w else w.setCell ⟨g, 0, none⟩ (.int .i64 (1 - f)) := by
  have CO := gother_any f hf w
  have c0 : w.cell? ⟨g, 0, none⟩ = some (.int .i64 f) := by rw [cell_of_row _ _ _ _ _ _ h0]; rfl
  have c1 : w.cell? ⟨g + 1, 0, none⟩ = some (.bool o) := by rw [cell_of_row _ _ _ _ _ _ h1]; rfl
  have f0 : w.frozen? ⟨g, 0, none⟩ = false := frozen_of_row _ _ _ _ _ h0
  clear h0 h1 hf
  cases o with
  | true =>
    clear CO f0
    go_enter Tryd.func45, Tryd.ntmps45
    go_wp2
    go_ret
    exact ⟨rfl, rfl⟩
  | false =>
    go_enter Tryd.func45, Tryd.ntmps45
    go_wp2_with (go_at_call 27; refine Calls.mono CO ?_; clear CO; rintro e w1 ⟨rfl, rfl⟩)
    go_ret
    exact ⟨rfl, rfl⟩
end Go.Proofs.YtjhleocpipmklaaDoor
namespace Go.Proofs.YtjhleocpipmklaaDoor
set_option linter.unusedSimpArgs false
set_option linter.unusedVariables false
set_option maxRecDepth 100000
open Go.ChangeShapes Go.WideShapes Go.ChangeAt Go.RowKit Go.Pin Go.Pat
/-- a row of nine marks -/
def rv (x : List Bool) : Value := .agg (x.map Value.bool).toArray
theorem nine {x : List Bool} (h : x.length = 9) : ∃ a b c d e f g i j, x = [a, b, c, d, e, f, g, i, j] := by
  match x, h with
  | [a, b, c, d, e, f, g, i, j], _ => exact ⟨a, b, c, d, e, f, g, i, j, rfl⟩
def wN (x y : List Bool) (i : Nat) : List Bool := (List.zipWith and x y).take i ++ x.drop i
def bc (x : List Bool) : Array Value := (x.map Value.bool).toArray
set_option maxHeartbeats 4000000 in
theorem within_any (x y : List Bool) (hx : x.length = 9) (hy : y.length = 9) (w : World) :
    Calls Tryd.prog 58 #[rv x, rv y] w fun e w' => e = .returned (rv (List.zipWith and x y)) ∧ Below w.heap.size w w' := by
  obtain ⟨a0, a1, a2, a3, a4, a5, a6, a7, a8, rfl⟩ := nine hx
  obtain ⟨c0, c1, c2, c3, c4, c5, c6, c7, c8, rfl⟩ := nine hy
  obtain ⟨n, hn⟩ : ∃ n, w.heap.size = n := ⟨_, rfl⟩
  simp only [rv, List.map_cons, List.map_nil]
  clear hx hy
  go_enter Tryd.func58, Tryd.ntmps58
  go_wp2
  go_loopw [6] (fun v6 wr => ∃ i : Nat, i ≤ 9 ∧ v6 = .int .i64 i ∧ wr = ((w.alloc (.cells (bc (wN [a0, a1, a2, a3, a4, a5, a6, a7, a8] [c0, c1, c2, c3, c4, c5, c6, c7, c8] i)) 69)).alloc (.cells (bc [c0, c1, c2, c3, c4, c5, c6, c7, c8]) 69)).alloc (.cells (bc [false, false, false, false, false, false, false, false, false]) 69)) (fun v _ => 9 - (intOf v).toNat)
  case atStart => exact ⟨0, Nat.zero_le _, rfl, rfl⟩
  case round =>
    obtain ⟨i, hi, rfl, rfl⟩ := hrel
    match i, hi with
    | 0, _ =>
      simp only [wN, bc, List.zipWith, List.take, List.drop, List.map_cons, List.map_nil, List.cons_append, List.nil_append]
      cases a0 <;> go_wp2
      all_goals exact ⟨⟨1, by omega, rfl, rfl⟩, by decide⟩
    | 1, _ =>
      simp only [wN, bc, List.zipWith, List.take, List.drop, List.map_cons, List.map_nil, List.cons_append, List.nil_append]
      cases a1 <;> go_wp2
      all_goals exact ⟨⟨2, by omega, rfl, rfl⟩, by decide⟩
    | 2, _ =>
      simp only [wN, bc, List.zipWith, List.take, List.drop, List.map_cons, List.map_nil, List.cons_append, List.nil_append]
      cases a2 <;> go_wp2
      all_goals exact ⟨⟨3, by omega, rfl, rfl⟩, by decide⟩
    | 3, _ =>
      simp only [wN, bc, List.zipWith, List.take, List.drop, List.map_cons, List.map_nil, List.cons_append, List.nil_append]
      cases a3 <;> go_wp2
      all_goals exact ⟨⟨4, by omega, rfl, rfl⟩, by decide⟩
    | 4, _ =>
      simp only [wN, bc, List.zipWith, List.take, List.drop, List.map_cons, List.map_nil, List.cons_append, List.nil_append]
      cases a4 <;> go_wp2
      all_goals exact ⟨⟨5, by omega, rfl, rfl⟩, by decide⟩
    | 5, _ =>
      simp only [wN, bc, List.zipWith, List.take, List.drop, List.map_cons, List.map_nil, List.cons_append, List.nil_append]
      cases a5 <;> go_wp2
      all_goals exact ⟨⟨6, by omega, rfl, rfl⟩, by decide⟩
    | 6, _ =>
      simp only [wN, bc, List.zipWith, List.take, List.drop, List.map_cons, List.map_nil, List.cons_append, List.nil_append]
      cases a6 <;> go_wp2
      all_goals exact ⟨⟨7, by omega, rfl, rfl⟩, by decide⟩
    | 7, _ =>
      simp only [wN, bc, List.zipWith, List.take, List.drop, List.map_cons, List.map_nil, List.cons_append, List.nil_append]
      cases a7 <;> go_wp2
      all_goals exact ⟨⟨8, by omega, rfl, rfl⟩, by decide⟩
    | 8, _ =>
      simp only [wN, bc, List.zipWith, List.take, List.drop, List.map_cons, List.map_nil, List.cons_append, List.nil_append]
      cases a8 <;> go_wp2
      all_goals exact ⟨⟨9, by omega, rfl, rfl⟩, by decide⟩
    | 9, _ =>
      simp only [wN, bc, List.zipWith, List.take, List.drop, List.map_cons, List.map_nil, List.cons_append, List.nil_append]
      go_wp2
      refine bodyPost_ret (v := .agg (bc [a0 && c0, a1 && c1, a2 && c2, a3 && c3, a4 && c4, a5 && c5, a6 && c6, a7 && c7, a8 && c8])) ?_ rfl ⟨rfl, ?_⟩
      · exact results_cell_row (P := Tryd.prog) (fn := Tryd.f58) (p := 4) (ty := 69) rfl _ _ (n + 1 + 1) 69 _ (0, 0) _ (by rfl) (by simp only [heap_alloc_any, size_alloc, hn]; rw [if_pos trivial]; rfl) Tryd.underlying69 rfl (by kernel_rfl)
      · exact (((Below.refl _ _).alloc (Nat.le_refl _) _).alloc (by simp) _).alloc (by simp; omega) _
end Go.Proofs.YtjhleocpipmklaaDoor
/- a drawn region whose own operations only read and whose calls leave a world of a class R: ONE walk, in the text's order; of no dump -/
namespace Go.Pin
theorem wp_region_cls {P : Program} (R : World → Prop) {id : Nat} {Q : Exit → Act → World → Prop} {a : Act} {w : World} {l : List Oper} (hm : P.follows .mixedOrders = true) (hB : Region.lexB .any l.toArray = true) (hC : R { w with drawn := w.drawn + 1 })
    (h : ∀ (S : Type) (f : S → World), Nonempty S → (∀ x, R (f x)) → (∀ Y, R Y → ∃ x, Y = f x) → wpQuiet P l.toArray (fun w' => ∃ x, w' = f x) (fun a' => ∀ w', (∃ x, w' = f x) → Q .normal a' w') l a) : (Code.region id l.toArray true).wp P Q a w := by
  have := h {w // R w} Subtype.val ⟨⟨_, hC⟩⟩ (fun x => x.2) (fun Y hY => ⟨⟨Y, hY⟩, rfl⟩)
  exact wp_region_quiet (C := fun w' => ∃ x : {w // R w}, w' = x.val) hm hB ⟨⟨_, hC⟩, rfl⟩ (by simpa using this)
theorem quiet_load {P : Program} {o : Oper} {a : Act} {S : Type} {f : S → World} {K : Act → Prop} (ty : TypeId) (x : Operand) (ho : o.op = .load ty x) (p : Value) (hx : a.eval x = p) (v : Value) (h : ∀ s, (Instr.loadAt ty p).run P (f s) = .ok v (f s)) (hk : K (a.put o.dst v)) : o.quiet P a (fun w' => ∃ x, w' = f x) K :=
  ⟨v, fun w hw => by
    obtain ⟨s, rfl⟩ := hw
    unfold Oper.quietAt execOp
    simp only [ho, hx, Sem.run_bind, Sem.run_pure, Result.andThen_ok, h s]
    exact ⟨rfl, rfl⟩, hk⟩
end Go.Pin
