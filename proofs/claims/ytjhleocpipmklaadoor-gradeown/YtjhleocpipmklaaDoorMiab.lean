import Derived.Test.YtjhleocpipmklaaDoorMiaa
/- worth rises: numbers alone -/
namespace Go.Pat
theorem dn_mono {p : Pt} {i k : Nat} {t : Int} (h : i ≤ k) (hd : dn p i t = true) : dn p k t = true := by
  unfold dn at hd ⊢
  rw [List.any_eq_true] at hd ⊢
  obtain ⟨x, hx, hf⟩ := hd
  refine ⟨x, ?_, hf⟩
  rw [show p.ln.take (i + 1) = (p.ln.take (k + 1)).take (i + 1) by rw [List.take_take]; congr 1; omega] at hx
  exact List.mem_of_mem_take hx
theorem dn_full {p : Pt} {i k : Nat} {t : Int} (hi : p.ln.length ≤ i + 1) (hk : p.ln.length ≤ k + 1) : dn p i t = dn p k t := by
  unfold dn
  rw [List.take_of_length_le hi, List.take_of_length_le hk]
theorem src_mono {p : Pt} {i k : Nat} (h : i ≤ k) (hs : sender p i = sender p k) : src p i ≤ src p k := by
  have m := fun t => @dn_mono p i k t h
  unfold src
  rw [hs]
  by_cases h1 : dn p i (stc (sender p k)) = true
  · rw [if_pos h1, if_pos (m _ h1)]; omega
  · rw [if_neg h1]
    by_cases h2 : dn p i 6 = true
    · rw [if_pos h2]
      split
      · omega
      · rw [if_pos (m _ h2)]; omega
    · rw [if_neg h2]
      split
      · omega
      · split <;> omega
theorem bst_mono {p : Pt} {f : Int} {i : Nat} : ∀ {k : Nat}, i ≤ k → bst p f i ≤ bst p f k
  | 0, h => by rw [show i = 0 by omega]; omega
  | k + 1, h => by
    by_cases e : i = k + 1
    · rw [e]; omega
    · have := @bst_mono p f i k (by omega)
      simp only [bst]
      split <;> omega
theorem dst_mono {p : Pt} {i k : Nat} (h : i ≤ k) (hs : sender p i = sender p k) : dst p i ≤ dst p k := by
  have m := fun t => @dn_mono p i k t h
  have b := @bst_mono p (sender p k) i k h
  have b0 := bst_in p (sender p k) i
  have b1 := bst_in p (sender p k) k
  unfold dst
  rw [hs]
  rcases e1 : dn p i 3 with _ | _ <;> rcases e2 : dn p i (stc (1 - sender p k)) with _ | _
  · simp only [and_self, if_true]
    repeat' split
    all_goals omega
  · rw [m _ e2]
    simp only [Bool.true_eq_false, and_false, if_false, if_true]
    split <;> omega
  · rw [m _ e1]
    simp only [Bool.true_eq_false, false_and, if_false, if_true]
    split <;> omega
  · rw [m _ e1, m _ e2]
    simp only [Bool.true_eq_false, and_self, if_false]
    omega
theorem dst_in (p : Pt) (k : Nat) : 0 ≤ dst p k ∧ dst p k ≤ 5 := by
  have := bst_in p (sender p k) k
  unfold dst
  repeat' split
  all_goals omega
theorem sender_two {p : Pt} {k : Nat} (h : p.ln.length ≤ k) : sender p (k + 2) = sender p k := by
  unfold sender
  rw [if_neg (show ¬ k + 2 < p.ln.length by omega), if_neg (show ¬ k < p.ln.length by omega), show (k + 2 - p.ln.length) % 2 = (k - p.ln.length) % 2 by omega]
theorem src_two {p : Pt} {k : Nat} (h : p.ln.length ≤ k) : src p (k + 2) = src p k := by
  unfold src
  rw [sender_two h, dn_full (p := p) (i := k + 2) (k := k) (by omega) (by omega), dn_full (p := p) (i := k + 2) (k := k) (t := 6) (by omega) (by omega)]
/-- behind the handshake a message is worth what any one of its side is -/
theorem src_same {p : Pt} {i k : Nat} (hi : p.ln.length ≤ i + 1) (hk : p.ln.length ≤ k + 1) (hs : sender p i = sender p k) : src p i = src p k := by
  unfold src
  rw [hs, dn_full hi hk, dn_full (t := 6) hi hk]
theorem bst_ge {p : Pt} {f : Int} {i : Nat} : ∀ {k : Nat}, i < k → sender p i ≠ f → src p i ≤ bst p f k
  | k + 1, h, hs => by
    by_cases e : i = k
    · subst e
      simp only [bst]
      split
      · omega
      · rename_i hn
        simp only [hs, ne_eq, not_false_eq_true, true_and, gt_iff_lt, Int.not_lt] at hn
        exact hn
    · have := @bst_ge p f i k (by omega) hs
      simp only [bst]
      split <;> omega
theorem bst_step {p : Pt} {f : Int} {k : Nat} (h : sender p k = f ∨ src p k ≤ bst p f k) : bst p f (k + 1) = bst p f k := by
  simp only [bst]
  rw [if_neg]
  rintro ⟨h1, h2⟩
  rcases h with h | h
  · exact h1 h
  · omega
theorem bst_two {p : Pt} {k : Nat} (h : p.ln.length ≤ k) : bst p (sender p k) (k + 2) = bst p (sender p k) k := by
  have h1 : bst p (sender p k) (k + 1) = bst p (sender p k) k := bst_step (.inl rfl)
  rw [← h1]
  apply bst_step
  by_cases hs : sender p (k + 1) = sender p k
  · exact .inl hs
  · right
    have hn : p.ln.length ≠ 0 := fun e => hs (by
      unfold sender
      rw [if_neg (show ¬ k + 1 < p.ln.length by omega), if_neg (show ¬ k < p.ln.length by omega), if_pos e, if_pos e])
    have ho : oneWay p = false := by
      rcases e : oneWay p with _ | _
      · rfl
      · exfalso
        apply hs
        unfold sender
        rw [if_neg (show ¬ k + 1 < p.ln.length by omega), if_neg (show ¬ k < p.ln.length by omega), if_neg hn, if_neg hn, if_pos e, if_pos e]
    have hse : sender p (k - 1) = sender p (k + 1) := by
      by_cases hk : p.ln.length ≤ k - 1
      · rw [show k + 1 = k - 1 + 2 by omega, sender_two hk]
      · have hk' : k = p.ln.length := by omega
        unfold sender lst
        rw [if_pos (show k - 1 < p.ln.length by omega), if_neg (show ¬ k + 1 < p.ln.length by omega), if_neg hn, ho, show (k + 1 - p.ln.length) % 2 = 1 by omega, hk']
        simp
    have := @bst_ge p (sender p k) (k - 1) (k + 1) (by omega) (by rw [hse]; exact hs)
    rw [src_same (i := k + 1) (k := k - 1) (by omega) (by omega) hse.symm]
    exact this
theorem dst_two {p : Pt} {k : Nat} (h : p.ln.length ≤ k) : dst p (k + 2) = dst p k := by
  unfold dst
  rw [sender_two h, bst_two h, dn_full (p := p) (i := k + 2) (k := k) (t := 3) (by omega) (by omega), dn_full (p := p) (i := k + 2) (k := k) (by omega) (by omega)]
end Go.Pat
/- the program's own reckoning of what a message is worth: numbers alone -/
namespace Go.Pat
theorem alt_at : ∀ (L : List Ln) (o : Option Int) (n : Nat), shp o n L = true → ∀ k, k + 1 < L.length → (L.getD (k + 1) (0, [])).1 = 1 - (L.getD k (0, [])).1
  | [], _, _, _, k, hk => by simp at hk
  | [_], _, _, _, k, hk => by simp at hk
  | (f, ts) :: (g, us) :: r, o, n, h, k, hk => by
    rw [shp_split] at h
    simp only [Bool.and_eq_true, decide_eq_true_eq] at h
    have h2 := h.2
    cases k with
    | zero =>
      rw [shp_split] at h2
      simp only [Bool.and_eq_true, decide_eq_true_eq] at h2
      have a := h.1.1.1.1.1
      have b := h2.1.1.1.1.1
      have c := h2.1.1.1.1.2
      have c' : f ≠ g := fun e => c (by rw [e])
      show g = 1 - f
      omega
    | succ k =>
      have := alt_at ((g, us) :: r) _ _ h2 k (by simpa using hk)
      simpa using this
theorem snd_zero {p : Pt} (h : 0 < p.ln.length) : sender p 0 = (p.ln.getD 0 (0, [])).1 := by simp [sender, h]
theorem snd_succ {p : Pt} (hs : shaped p = true) (k : Nat) : sender p (k + 1) = if oneWay p then sender p k else 1 - sender p k := by
  unfold shaped at hs
  simp only [Bool.and_eq_true, Bool.not_eq_true', List.isEmpty_eq_false_iff] at hs
  have hne : 0 < p.ln.length := List.length_pos_iff.2 hs.1.2
  have hal := alt_at _ _ _ hs.2
  have ho : oneWay p = true → p.ln.length = 1 ∧ (p.ln.getD 0 (0, [])).1 = 0 := by
    unfold oneWay
    rcases hl : p.ln with _ | ⟨⟨f, ts⟩, _ | ⟨b, c⟩⟩
    · simp
    · intro h; simp at h; exact ⟨rfl, by simpa using h⟩
    · intro h; simp at h
  by_cases h1 : oneWay p = true
  · have ⟨a, b⟩ := ho h1
    rw [if_pos h1]
    unfold sender
    rw [if_neg (by omega), if_neg (by omega), if_pos h1]
    split
    · rename_i hk
      have : k = 0 := by omega
      subst this; exact b.symm
    · rw [if_neg (by omega)]
  · have h1' : oneWay p = false := by simpa using h1
    have hz : ¬ p.ln.length = 0 := by omega
    rw [if_neg h1]
    unfold sender
    rw [h1']
    simp only [hz, if_false, Bool.false_eq_true]
    by_cases hk : k + 1 < p.ln.length
    · rw [if_pos hk, if_pos (by omega)]
      exact hal k hk
    · rw [if_neg hk]
      by_cases hk2 : k < p.ln.length
      · rw [if_pos hk2]
        have : k + 1 - p.ln.length = 0 := by omega
        rw [this]
        have e : k = p.ln.length - 1 := by omega
        simp only [Nat.zero_mod, if_true, lst, e]
      · rw [if_neg hk2]
        rcases Nat.mod_two_eq_zero_or_one (k - p.ln.length) with h | h
        · have : (k + 1 - p.ln.length) % 2 = 1 := by omega
          rw [this, h, if_neg (by decide), if_pos rfl]; omega
        · have : (k + 1 - p.ln.length) % 2 = 0 := by omega
          rw [this, h, if_pos rfl, if_neg (by decide)]
/-- the Source of what a side sent last -/
def shw (p : Pt) (f : Int) : Nat → Int
  | 0 => 0
  | k + 1 => if sender p k = f then src p k else shw p f k
theorem shw_in (p : Pt) (f : Int) : ∀ k, 0 ≤ shw p f k ∧ shw p f k ≤ 2
  | 0 => by simp [shw]
  | k + 1 => by
    have := shw_in p f k
    have := src_in p k
    simp only [shw]
    split <;> omega
theorem shw_le {p : Pt} {f : Int} : ∀ {k j : Nat}, k ≤ j → sender p j = f → shw p f k ≤ src p j
  | 0, j, _, _ => (src_in p j).1
  | k + 1, j, h, hj => by
    simp only [shw]
    split
    · rename_i e
      exact src_mono (by omega) (by rw [e, hj])
    · exact shw_le (by omega) hj
theorem shw_bst {p : Pt} (hv : ∀ k, sender p k = 0 ∨ sender p k = 1) {f : Int} (hf : f = 0 ∨ f = 1) : ∀ k, bst p f k = shw p (1 - f) k
  | 0 => rfl
  | k + 1 => by
    have ih := shw_bst hv hf k
    have hs := hv k
    simp only [bst, shw]
    by_cases e : sender p k = 1 - f
    · have hle := shw_le (p := p) (f := 1 - f) (Nat.le_refl k) e
      rw [if_pos e]
      by_cases h2 : src p k > bst p f k
      · rw [if_pos ⟨by omega, h2⟩]
      · rw [if_neg (fun h => h2 h.2)]
        omega
    · rw [if_neg e, if_neg (fun h => by have := h.1; omega)]
      exact ih
/-- four flags -/
def fb (a b c d : Bool) : Nat := (if a then 1 else 0) + (if b then 2 else 0) + (if c then 4 else 0) + (if d then 8 else 0)
def mix (l : List Int) : Nat := fb (l.any (· == 3)) (l.any (· == 4)) (l.any (· == 5)) (l.any (· == 6))
def fl (p : Pt) (k : Nat) : Nat := fb (dn p k 3) (dn p k 4) (dn p k 5) (dn p k 6)
/-- what is done ahead of message k -/
def fb0 (p : Pt) : Nat → Nat
  | 0 => 0
  | k + 1 => fl p k
theorem fb_lt (a b c d : Bool) : fb a b c d < 16 := by cases a <;> cases b <;> cases c <;> cases d <;> decide
theorem fb_or (a b c d a' b' c' d' : Bool) : fb a b c d ||| fb a' b' c' d' = fb (a || a') (b || b') (c || c') (d || d') := by
  cases a <;> cases b <;> cases c <;> cases d <;> cases a' <;> cases b' <;> cases c' <;> cases d' <;> decide
theorem any_t1 (L : List Ln) (f : Ln → Bool) (i : Nat) (h : i < L.length) : (L.take (i + 1)).any f = ((L.take i).any f || f (L.getD i (0, []))) := by
  rw [List.take_add_one, List.any_append, List.getElem?_eq_getElem h]
  simp [List.getD, h]
theorem dn_step {p : Pt} {k : Nat} (h : k < p.ln.length) (t : Int) : dn p k t = ((p.ln.take k).any (fun l => l.2.any (· == t)) || (p.ln.getD k (0, [])).2.any (· == t)) := any_t1 _ _ _ h
theorem fl_mix {p : Pt} {k : Nat} (h : k < p.ln.length) : fb0 p k ||| mix (p.ln.getD k (0, [])).2 = fl p k := by
  unfold fl mix
  simp only [dn_step h]
  rw [← fb_or]
  congr 1
  cases k with
  | zero => rfl
  | succ k => rfl
theorem fl_stay {p : Pt} {k : Nat} (h : p.ln.length ≤ k) (h0 : 0 < p.ln.length) : fb0 p k = fl p k := by
  cases k with
  | zero => omega
  | succ k =>
    show fl p k = fl p (k + 1)
    unfold fl
    simp only [dn_full (p := p) (i := k) (k := k + 1) h (by omega)]
theorem fb0_lt (p : Pt) (k : Nat) : fb0 p k < 16 := by cases k; exact (by decide : 0 < 16); exact fb_lt _ _ _ _
/-- the tokens so far -/
theorem mix_step (l : List Int) (i : Nat) (h : i < l.length) : mix (l.take (i + 1)) = mix (l.take i) ||| mix [l.getD i 0] := by
  have e : l.take (i + 1) = l.take i ++ [l.getD i 0] := by rw [List.take_add_one, List.getElem?_eq_getElem h]; simp [List.getD, h]
  rw [e]
  unfold mix
  rw [fb_or]
  simp
/-- Source and Dest out of the flags -/
theorem src_fl {p : Pt} {k : Nat} : src p k = if fl p k &&& (if sender p k = 0 then 4 else 2) ≠ 0 then 2 else if fl p k &&& 8 ≠ 0 then 1 else 0 := by
  unfold src fl stc
  by_cases h : sender p k = 0
  · simp only [h, if_true]
    cases dn p k 3 <;> cases dn p k 4 <;> cases dn p k 5 <;> cases dn p k 6 <;> decide
  · simp only [h, if_false]
    cases dn p k 3 <;> cases dn p k 4 <;> cases dn p k 5 <;> cases dn p k 6 <;> decide
theorem dst_fl {p : Pt} {k : Nat} (hk : sender p k = 0 ∨ sender p k = 1) : dst p k =
    if fl p k &&& (1 ||| (if sender p k = 0 then 2 else 4)) = 0 then 0 else if fl p k &&& (if sender p k = 0 then 2 else 4) = 0 then 1 else if fl p k &&& 1 = 0 then 2 else 3 + bst p (sender p k) k := by
  unfold dst fl stc
  rcases hk with h | h
  · simp only [h, if_true, show ¬ ((1 : Int) - 0 = 0) by decide, if_false]
    generalize bst p 0 k = b
    cases dn p k 3 <;> cases dn p k 4 <;> cases dn p k 5 <;> cases dn p k 6 <;> simp [fb]
  · simp only [h, show ((1 : Int) - 1 = 0) by decide, if_true, show ¬ ((1 : Int) = 0) by decide, if_false]
    generalize bst p 1 k = b
    cases dn p k 3 <;> cases dn p k 4 <;> cases dn p k 5 <;> cases dn p k 6 <;> simp [fb]
end Go.Pat
namespace Go.Proofs.YtjhleocpipmklaaDoor
set_option linter.unusedSimpArgs false
set_option linter.unusedVariables false
open Go.ChangeShapes Go.WideShapes Go.ChangeAt Go.RowKit Go.Pin Go.Pat
theorem u8_and : ∀ f g : Fin 16, bits .and .u8 ((f.val : Nat) : Int) ((g.val : Nat) : Int) = (((f.val &&& g.val : Nat)) : Int) := by decide +kernel
theorem u8_or : ∀ f g : Fin 16, bits .or .u8 ((f.val : Nat) : Int) ((g.val : Nat) : Int) = (((f.val ||| g.val : Nat)) : Int) := by decide +kernel
theorem gother_any (s : Int) (hs : s = 0 ∨ s = 1) (w : World) : Calls Tryd.prog 27 #[.int .i64 s] w fun e w' => e = .returned (.int .i64 (1 - s)) ∧ w' = w := by
  have h : wrap64 (1 - s) = 1 - s := IntWalk.wrap64_in _ ⟨by omega, by omega⟩
  go_enter Tryd.func27, Tryd.ntmps27
  go_wp2
  go_ret
  exact ⟨rfl, rfl⟩
theorem ghas_any (f g : Nat) (hf : f < 16) (hg : g < 16) (w : World) : Calls Tryd.prog 46 #[.int .u8 (f : Int), .int .u8 (g : Int)] w fun e w' => e = .returned (.bool (decide (f &&& g ≠ 0))) ∧ w' = w := by
  have h : bits .and .u8 (f : Int) (g : Int) = ((f &&& g : Nat) : Int) := u8_and ⟨f, hf⟩ ⟨g, hg⟩
  go_enter Tryd.func46, Tryd.ntmps46
  go_wp2
  go_ret
  refine ⟨?_, rfl⟩
  show Ending.returned (.bool (((f &&& g : Nat) : Int) != 0)) = _
  by_cases hz : f &&& g = 0
  · simp [hz]
  · simp [hz]
def prv (s : Int) : Nat := if s = 0 then 4 else 2
set_option maxRecDepth 100000 in
theorem gproves_any (s : Int) (hs : s = 0 ∨ s = 1) (w : World) : Calls Tryd.prog 47 #[.int .i64 s] w fun e w' => e = .returned (.int .u8 (prv s : Int)) ∧ w' = w := by
  rcases hs with rfl | rfl
  · have i0 : ∀ w, (Instr.index 125 (.agg #[.int .u8 4, .int .u8 2]) (.int .i64 0)).run Tryd.prog w = .ok (.int .u8 4) w := fun _ => by kernel_rfl
    go_enter Tryd.func47, Tryd.ntmps47
    go_wp2
    go_ret
    exact ⟨rfl, rfl⟩
  · have i0 : ∀ w, (Instr.index 125 (.agg #[.int .u8 4, .int .u8 2]) (.int .i64 1)).run Tryd.prog w = .ok (.int .u8 2) w := fun _ => by kernel_rfl
    go_enter Tryd.func47, Tryd.ntmps47
    go_wp2
    go_ret
    exact ⟨rfl, rfl⟩
theorem mix_none {t : Int} (h3 : t ≠ 3) (h4 : t ≠ 4) (h5 : t ≠ 5) (h6 : t ≠ 6) : mix [t] = 0 := by simp [mix, fb, h3, h4, h5, h6]
set_option maxRecDepth 100000 in
set_option maxHeartbeats 4000000 in
theorem mixed_any {u : Value} {C : List Int} (w : World) (hu : RdN w u C) :
    Calls Tryd.prog 24 #[u] w fun e w' => e = .returned (.int .u8 (mix C : Int)) ∧ w' = w := by
  obtain ⟨a, cap, rfl, -, hm, -⟩ := id hu
  have hat := hu.at.2.2
  obtain ⟨n, hn⟩ : ∃ n, C.length = n := ⟨_, rfl⟩
  rw [hn] at hat hm
  simp only [hn]
  have HAT : Hid _ := hat
  have HN : Hid (C.length = n ∧ n ≤ 140737488355328) := ⟨hn, hm⟩
  clear hat hm hu
  go_enter Tryd.func24, Tryd.ntmps24
  go_wp2
  go_loopw [2, 7] (fun v2 v7 wr => ∃ i : Nat, i ≤ n ∧ v7 = .int .i64 i ∧ v2 = .int .u8 (mix (C.take i) : Int) ∧ wr = w) (fun _ v _ => n - (intOf v).toNat)
  case atStart => exact ⟨0, Nat.zero_le _, rfl, rfl, rfl⟩
  case round =>
    obtain ⟨i, hi, rfl, rfl, rfl⟩ := hrel
    by_cases hlt : i < n
    · have b1 : (i : Int) < (n : Int) := by omega
      obtain ⟨b, o, rfl, hc⟩ := HAT.out i hlt
      have c := hc wr (Below.refl _ _)
      obtain ⟨t, ht⟩ : ∃ t, C.getD i 0 = t := ⟨_, rfl⟩
      obtain ⟨m, hmx⟩ : ∃ m, mix (C.take i) = m := ⟨_, rfl⟩
      have hst := mix_step C i (by rw [HN.out.1]; exact hlt)
      rw [ht, hmx] at hst
      have hm16 : m < 16 := by rw [← hmx]; exact fb_lt _ _ _ _
      rw [ht] at c
      rw [hmx]
      have HST : Hid (mix (C.take (i + 1)) = m ||| mix [t]) := hst
      have HI : Hid (i < n ∧ n ≤ 140737488355328) := ⟨hlt, HN.out.2⟩
      clear hst hc hi hlt
      by_cases t3 : t = 3
      · subst t3
        have hor : bits .or .u8 (m : Int) 1 = ((m ||| 1 : Nat) : Int) := u8_or ⟨m, hm16⟩ ⟨1, by decide⟩
        have HM : Hid (m < 16) := hm16
        clear hm16
        go_wp2
        exact ⟨⟨i + 1, HI.out.1, congrArg (Value.int .i64) (wrapS HI.out.1 HI.out.2), by rw [HST.out]; rfl, trivial⟩, measS HI.out.1 HI.out.2⟩
      by_cases t4 : t = 4
      · subst t4
        have hor : bits .or .u8 (m : Int) 2 = ((m ||| 2 : Nat) : Int) := u8_or ⟨m, hm16⟩ ⟨2, by decide⟩
        have HM : Hid (m < 16) := hm16
        clear hm16
        go_wp2
        exact ⟨⟨i + 1, HI.out.1, congrArg (Value.int .i64) (wrapS HI.out.1 HI.out.2), by rw [HST.out]; rfl, trivial⟩, measS HI.out.1 HI.out.2⟩
      by_cases t5 : t = 5
      · subst t5
        have hor : bits .or .u8 (m : Int) 4 = ((m ||| 4 : Nat) : Int) := u8_or ⟨m, hm16⟩ ⟨4, by decide⟩
        have HM : Hid (m < 16) := hm16
        clear hm16
        go_wp2
        exact ⟨⟨i + 1, HI.out.1, congrArg (Value.int .i64) (wrapS HI.out.1 HI.out.2), by rw [HST.out]; rfl, trivial⟩, measS HI.out.1 HI.out.2⟩
      by_cases t6 : t = 6
      · subst t6
        have hor : bits .or .u8 (m : Int) 8 = ((m ||| 8 : Nat) : Int) := u8_or ⟨m, hm16⟩ ⟨8, by decide⟩
        have HM : Hid (m < 16) := hm16
        clear hm16
        go_wp2
        exact ⟨⟨i + 1, HI.out.1, congrArg (Value.int .i64) (wrapS HI.out.1 HI.out.2), by rw [HST.out]; rfl, trivial⟩, measS HI.out.1 HI.out.2⟩
      clear hm16
      go_wp2
      exact ⟨⟨i + 1, HI.out.1, congrArg (Value.int .i64) (wrapS HI.out.1 HI.out.2), by rw [HST.out, mix_none t3 t4 t5 t6, Nat.or_zero], trivial⟩, measS HI.out.1 HI.out.2⟩
    · have b1 : ¬ (i : Int) < (n : Int) := by omega
      obtain rfl : i = n := by omega
      have HTK : Hid (C.take i = C) := List.take_of_length_le (by rw [HN.out.1]; exact Nat.le_refl _)
      go_wp2
      go_ret
      refine ⟨?_, rfl⟩
      rw [HTK.out]
      rfl
theorem and_lt16 {f g : Nat} (hf : f < 16) : f &&& g < 16 := Nat.lt_of_le_of_lt Nat.and_le_left hf
theorem prv_lt (s : Int) : prv s < 16 := by unfold prv; split <;> decide
set_option maxRecDepth 100000 in
theorem gsource_any (f : Nat) (hf : f < 16) (s : Int) (hs : s = 0 ∨ s = 1) (w : World) : Calls Tryd.prog 25 #[.int .u8 (f : Int), .int .i64 s] w fun e w' => e = .returned (.int .i64 (if f &&& prv s ≠ 0 then 2 else if f &&& 8 ≠ 0 then 1 else 0)) ∧ w' = w := by
  have CP := gproves_any s hs w
  have C1 := ghas_any f (prv s) hf (prv_lt s) w
  have C2 := ghas_any f 8 hf (by decide) w
  clear hs hf
  obtain ⟨r, hr⟩ : ∃ r, prv s = r := ⟨_, rfl⟩
  rw [hr] at CP C1 ⊢
  clear hr
  by_cases h1 : f &&& r = 0
  · by_cases h2 : f &&& 8 = 0
    · simp only [h1, h2, ne_eq, not_true, decide_false, if_false] at C1 C2 ⊢
      clear h1 h2
      go_enter Tryd.func25, Tryd.ntmps25
      go_wp2_with (first
        | (go_at_call 47; refine Calls.mono CP ?_; clear CP; rintro e w1 ⟨rfl, rfl⟩)
        | (go_at_call 46; refine Calls.mono C1 ?_; clear C1; rintro e w1 ⟨rfl, rfl⟩)
        | (go_at_call 46; refine Calls.mono C2 ?_; clear C2; rintro e w1 ⟨rfl, rfl⟩))
      go_ret
      exact ⟨rfl, rfl⟩
    · simp only [h1, h2, ne_eq, not_true, not_false_iff, decide_false, decide_true, if_false, if_true] at C1 C2 ⊢
      clear h1 h2
      go_enter Tryd.func25, Tryd.ntmps25
      go_wp2_with (first
        | (go_at_call 47; refine Calls.mono CP ?_; clear CP; rintro e w1 ⟨rfl, rfl⟩)
        | (go_at_call 46; refine Calls.mono C1 ?_; clear C1; rintro e w1 ⟨rfl, rfl⟩)
        | (go_at_call 46; refine Calls.mono C2 ?_; clear C2; rintro e w1 ⟨rfl, rfl⟩))
      go_ret
      exact ⟨rfl, rfl⟩
  · simp only [h1, ne_eq, not_false_iff, decide_true, if_true] at C1 ⊢
    clear h1 C2
    go_enter Tryd.func25, Tryd.ntmps25
    go_wp2_with (first
      | (go_at_call 47; refine Calls.mono CP ?_; clear CP; rintro e w1 ⟨rfl, rfl⟩)
      | (go_at_call 46; refine Calls.mono C1 ?_; clear C1; rintro e w1 ⟨rfl, rfl⟩))
    go_ret
    exact ⟨rfl, rfl⟩
theorem or1_lt {r : Nat} (h : r < 16) : 1 ||| r < 16 := Nat.or_lt_two_pow (n := 4) (by decide) h
def dfl (f r : Nat) (sh : Int) : Int := if f &&& (1 ||| r) = 0 then 0 else if f &&& r = 0 then 1 else if f &&& 1 = 0 then 2 else 3 + sh
set_option maxRecDepth 100000 in
set_option maxHeartbeats 2000000 in
theorem gdest_any (f : Nat) (hf : f < 16) (s : Int) (hs : s = 0 ∨ s = 1) (sh : Int) (h0 : sh = 0 ∨ sh = 1 ∨ sh = 2) (w : World) : Calls Tryd.prog 26 #[.int .u8 (f : Int), .int .i64 s, .int .i64 sh] w fun e w' => e = .returned (.int .i64 (dfl f (prv (1 - s)) sh)) ∧ w' = w := by
  have CO := gother_any s hs w
  have CP := gproves_any (1 - s) (by omega) w
  have h16 := prv_lt (1 - s)
  obtain ⟨r, hr⟩ : ∃ r, prv (1 - s) = r := ⟨_, rfl⟩
  rw [hr] at CP h16 ⊢
  have hor : bits .or .u8 1 (r : Int) = ((1 ||| r : Nat) : Int) := u8_or ⟨1, by decide⟩ ⟨r, h16⟩
  have C1 := ghas_any f (1 ||| r) hf (or1_lt h16) w
  have C2 := ghas_any f r hf h16 w
  have C3 := ghas_any f 1 hf (by decide) w
  obtain ⟨o, ho⟩ : ∃ o, 1 ||| r = o := ⟨_, rfl⟩
  rw [ho] at C1 hor
  unfold dfl
  rw [ho]
  clear hs hf hr h16 ho
  have key : ∀ x : Nat, f &&& x = 0 → decide (f &&& x ≠ 0) = false := fun x h => by simp [h]
  have key' : ∀ x : Nat, ¬ f &&& x = 0 → decide (f &&& x ≠ 0) = true := fun x h => by simp [h]
  by_cases h1 : f &&& o = 0
  · rw [key _ h1] at C1
    rw [if_pos h1]
    clear C2 C3 h0
    go_enter Tryd.func26, Tryd.ntmps26
    go_wp2_with (first
      | (go_at_call 27; refine Calls.mono CO ?_; clear CO; rintro e w1 ⟨rfl, rfl⟩)
      | (go_at_call 47; refine Calls.mono CP ?_; clear CP; rintro e w1 ⟨rfl, rfl⟩)
      | (go_at_call 46; refine Calls.mono C1 ?_; clear C1; rintro e w1 ⟨rfl, rfl⟩))
    go_ret
    exact ⟨rfl, rfl⟩
  rw [key' _ h1] at C1
  rw [if_neg h1]
  by_cases h2 : f &&& r = 0
  · rw [key _ h2] at C2
    rw [if_pos h2]
    clear C3 h0
    go_enter Tryd.func26, Tryd.ntmps26
    go_wp2_with (first
      | (go_at_call 27; refine Calls.mono CO ?_; clear CO; rintro e w1 ⟨rfl, rfl⟩)
      | (go_at_call 47; refine Calls.mono CP ?_; clear CP; rintro e w1 ⟨rfl, rfl⟩)
      | (go_at_call 46; refine Calls.mono C1 ?_; clear C1; rintro e w1 ⟨rfl, rfl⟩)
      | (go_at_call 46; refine Calls.mono C2 ?_; clear C2; rintro e w1 ⟨rfl, rfl⟩))
    go_ret
    exact ⟨rfl, rfl⟩
  rw [key' _ h2] at C2
  rw [if_neg h2]
  by_cases h3 : f &&& 1 = 0
  · rw [key _ h3] at C3
    rw [if_pos h3]
    clear h0
    go_enter Tryd.func26, Tryd.ntmps26
    go_wp2_with (first
      | (go_at_call 27; refine Calls.mono CO ?_; clear CO; rintro e w1 ⟨rfl, rfl⟩)
      | (go_at_call 47; refine Calls.mono CP ?_; clear CP; rintro e w1 ⟨rfl, rfl⟩)
      | (go_at_call 46; refine Calls.mono C1 ?_; clear C1; rintro e w1 ⟨rfl, rfl⟩)
      | (go_at_call 46; refine Calls.mono C2 ?_; clear C2; rintro e w1 ⟨rfl, rfl⟩)
      | (go_at_call 46; refine Calls.mono C3 ?_; clear C3; rintro e w1 ⟨rfl, rfl⟩))
    go_ret
    exact ⟨rfl, rfl⟩
  rw [key' _ h3] at C3
  rw [if_neg h3]
  rcases h0 with rfl | rfl | rfl
  all_goals
    go_enter Tryd.func26, Tryd.ntmps26
    go_wp2_with (first
      | (go_at_call 27; refine Calls.mono CO ?_; clear CO; rintro e w1 ⟨rfl, rfl⟩)
      | (go_at_call 47; refine Calls.mono CP ?_; clear CP; rintro e w1 ⟨rfl, rfl⟩)
      | (go_at_call 46; refine Calls.mono C1 ?_; clear C1; rintro e w1 ⟨rfl, rfl⟩)
      | (go_at_call 46; refine Calls.mono C2 ?_; clear C2; rintro e w1 ⟨rfl, rfl⟩)
      | (go_at_call 46; refine Calls.mono C3 ?_; clear C3; rintro e w1 ⟨rfl, rfl⟩))
    go_ret
    exact ⟨rfl, rfl⟩
end Go.Proofs.YtjhleocpipmklaaDoor
namespace Go.Proofs.YtjhleocpipmklaaDoor
set_option linter.unusedSimpArgs false
set_option linter.unusedVariables false
open Go.ChangeShapes Go.WideShapes Go.ChangeAt Go.RowKit Go.Pin Go.Pat
theorem ow_is (p : Pt) : oneWay p = (decide (p.ln.length = 1) && decide ((p.ln.getD 0 (0, [])).1 = 0)) := by
  unfold oneWay
  rcases hl : p.ln with _ | ⟨⟨f, ts⟩, _ | ⟨b, c⟩⟩
  · rfl
  · simp only [List.length_cons, List.length_nil, List.getD_cons_zero]
    by_cases h : f = 0 <;> simp [h]
  · simp
def TnP (p : Pt) (w : World) (e : Ending) (w' : World) : Prop :=
  e = .returned (.func (.func 45) #[] #[.pointer (some ⟨w.heap.size + 1, 0, none⟩), .pointer (some ⟨w.heap.size + 2, 0, none⟩)]) ∧ Below w.heap.size w w' ∧ w'.heap.size = w.heap.size + 3 ∧
  w'.heap[w.heap.size + 1]? = some (.cells #[.int .i64 (p.ln.getD 0 (0, [])).1] 3) ∧ w'.heap[w.heap.size + 2]? = some (.cells #[.bool (oneWay p)] 4)
set_option maxRecDepth 100000 in
set_option maxHeartbeats 4000000 in
theorem turns_any (v : Value) (p : Pt) (w : World) (h : RdP w v p) (hne : 0 < p.ln.length) : Calls Tryd.prog 23 #[v] w (TnP p w) := by
  obtain ⟨v0, v1, vl, rfl, h0, h1, hl⟩ := h
  obtain ⟨al, cl, rfl, _, hm, _⟩ := id hl
  have hst := pb_start w p.nm v0 v1 (.slice al p.ln.length cl)
  obtain ⟨b, o, a2, n2, c2, rfl, hc, -, -⟩ := hl.at hne
  have hc0 := (hc _ hst.old).1
  have hbw : b < w.heap.size := World.block_lt_of_cell? w _ ((hc w (Below.refl _ _)).1)
  have how := ow_is p
  unfold TnP
  rw [how]
  obtain ⟨fr, hfr⟩ : ∃ fr, (p.ln.getD 0 (0, [])).1 = fr := ⟨_, rfl⟩
  obtain ⟨q, hq⟩ : ∃ q, w.heap.size = q := ⟨_, rfl⟩
  obtain ⟨n, hn⟩ : ∃ n, p.ln.length = n := ⟨_, rfl⟩
  obtain ⟨nm, hnm⟩ : ∃ nm, p.nm = nm := ⟨_, rfl⟩
  simp only [hn, hq, hnm, hfr, Nat.zero_mul, Nat.add_zero] at hst hc0 hm hbw hne ⊢
  obtain ⟨W, hW⟩ : ∃ W, w.alloc (.cells #[.string nm, v0, v1, .slice (some ⟨b, o, none⟩) n cl] 26) = W := ⟨_, rfl⟩
  rw [hW] at hst hc0
  have hsz : W.heap.size = q + 1 := by rw [← hW, size_alloc, hq]
  have c3 := hst.c3
  have HP : Hid (PB q w nm v0 v1 (.slice (some ⟨b, o, none⟩) n cl) W) := hst
  have HS : Hid (W.heap.size = q + 1) := hsz
  clear hst hc how h0 h1 hl hm
  have b0 : (0 : Int) < (n : Int) := by omega
  clear hne
  have fin : ∀ x : Bool, Below q w ((W.alloc (.cells #[.int .i64 fr] 3)).alloc (.cells #[.bool x] 4)) ∧ ((W.alloc (.cells #[.int .i64 fr] 3)).alloc (.cells #[.bool x] 4)).heap.size = q + 3 ∧
      ((W.alloc (.cells #[.int .i64 fr] 3)).alloc (.cells #[.bool x] 4)).heap[q + 1]? = some (.cells #[.int .i64 fr] 3) ∧ ((W.alloc (.cells #[.int .i64 fr] 3)).alloc (.cells #[.bool x] 4)).heap[q + 2]? = some (.cells #[.bool x] 4) := fun x => by
    have hs := HS.out
    refine ⟨(HP.out.old.alloc (by omega) _).alloc (by rw [size_alloc]; omega) _, by rw [size_alloc, size_alloc, hs], ?_, ?_⟩
    · rw [heap_alloc_any, if_neg (by rw [size_alloc]; omega), ← hs]; exact heap_alloc_new _ _
    · have := heap_alloc_new (W.alloc (.cells #[.int .i64 fr] 3)) (.cells #[.bool x] 4)
      rw [size_alloc, hs] at this
      exact this
  have HF : Hid _ := fin
  clear fin
  by_cases h1 : n = 1
  · subst h1
    have e : (decide (1 = 1) && decide (fr = 0)) = (fr == 0) := by
      by_cases h : fr = 0 <;> simp [h]
    rw [e]
    clear e
    go_enter Tryd.func23, Tryd.ntmps23
    go_wp2
    go_ret
    exact ⟨rfl, HF.out _⟩
  · have b1 : ((n : Int) == 1) = false := by
      have : ¬ (n : Int) = 1 := by omega
      simpa using this
    have e : (decide (n = 1) && decide (fr = 0)) = false := by simp [h1]
    rw [e]
    clear e h1
    go_enter Tryd.func23, Tryd.ntmps23
    go_wp2
    go_ret
    exact ⟨rfl, HF.out _⟩
/-- who sends: the next one -/
theorem turn1_any (g : Nat) (f : Int) (o : Bool) (w : World) (hf : f = 0 ∨ f = 1) (h0 : w.heap[g]? = some (.cells #[.int .i64 f] 3)) (h1 : w.heap[g + 1]? = some (.cells #[.bool o] 4)) :
    Calls Tryd.prog 45 #[.pointer (some ⟨g, 0, none⟩), .pointer (some ⟨g + 1, 0, none⟩)] w fun e w' => e = .returned (.int .i64 f) ∧ w' = if o then w else w.setCell ⟨g, 0, none⟩ (.int .i64 (1 - f)) := by
  have CO := gother_any f hf w
  have c0 : w.cell? ⟨g, 0, none⟩ = some (.int .i64 f) := by rw [cell_of_row _ _ _ _ _ _ h0]; rfl
  have c1 : w.cell? ⟨g + 1, 0, none⟩ = some (.bool o) := by rw [cell_of_row _ _ _ _ _ _ h1]; rfl
  have f0 : w.frozen? ⟨g, 0, none⟩ = false := frozen_of_row _ _ _ _ _ h0
  clear h0 h1 hf
  cases o with
  | true =>
    clear CO f0
    go_enter Tryd.func45, Tryd.ntmps45
    go_wp2
    go_ret
    exact ⟨rfl, rfl⟩
  | false =>
    go_enter Tryd.func45, Tryd.ntmps45
    go_wp2_with (go_at_call 27; refine Calls.mono CO ?_; clear CO; rintro e w1 ⟨rfl, rfl⟩)
    go_ret
    exact ⟨rfl, rfl⟩
end Go.Proofs.YtjhleocpipmklaaDoor
namespace Go.Proofs.YtjhleocpipmklaaDoor
set_option linter.unusedSimpArgs false
set_option linter.unusedVariables false
open Go.ChangeShapes Go.WideShapes Go.ChangeAt Go.RowKit Go.Pin Go.Pat
/-- what is seen, as a value -/
def SV (x : Sn) : Value := .agg (x.map Value.bool).toArray
theorem twelve {x : Sn} (h : x.length = 12) : ∃ a b c d e f g i j k l m, x = [a, b, c, d, e, f, g, i, j, k, l, m] := by
  match x, h with
  | [a, b, c, d, e, f, g, i, j, k, l, m], _ => exact ⟨a, b, c, d, e, f, g, i, j, k, l, m, rfl⟩
set_option maxRecDepth 100000 in
set_option maxHeartbeats 4000000 in
theorem safe_any (x : Sn) (hx : x.length = 12) (s : Nat) (hs : s < 2) (w : World) :
    Calls Tryd.prog 51 #[SV x, .int .i64 s] w fun e w' => e = .returned (.bool (sf x s)) ∧ Below w.heap.size w w' := by
  obtain ⟨a, b, c, d, e, f, g, i, j, k, l, m, rfl⟩ := twelve hx
  have hs' : s = 0 ∨ s = 1 := by omega
  simp only [SV, List.map_cons, List.map_nil]
  rcases hs' with rfl | rfl
  all_goals
    clear hx hs
    go_enter Tryd.func51, Tryd.ntmps51
    go_wp2
    all_goals
      go_ret
      exact ⟨by simp_all [sf, B], (Below.refl _ _).alloc (Nat.le_refl _) _⟩
set_option maxRecDepth 100000 in
set_option maxHeartbeats 4000000 in
theorem has_any (x : Sn) (hx : x.length = 12) (t : Int) (w : World) :
    Calls Tryd.prog 72 #[SV x, .int .i64 t] w fun e w' => e = .returned (.bool (hs x t)) ∧ Below w.heap.size w w' := by
  obtain ⟨a, b, c, d, e, f, g, i, j, k, l, m, rfl⟩ := twelve hx
  simp only [SV, List.map_cons, List.map_nil]
  clear hx
  go_enter Tryd.func72, Tryd.ntmps72
  go_wp2
  all_goals
    go_ret
    exact ⟨by simp_all [hs, B], (Below.refl _ _).alloc (Nat.le_refl _) _⟩
end Go.Proofs.YtjhleocpipmklaaDoor
