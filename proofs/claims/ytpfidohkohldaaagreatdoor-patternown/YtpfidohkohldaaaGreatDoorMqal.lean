import Derived.Test.YtpfidohkohldaaaGreatDoorMqak
/- the program's reader, az data; it reads what is of the form, and nothing else -/
namespace Go.Pat
def lw (b : UInt8) : Bool := decide (97 ≤ b.toNat) && decide (b.toNat ≤ 122)
def ctb (f : UInt8 → Bool) : List UInt8 → Nat
  | [] => 0
  | b :: r => if f b then ctb f r + 1 else 0
theorem ctb_le (f : UInt8 → Bool) : ∀ l, ctb f l ≤ l.length
  | [] => Nat.le_refl _
  | b :: r => by
    have := ctb_le f r
    unfold ctb
    split
    · simp; omega
    · simp
theorem ctb_all (f : UInt8 → Bool) : ∀ l : List UInt8, ∀ x ∈ l.take (ctb f l), f x = true
  | [] => fun x hx => by simp [ctb] at hx
  | b :: r => fun x hx => by
    unfold ctb at hx
    split at hx
    · rename_i hb
      rw [List.take_succ_cons] at hx
      rcases List.mem_cons.1 hx with rfl | hx
      · exact hb
      · exact ctb_all f r x hx
    · simp at hx
theorem ctb_app (f : UInt8 → Bool) : ∀ (a : List UInt8) (c : UInt8) (r : List UInt8), (∀ x ∈ a, f x = true) → f c = false → ctb f (a ++ c :: r) = a.length
  | [], c, r, _, hc => by simp [ctb, hc]
  | b :: a, c, r, h, hc => by
    rw [List.cons_append, ctb, if_pos (h b (by simp)), ctb_app f a c r (fun x hx => h x (by simp [hx])) hc]
    rfl
/-- a token, and what follows -/
def tokL (l : List UInt8) : Option (Int × List UInt8) :=
  if ctb lw l = 0 then none
  else if tokO ⟨(l.take (ctb lw l)).toArray⟩ 7 = 0 then none
  else some ((tokO ⟨(l.take (ctb lw l)).toArray⟩ 7 : Int), l.drop (ctb lw l))
theorem tokL_bck {l r : List UInt8} {t : Int} (h : tokL l = some (t, r)) : l = toL (wrd t) ++ r ∧ T7 t ∧ r.length < l.length := by
  unfold tokL at h
  split at h
  · simp at h
  rename_i h0
  split at h
  · simp at h
  rename_i h1
  injection h with h
  injection h with h2 h3
  have hb := tokO_back _ 7 h1
  have hle := ctb_le lw l
  subst h2 h3
  refine ⟨?_, ⟨by omega, by omega⟩, by rw [List.length_drop]; omega⟩
  rw [hb.1]
  simp [toL]
theorem wrd_lw {t : Int} (h : T7 t) : ∀ x ∈ toL (wrd t), lw x = true := by
  rcases t7_cases h with rfl | rfl | rfl | rfl | rfl | rfl | rfl <;> decide
theorem tokL_fwd {t : Int} (h : T7 t) (c : UInt8) (r : List UInt8) (hc : lw c = false) : tokL (toL (wrd t) ++ c :: r) = some (t, c :: r) := by
  have hw := wrd_tok h
  have hn := ctb_app lw (toL (wrd t)) c r (wrd_lw h) hc
  unfold tokL
  rw [hn, if_neg (by omega)]
  have e : (⟨((toL (wrd t) ++ c :: r).take (toL (wrd t)).length).toArray⟩ : ByteArray) = wrd t := toL_inj (by simp [toL])
  rw [e]
  have h1 := hw.1
  rw [if_neg (by intro e0; rw [e0] at h1; unfold T7 at h; simp at h1; omega), h1]
  simp
def pfx (p l : List UInt8) : Bool := p.isPrefixOf l
theorem pfx_true {p l : List UInt8} (h : pfx p l = true) : l = p ++ l.drop p.length := by
  obtain ⟨r, rfl⟩ := List.isPrefixOf_iff_prefix.1 h
  simp
theorem pfx_app (p r : List UInt8) : pfx p (p ++ r) = true := List.isPrefixOf_iff_prefix.2 ⟨r, rfl⟩
/-- further tokens of a row -/
def moreL (l : List UInt8) : Option (List Int × List UInt8) :=
  if pfx [44, 32] l then
    match _h : tokL (l.drop 2) with
    | none => none
    | some (t, r) => (moreL r).map fun x => (t :: x.1, x.2)
  else some ([], l)
termination_by l.length
decreasing_by
  have := (tokL_bck _h).2.2
  rw [List.length_drop] at this
  omega
theorem moreL_no {l : List UInt8} (h : pfx [44, 32] l = false) : moreL l = some ([], l) := by rw [moreL, h]; rfl
theorem moreL_yes {l : List UInt8} (h : pfx [44, 32] l = true) : moreL l = match tokL (l.drop 2) with
    | none => none
    | some (t, r) => (moreL r).map fun x => (t :: x.1, x.2) := by
  rw [moreL, if_pos h]
  split <;> simp_all
theorem moreL_bck : ∀ (n : Nat) (l r : List UInt8) (ts : List Int), l.length ≤ n → moreL l = some (ts, r) → (∀ t, T7 t → toL (wrd t) ++ l = WL (t :: ts) ++ r) ∧ (∀ t ∈ ts, T7 t) ∧ r.length ≤ l.length
  | 0, l, r, ts, hn, h => by
    obtain rfl : l = [] := List.length_eq_zero_iff.1 (by omega)
    rw [moreL_no rfl] at h
    injection h with h
    injection h with h1 h2
    subst h1 h2
    exact ⟨fun t _ => rfl, fun t ht => by simp at ht, Nat.le_refl _⟩
  | n + 1, l, r, ts, hn, h => by
    cases hp : pfx [44, 32] l with
    | false =>
      rw [moreL_no hp] at h
      injection h with h
      injection h with h1 h2
      subst h1 h2
      exact ⟨fun t _ => rfl, fun t ht => by simp at ht, Nat.le_refl _⟩
    | true =>
      rw [moreL_yes hp] at h
      have hl := pfx_true hp
      cases ht : tokL (l.drop 2) with
      | none => rw [ht] at h; simp at h
      | some x =>
        obtain ⟨t, r1⟩ := x
        rw [ht] at h
        simp only [Option.map_eq_some_iff] at h
        obtain ⟨⟨ts', r'⟩, h1, h2⟩ := h
        injection h2 with h2 h3
        subst h2 h3
        obtain ⟨g1, g2, g3⟩ := tokL_bck ht
        rw [List.length_drop] at g3
        obtain ⟨k1, k2, k3⟩ := moreL_bck n r1 r' ts' (by omega) h1
        refine ⟨fun u hu => ?_, fun u hu => ?_, Nat.le_trans k3 (Nat.le_trans (Nat.le_of_lt g3) (Nat.sub_le _ _))⟩
        · rw [WL_cons (by simp), hl]
          simp only [List.length_cons, List.length_nil]
          rw [g1, k1 t g2]
          simp
        · rcases List.mem_cons.1 hu with rfl | hu
          · exact g2
          · exact k2 u hu
/-- what stands behind a word within a row -/
theorem moreL_fwd : ∀ (ts : List Int) (t : Int) (r : List UInt8), (∀ u ∈ t :: ts, T7 u) → ∃ l, WL (t :: ts) ++ 10 :: r = toL (wrd t) ++ l ∧ (∃ c m, l = c :: m ∧ lw c = false) ∧ moreL l = some (ts, 10 :: r)
  | [], t, r, h => ⟨10 :: r, rfl, ⟨10, r, rfl, rfl⟩, moreL_no rfl⟩
  | u :: ts, t, r, h => by
    obtain ⟨l, h1, ⟨c, m, h2, h3⟩, h4⟩ := moreL_fwd ts u r (fun x hx => h x (by simp [List.mem_cons.1 hx]))
    refine ⟨44 :: 32 :: (toL (wrd u) ++ l), ?_, ⟨44, _, rfl, rfl⟩, ?_⟩
    · rw [WL_cons (by simp), List.append_assoc, List.cons_append, List.cons_append, h1]
    · rw [moreL_yes rfl]
      have e : (44 :: 32 :: (toL (wrd u) ++ l)).drop 2 = toL (wrd u) ++ l := rfl
      rw [e, h2, tokL_fwd (h u (by simp)) c m h3, ← h2]
      simp only
      rw [h4]
      rfl
/-- a row's tokens, up tz its end -/
def toksL (l : List UInt8) : Option (List Int × List UInt8) :=
  match tokL l with
  | none => none
  | some (t, r) => match moreL r with
    | none => none
    | some (ts, r') => if pfx [10] r' then some (t :: ts, r'.drop 1) else none
theorem toksL_bck {l r : List UInt8} {ts : List Int} (h : toksL l = some (ts, r)) : l = WL ts ++ 10 :: r ∧ ts ≠ [] ∧ (∀ t ∈ ts, T7 t) ∧ r.length < l.length := by
  unfold toksL at h
  cases ht : tokL l with
  | none => rw [ht] at h; simp at h
  | some x =>
    obtain ⟨t, r1⟩ := x
    rw [ht] at h
    simp only at h
    cases hm : moreL r1 with
    | none => rw [hm] at h; simp at h
    | some y =>
      obtain ⟨us, r2⟩ := y
      rw [hm] at h
      simp only at h
      split at h
      · rename_i hp
        injection h with h
        injection h with h1 h2
        subst h1 h2
        obtain ⟨g1, g2, g3⟩ := tokL_bck ht
        obtain ⟨k1, k2, k3⟩ := moreL_bck _ _ _ _ (Nat.le_refl _) hm
        have hl := pfx_true hp
        simp only [List.length_cons, List.length_nil] at hl
        refine ⟨?_, by simp, fun u hu => ?_, by rw [List.length_drop]; omega⟩
        · rw [g1, k1 t g2]
          conv => lhs; rw [hl]
          rfl
        · rcases List.mem_cons.1 hu with rfl | hu
          · exact g2
          · exact k2 u hu
      · simp at h
theorem toksL_fwd {ts : List Int} (h0 : ts ≠ []) (h : ∀ t ∈ ts, T7 t) (r : List UInt8) : toksL (WL ts ++ 10 :: r) = some (ts, r) := by
  cases ts with
  | nil => exact absurd rfl h0
  | cons t ts =>
    obtain ⟨l, h1, ⟨c, m, h2, h3⟩, h4⟩ := moreL_fwd ts t r h
    unfold toksL
    rw [h1, h2, tokL_fwd (h t (by simp)) c m h3, ← h2]
    simp only
    rw [h4]
    rfl
def hA : List UInt8 := [32, 32, 45, 62, 32]
def hB : List UInt8 := [32, 32, 60, 45, 32]
def dL : List UInt8 := [32, 32, 46, 46, 46, 10]
/-- rows that follow one another -/
def rowsL (l : List UInt8) : Option (List Ln × List UInt8) :=
  if pfx hA l then
    match _h : toksL (l.drop 5) with
    | none => none
    | some (ts, r) => (rowsL r).map fun x => ((0, ts) :: x.1, x.2)
  else if pfx hB l then
    match _h : toksL (l.drop 5) with
    | none => none
    | some (ts, r) => (rowsL r).map fun x => ((1, ts) :: x.1, x.2)
  else some ([], l)
termination_by l.length
decreasing_by
  all_goals
    have := (toksL_bck _h).2.2.2
    rw [List.length_drop] at this
    omega
theorem rowsL_no {l : List UInt8} (h1 : pfx hA l = false) (h2 : pfx hB l = false) : rowsL l = some ([], l) := by rw [rowsL, h1, h2]; rfl
theorem rowsL_A {l : List UInt8} (h : pfx hA l = true) : rowsL l = match toksL (l.drop 5) with
    | none => none
    | some (ts, r) => (rowsL r).map fun x => ((0, ts) :: x.1, x.2) := by
  rw [rowsL, if_pos h]
  split <;> simp_all
theorem rowsL_B {l : List UInt8} (h1 : pfx hA l = false) (h : pfx hB l = true) : rowsL l = match toksL (l.drop 5) with
    | none => none
    | some (ts, r) => (rowsL r).map fun x => ((1, ts) :: x.1, x.2) := by
  rw [rowsL, if_neg (by simp [h1]), if_pos h]
  split <;> simp_all
/-- the text of messages -/
def RL : List Ln → List UInt8
  | [] => []
  | (f, ts) :: L => (if f = 1 then hB else hA) ++ WL ts ++ 10 :: RL L
def LnOk (L : List Ln) : Prop := ∀ x ∈ L, (x.1 = 0 ∨ x.1 = 1) ∧ x.2 ≠ [] ∧ ∀ t ∈ x.2, T7 t
theorem rowsL_bck : ∀ (n : Nat) (l r : List UInt8) (L : List Ln), l.length ≤ n → rowsL l = some (L, r) → l = RL L ++ r ∧ LnOk L ∧ r.length ≤ l.length
  | 0, l, r, L, hn, h => by
    obtain rfl : l = [] := List.length_eq_zero_iff.1 (by omega)
    rw [rowsL_no rfl rfl] at h
    injection h with h
    injection h with h1 h2
    subst h1 h2
    exact ⟨rfl, fun x hx => by simp at hx, Nat.le_refl _⟩
  | n + 1, l, r, L, hn, h => by
    cases hp : pfx hA l with
    | true =>
      rw [rowsL_A hp] at h
      have hl := pfx_true hp
      cases ht : toksL (l.drop 5) with
      | none => rw [ht] at h; simp at h
      | some x =>
        obtain ⟨ts, r1⟩ := x
        rw [ht] at h
        simp only [Option.map_eq_some_iff] at h
        obtain ⟨⟨L', r'⟩, h1, h2⟩ := h
        injection h2 with h2 h3
        subst h2 h3
        obtain ⟨g1, g2, g3, g4⟩ := toksL_bck ht
        rw [List.length_drop] at g4
        obtain ⟨k1, k2, k3⟩ := rowsL_bck n r1 r' L' (by omega) h1
        refine ⟨?_, fun u hu => ?_, Nat.le_trans k3 (Nat.le_trans (Nat.le_of_lt g4) (Nat.sub_le _ _))⟩
        · rw [hl]
          show hA ++ l.drop 5 = _
          rw [g1, k1, RL]
          simp
        · rcases List.mem_cons.1 hu with rfl | hu
          · exact ⟨.inl rfl, g2, g3⟩
          · exact k2 u hu
    | false =>
      cases hq : pfx hB l with
      | true =>
        rw [rowsL_B hp hq] at h
        have hl := pfx_true hq
        cases ht : toksL (l.drop 5) with
        | none => rw [ht] at h; simp at h
        | some x =>
          obtain ⟨ts, r1⟩ := x
          rw [ht] at h
          simp only [Option.map_eq_some_iff] at h
          obtain ⟨⟨L', r'⟩, h1, h2⟩ := h
          injection h2 with h2 h3
          subst h2 h3
          obtain ⟨g1, g2, g3, g4⟩ := toksL_bck ht
          rw [List.length_drop] at g4
          obtain ⟨k1, k2, k3⟩ := rowsL_bck n r1 r' L' (by omega) h1
          refine ⟨?_, fun u hu => ?_, Nat.le_trans k3 (Nat.le_trans (Nat.le_of_lt g4) (Nat.sub_le _ _))⟩
          · rw [hl]
            show hB ++ l.drop 5 = _
            rw [g1, k1, RL]
            simp
          · rcases List.mem_cons.1 hu with rfl | hu
            · exact ⟨.inr rfl, g2, g3⟩
            · exact k2 u hu
      | false =>
        rw [rowsL_no hp hq] at h
        injection h with h
        injection h with h1 h2
        subst h1 h2
        exact ⟨rfl, fun x hx => by simp at hx, Nat.le_refl _⟩
theorem rowsL_fwd : ∀ (L : List Ln) (r : List UInt8), LnOk L → pfx hA r = false → pfx hB r = false → rowsL (RL L ++ r) = some (L, r)
  | [], r, _, h1, h2 => by rw [RL, List.nil_append, rowsL_no h1 h2]
  | (f, ts) :: L, r, h, h1, h2 => by
    obtain ⟨g1, g2, g3⟩ := h (f, ts) (by simp)
    have ih := rowsL_fwd L r (fun x hx => h x (by simp [hx])) h1 h2
    rcases g1 with g1 | g1
    · simp only at g1
      subst g1
      have e : RL ((0, ts) :: L) ++ r = hA ++ (WL ts ++ 10 :: (RL L ++ r)) := by rw [RL]; simp
      rw [e, rowsL_A (pfx_app _ _)]
      have e2 : (hA ++ (WL ts ++ 10 :: (RL L ++ r))).drop 5 = WL ts ++ 10 :: (RL L ++ r) := rfl
      rw [e2, toksL_fwd g2 g3]
      simp only
      rw [ih]
      rfl
    · simp only at g1
      subst g1
      have e : RL ((1, ts) :: L) ++ r = hB ++ (WL ts ++ 10 :: (RL L ++ r)) := by rw [RL]; simp
      rw [e, rowsL_B rfl (pfx_app _ _)]
      have e2 : (hB ++ (WL ts ++ 10 :: (RL L ++ r))).drop 5 = WL ts ++ 10 :: (RL L ++ r) := rfl
      rw [e2, toksL_fwd g2 g3]
      simp only
      rw [ih]
      rfl
/-- what the rows ahead of the points say -/
def knw : List Ln → Option (List Int × List Int)
  | [(f, a)] => if f = 0 then some (a, []) else some ([], a)
  | [(f, a), (g, b)] => if f < g then some (a, b) else none
  | _ => none
def patL (l : List UInt8) : Option Pt :=
  if ctb nmB l = 0 then none
  else if pfx [58, 10] (l.drop (ctb nmB l)) = false then none
  else match rowsL ((l.drop (ctb nmB l)).drop 2) with
    | none => none
    | some (R, r) =>
      if pfx dL r then
        match knw R with
        | none => none
        | some (b0, b1) => match rowsL (r.drop 6) with
          | none => none
          | some (R2, r2) => if r2 = [] then some ⟨⟨(l.take (ctb nmB l)).toArray⟩, b0, b1, R2⟩ else none
      else if r = [] then some ⟨⟨(l.take (ctb nmB l)).toArray⟩, [], [], R⟩ else none
/-- the rows of what is known ahead -/
def kwn (b0 b1 : List Int) : List Ln := (if b0.length = 0 then [] else [(0, b0)]) ++ (if b1.length = 0 then [] else [(1, b1)])
theorem RL_JL : ∀ L : List Ln, JL ((L.map fun x => rt x.1 x.2).map toL) = RL L
  | [] => rfl
  | (f, ts) :: L => by
    have ih := RL_JL L
    simp only [List.map_cons, JL, RL] at ih ⊢
    rw [ih, rt_toL]
    have e : toL (hdr f) = if f = 1 then hB else hA := by unfold hdr; split <;> rfl
    rw [e]
theorem Tx_eq (p : Pt) : Tx p = toL p.nm ++ 58 :: 10 :: (if 0 < p.b0.length + p.b1.length then RL (kwn p.b0 p.b1) ++ dL ++ RL p.ln else RL p.ln) := by
  have hk : bR 0 p.b0 ++ bR 1 p.b1 = (kwn p.b0 p.b1).map fun x => rt x.1 x.2 := by
    unfold bR kwn
    split <;> split <;> rfl
  have hh : toL (hd p.nm) = toL p.nm ++ [58] := by unfold hd; exact toL_app _ _
  unfold Tx rP
  rw [List.map_cons, JL, hh, hk]
  simp only [List.map_append, JL_app, RL_JL]
  unfold dR
  split
  · simp [JL, dL, toL, dotR]
  · rename_i h0
    have e0 : p.b0 = [] := List.length_eq_zero_iff.1 (by omega)
    have e1 : p.b1 = [] := List.length_eq_zero_iff.1 (by omega)
    rw [e0, e1]
    simp [JL, kwn, RL]
theorem kwn_ok {b0 b1 : List Int} (h0 : ∀ t ∈ b0, T7 t) (h1 : ∀ t ∈ b1, T7 t) : LnOk (kwn b0 b1) := fun x hx => by
  unfold kwn at hx
  rcases List.mem_append.1 hx with hx | hx
  · split at hx
    · simp at hx
    · rename_i h
      rw [List.mem_singleton.1 hx]
      exact ⟨.inl rfl, fun e => h (by simp only at e; rw [e]; rfl), h0⟩
  · split at hx
    · simp at hx
    · rename_i h
      rw [List.mem_singleton.1 hx]
      exact ⟨.inr rfl, fun e => h (by simp only at e; rw [e]; rfl), h1⟩
theorem knw_fwd {b0 b1 : List Int} (h : 0 < b0.length + b1.length) : knw (kwn b0 b1) = some (b0, b1) := by
  unfold kwn
  split
  · split
    · omega
    · rename_i e _
      rw [List.length_eq_zero_iff.1 e]
      rfl
  · split
    · rename_i e
      rw [List.length_eq_zero_iff.1 e]
      rfl
    · rfl
theorem knw_bck {R : List Ln} {b0 b1 : List Int} (hR : LnOk R) (h : knw R = some (b0, b1)) : R = kwn b0 b1 ∧ (∀ t ∈ b0, T7 t) ∧ (∀ t ∈ b1, T7 t) ∧ 0 < b0.length + b1.length := by
  match R, hR, h with
  | [], _, h => simp [knw] at h
  | [(f, a)], hR, h =>
    obtain ⟨g1, g2, g3⟩ := hR (f, a) (by simp)
    simp only at g1 g2 g3
    have ha : a.length ≠ 0 := fun e => g2 (List.length_eq_zero_iff.1 e)
    unfold knw at h
    rcases g1 with rfl | rfl
    · simp at h
      obtain ⟨rfl, rfl⟩ := h
      exact ⟨by simp [kwn, ha], g3, fun t ht => by simp at ht, by omega⟩
    · simp at h
      obtain ⟨rfl, rfl⟩ := h
      exact ⟨by simp [kwn, ha], fun t ht => by simp at ht, g3, by simp; omega⟩
  | [(f, a), (g, b)], hR, h =>
    obtain ⟨g1, g2, g3⟩ := hR (f, a) (by simp)
    obtain ⟨k1, k2, k3⟩ := hR (g, b) (by simp)
    simp only at g1 g2 g3 k1 k2 k3
    have ha : a.length ≠ 0 := fun e => g2 (List.length_eq_zero_iff.1 e)
    have hb : b.length ≠ 0 := fun e => k2 (List.length_eq_zero_iff.1 e)
    have e : knw [(f, a), (g, b)] = if f < g then some (a, b) else none := rfl
    rw [e] at h
    split at h
    · rename_i hlt
      simp at h
      obtain ⟨rfl, rfl⟩ := h
      obtain rfl : f = 0 := by omega
      obtain rfl : g = 1 := by omega
      exact ⟨by simp [kwn, ha, hb], g3, k3, by omega⟩
    · simp at h
  | _ :: _ :: _ :: _, _, h => simp [knw] at h
theorem nmB_58 : nmB 58 = false := by decide
theorem isNm_ctb {nm : ByteArray} (h : isNm nm = true) (r : List UInt8) : ctb nmB (toL nm ++ 58 :: r) = (toL nm).length ∧ (toL nm).length ≠ 0 := by
  unfold isNm at h
  simp only [Bool.and_eq_true, decide_eq_true_eq] at h
  refine ⟨ctb_app nmB _ _ _ (fun x hx => List.all_eq_true.1 h.1 x hx) nmB_58, ?_⟩
  rw [toL_len]
  exact h.2
theorem dL_hA (r : List UInt8) : pfx hA (dL ++ r) = false ∧ pfx hB (dL ++ r) = false := ⟨rfl, rfl⟩
/-- what is of the form is read -/
theorem patL_fwd {p : Pt} {l : List UInt8} (hf : Fm p) (hl : l = Tx p) : patL l = some p := by
  rw [Tx_eq] at hl
  subst hl
  obtain ⟨X, hX⟩ : ∃ X, (if 0 < p.b0.length + p.b1.length then RL (kwn p.b0 p.b1) ++ dL ++ RL p.ln else RL p.ln) = X := ⟨_, rfl⟩
  rw [hX]
  obtain ⟨c1, c2⟩ := isNm_ctb hf.nm (10 :: X)
  unfold patL
  rw [c1, if_neg c2]
  have e1 : (toL p.nm ++ 58 :: 10 :: X).drop (toL p.nm).length = 58 :: 10 :: X := by simp
  have e2 : (⟨((toL p.nm ++ 58 :: 10 :: X).take (toL p.nm).length).toArray⟩ : ByteArray) = p.nm := toL_inj (by simp [toL])
  have hp : (⟨p.nm, p.b0, p.b1, p.ln⟩ : Pt) = p := by cases p; rfl
  rw [e1, e2, if_neg (by simp [pfx])]
  have e3 : (58 :: 10 :: X).drop 2 = X := rfl
  rw [e3, ← hX]
  by_cases hpos : 0 < p.b0.length + p.b1.length
  · rw [if_pos hpos]
    have hd := dL_hA (RL p.ln)
    rw [List.append_assoc, rowsL_fwd _ _ (kwn_ok hf.b0 hf.b1) hd.1 hd.2]
    simp only
    rw [if_pos (pfx_app _ _), knw_fwd hpos]
    simp only
    have e4 : (dL ++ RL p.ln).drop 6 = RL p.ln ++ [] := by rw [List.append_nil]; rfl
    rw [e4, rowsL_fwd _ _ hf.ln rfl rfl]
    simp only
    rw [if_pos trivial, hp]
  · rw [if_neg hpos]
    have e0 : p.b0 = [] := List.length_eq_zero_iff.1 (by omega)
    have e1 : p.b1 = [] := List.length_eq_zero_iff.1 (by omega)
    rw [← List.append_nil (RL p.ln), rowsL_fwd _ _ hf.ln rfl rfl]
    simp only
    rw [if_neg (by simp [pfx, dL]), if_pos trivial]
    rw [e0, e1] at hp
    rw [hp]
/-- what is read is of the form -/
theorem patL_bck {p : Pt} {l : List UInt8} (h : patL l = some p) : Fm p ∧ l = Tx p := by
  unfold patL at h
  split at h
  · simp at h
  rename_i h0
  split at h
  · simp at h
  rename_i h1
  have h1' : pfx [58, 10] (l.drop (ctb nmB l)) = true := by simpa using h1
  have hl : l = l.take (ctb nmB l) ++ 58 :: 10 :: (l.drop (ctb nmB l)).drop 2 := by
    have := pfx_true h1'
    simp only [List.length_cons, List.length_nil] at this
    conv => lhs; rw [← List.take_append_drop (ctb nmB l) l, this]
    rfl
  have hnm : isNm ⟨(l.take (ctb nmB l)).toArray⟩ = true := by
    unfold isNm
    simp only [Bool.and_eq_true, decide_eq_true_eq]
    refine ⟨List.all_eq_true.2 fun x hx => ctb_all nmB l x (by simpa using hx), ?_⟩
    have hle := ctb_le nmB l
    show (l.take (ctb nmB l)).toArray.size ≠ 0
    rw [List.size_toArray, List.length_take]
    omega
  obtain ⟨X, hX⟩ : ∃ X, (l.drop (ctb nmB l)).drop 2 = X := ⟨_, rfl⟩
  obtain ⟨nm, hn⟩ : ∃ nm, (⟨(l.take (ctb nmB l)).toArray⟩ : ByteArray) = nm := ⟨_, rfl⟩
  have hnt : toL nm = l.take (ctb nmB l) := by subst hn; rfl
  rw [hX] at h hl
  rw [hn] at h hnm
  rw [← hnt] at hl
  cases hr : rowsL X with
  | none => rw [hr] at h; simp at h
  | some y =>
    obtain ⟨R, r⟩ := y
    rw [hr] at h
    simp only at h
    obtain ⟨k1, k2, _⟩ := rowsL_bck _ _ _ _ (Nat.le_refl _) hr
    split at h
    · rename_i hd
      cases hk : knw R with
      | none => rw [hk] at h; simp at h
      | some z =>
        obtain ⟨b0, b1⟩ := z
        rw [hk] at h
        simp only at h
        cases hr2 : rowsL (r.drop 6) with
        | none => rw [hr2] at h; simp at h
        | some z2 =>
          obtain ⟨R2, r2⟩ := z2
          rw [hr2] at h
          simp only at h
          split at h
          · rename_i he
            injection h with h
            subst h he
            obtain ⟨g1, g2, g3, g4⟩ := knw_bck k2 hk
            obtain ⟨m1, m2, _⟩ := rowsL_bck _ _ _ _ (Nat.le_refl _) hr2
            refine ⟨⟨hnm, g2, g3, m2⟩, ?_⟩
            rw [Tx_eq, if_pos g4, hl, k1, g1]
            have := pfx_true hd
            rw [show dL.length = 6 from rfl, m1, List.append_nil] at this
            simp only
            rw [this, List.append_assoc]
          · simp at h
    · split at h
      · rename_i he
        injection h with h
        subst h he
        refine ⟨⟨hnm, fun t ht => by simp at ht, fun t ht => by simp at ht, k2⟩, ?_⟩
        rw [Tx_eq, if_neg (by simp), hl, k1, List.append_nil]
      · simp at h
/-- Parse, by the program's reader -/
theorem prs_patL (t : ByteArray) (hz : t.size ≤ 4096) : prs t = match patL (toL t) with
    | none => (zPt, 8)
    | some p => if chk p ≠ 0 then (zPt, chk p) else (p, 0) := by
  cases h : patL (toL t) with
  | none =>
    simp only
    refine prs_noform fun p hf ht => ?_
    rw [patL_fwd hf ht] at h
    simp at h
  | some p =>
    obtain ⟨hf, ht⟩ := patL_bck h
    exact prs_form hf ht hz
end Go.Pat
namespace Go.Proofs.YtpfidohkohldaaaGreatDoor
set_option linter.unusedSimpArgs false
set_option linter.unusedVariables false
set_option maxRecDepth 100000
open Go.ChangeShapes Go.WideShapes Go.ChangeAt Go.RowKit Go.Pin Go.Pat Go.Deep
theorem bsize_length (s : ByteArray) : s.size = s.toList.length := by rw [Go.ByteArray.toList_eq, Array.length_toList]; rfl
theorem inWord_any (b : UInt8) (w : World) : Calls Tryz.prog 80 #[.int .u8 b.toNat] w fun e w' => e = .returned (.bool (lw b)) ∧ w' = w := by
  obtain ⟨c, hc⟩ : ∃ c, b.toNat = c := ⟨_, rfl⟩
  have hlt : c < 256 := by rw [← hc]; exact UInt8.toNat_lt b
  have HL : Hid (lw b = (decide (97 ≤ c) && decide (c ≤ 122))) := by show lw b = _; unfold lw; rw [hc]
  rw [hc]
  clear hc
  go_enter Tryz.func80, Tryz.ntmps80
  go_wp2
  all_goals
    go_ret
    refine ⟨?_, rfl⟩
    rw [HL.out]
    simp
    first
      | done
      | (rw [Bool.eq_iff_iff]; simp only [Bool.or_eq_true, Bool.and_eq_true, decide_eq_true_eq, beq_iff_eq, Bool.false_eq_true, false_or, or_false]; omega)
      | omega
set_option maxHeartbeats 4000000 in
theorem inName_any (b : UInt8) (w : World) : Calls Tryz.prog 68 #[.int .u8 b.toNat] w fun e w' => e = .returned (.bool (nmB b)) ∧ w' = w := by
  have CW := inWord_any b w
  have hlw : lw b = (decide (97 ≤ b.toNat) && decide (b.toNat ≤ 122)) := rfl
  obtain ⟨c, hc⟩ : ∃ c, b.toNat = c := ⟨_, rfl⟩
  have hlt : c < 256 := by rw [← hc]; exact UInt8.toNat_lt b
  have HN : Hid (nmB b = (decide (65 ≤ c ∧ c ≤ 90) || decide (97 ≤ c ∧ c ≤ 122) || decide (48 ≤ c ∧ c ≤ 57) || decide (c = 43))) := by show nmB b = _; unfold nmB; rw [hc]
  rw [hlw] at CW
  rw [hc] at CW
  rw [hc]
  obtain ⟨q, hq⟩ : ∃ q, (decide (97 ≤ c) && decide (c ≤ 122)) = q := ⟨_, rfl⟩
  rw [hq] at CW
  have HQ : Hid (q = true ↔ (97 ≤ c ∧ c ≤ 122)) := by show q = true ↔ _; rw [← hq]; simp
  clear hc hq hlw
  cases q with
  | true =>
    have hq2 : 97 ≤ c ∧ c ≤ 122 := HQ.out.1 rfl
    have HR : Hid (nmB b = true) := by show nmB b = true; rw [HN.out]; simp [hq2]
    obtain ⟨g1, g2⟩ := hq2
    have g3 : (97 : Int) ≤ c := by omega
    have g4 : (c : Int) ≤ 122 := by omega
    go_enter Tryz.func68, Tryz.ntmps68
    go_wp2_with (go_at_call 80; refine CW.mono ?_; rintro e w' ⟨rfl, rfl⟩)
    all_goals
      go_ret
      refine ⟨?_, rfl⟩
      rw [HR.out]
      first | rfl | (simp_all; done) | (simp; omega)
  | false =>
    have hq2 : ¬ (97 ≤ c ∧ c ≤ 122) := fun h => by have := HQ.out.2 h; simp at this
    go_enter Tryz.func68, Tryz.ntmps68
    go_wp2_with (go_at_call 80; refine CW.mono ?_; rintro e w' ⟨rfl, rfl⟩)
    all_goals
      go_ret
      refine ⟨?_, rfl⟩
      rw [HN.out]
      simp [hq2]
      first
        | done
        | (rw [Bool.eq_iff_iff]; simp only [Bool.or_eq_true, Bool.and_eq_true, decide_eq_true_eq, beq_iff_eq, Bool.false_eq_true, false_or, or_false]; omega)
        | omega
theorem ctb_at (f : UInt8 → Bool) : ∀ (l : List UInt8) (i : Nat) (h : i < l.length), i ≤ ctb f l → (f l[i] = true → i + 1 ≤ ctb f l) ∧ (f l[i] = false → i = ctb f l)
  | [], i, h, _ => by simp at h
  | b :: r, 0, h, _ => by
    simp only [List.getElem_cons_zero, ctb]
    refine ⟨fun e => by rw [e]; simp, fun e => by rw [e]; simp⟩
  | b :: r, i + 1, h, hi => by
    have h' : i < r.length := by simpa using h
    simp only [List.getElem_cons_succ]
    unfold ctb at hi ⊢
    cases hb : f b with
    | false => rw [hb] at hi; simp at hi
    | true =>
      rw [hb] at hi
      simp only [if_true] at hi ⊢
      have := ctb_at f r i h' (by omega)
      exact ⟨fun e => by have := this.1 e; omega, fun e => by have := this.2 e; omega⟩
set_option maxHeartbeats 4000000 in
theorem nameLength_any (s : ByteArray) (hs : s.size ≤ 140737488355328) (w : World) :
    Calls Tryz.prog 49 #[.string s] w fun e w' => e = .returned (.int .i64 (ctb nmB (toL s))) ∧ w' = w := by
  obtain ⟨n, hn⟩ : ∃ n, s.size = n := ⟨_, rfl⟩
  have HN : Hid (s.size = n ∧ n ≤ 140737488355328) := ⟨hn, by omega⟩
  have hle := ctb_le nmB (toL s)
  rw [toL_len, hn] at hle
  have HLE : Hid (ctb nmB (toL s) ≤ n) := hle
  clear hle
  go_enter Tryz.func49, Tryz.ntmps49
  go_wp2
  go_loopw [3] (fun v3 wr => ∃ i : Nat, i ≤ ctb nmB (toL s) ∧ v3 = .int .i64 i ∧ wr = w) (fun v _ => n - (intOf v).toNat)
  case atStart => exact ⟨0, Nat.zero_le _, rfl, rfl⟩
  case round =>
    obtain ⟨i, hi, rfl, rfl⟩ := hrel
    by_cases hlt : i < n
    · have b1 : (i : Int) < (n : Int) := by omega
      have bn : (n : Int) ≤ 140737488355328 := by omega
      have hl : i < (toL s).length := by rw [toL_len, hn]; exact hlt
      obtain ⟨k1, k2⟩ := ctb_at nmB (toL s) i hl hi
      have hsi : i < s.size := by omega
      have e : (toL s)[i] = s[i] := rfl
      rw [e] at k1 k2
      have CN := fun y => inName_any s[i] y
      cases hb : nmB s[i] with
      | true =>
        rw [hb] at CN
        have HK : Hid (i + 1 ≤ ctb nmB (toL s)) := k1 hb
        clear k1 k2 hb hi
        go_wp2_with (go_at_call 68; refine (CN _).mono ?_; rintro e w' ⟨rfl, rfl⟩)
        exact ⟨⟨i + 1, HK.out, congrArg (Value.int .i64) (by omega), trivial⟩, by show n - ((i : Int) + 1).toNat < n - ((i : Int)).toNat; omega⟩
      | false =>
        rw [hb] at CN
        have HK : Hid (i = ctb nmB (toL s)) := k2 hb
        clear k1 k2 hb hi
        go_wp2_with (go_at_call 68; refine (CN _).mono ?_; rintro e w' ⟨rfl, rfl⟩)
        go_ret
        exact ⟨by rw [← HK.out]; rfl, rfl⟩
    · have b1 : ¬ (i : Int) < (n : Int) := by omega
      have HK : Hid (i = ctb nmB (toL s)) := by show i = _; have := HLE.out; omega
      clear hi
      go_wp2
      go_ret
      exact ⟨by rw [← HK.out]; rfl, rfl⟩
theorem ctb_full (f : UInt8 → Bool) : ∀ l : List UInt8, (ctb f l = l.length) ↔ l.all f = true
  | [] => by simp [ctb]
  | b :: r => by
    have ih := ctb_full f r
    unfold ctb
    cases hb : f b with
    | true => simp [hb]; rw [ih]; simp
    | false => simp [hb]
set_option maxHeartbeats 4000000 in
theorem pisName_any (s : ByteArray) (hs : s.size ≤ 140737488355328) (w : World) :
    Calls Tryz.prog 26 #[.string s] w fun e w' => e = .returned (.bool (isNm s)) ∧ w' = w := by
  have CL := nameLength_any s hs w
  have hfull := ctb_full nmB (toL s)
  rw [toL_len] at hfull
  obtain ⟨n, hn⟩ : ∃ n, s.size = n := ⟨_, rfl⟩
  obtain ⟨c, hc⟩ : ∃ c, ctb nmB (toL s) = c := ⟨_, rfl⟩
  rw [hc] at CL hfull
  rw [hn] at hfull hs
  have HI : Hid (isNm s = (decide (c = n) && decide (n ≠ 0))) := by
    show isNm s = _
    unfold isNm
    rw [Bool.eq_iff_iff]
    simp only [Bool.and_eq_true, decide_eq_true_eq]
    rw [hn]
    rw [show s.data.toList = toL s from rfl, hfull]
  have bn : (n : Int) ≤ 140737488355328 := by omega
  by_cases h0 : n = 0
  · have HZ : Hid (isNm s = false) := by show isNm s = false; rw [HI.out]; simp [h0]
    have hsz : s = ⟨#[]⟩ := toL_inj (List.length_eq_zero_iff.1 (by rw [toL_len, hn, h0]))
    subst hsz
    clear CL hc hn hfull h0
    go_enter Tryz.func26, Tryz.ntmps26
    go_wp2
    go_ret
    exact ⟨by rw [HZ.out]; rfl, rfl⟩
  · have hne2 : ¬ s.toList = [] := fun e => h0 (by rw [← hn, bsize_length, e]; rfl)
    have hne3 : s.toList.isEmpty = false := by simpa using hne2
    have HC : Hid (isNm s = decide ((c : Int) = (n : Int))) := by
      show isNm s = _
      rw [HI.out, Bool.eq_iff_iff]
      simp
      omega
    clear hfull h0
    go_enter Tryz.func26, Tryz.ntmps26
    go_wp2_with (go_at_call 49; refine CL.mono ?_; rintro e w' ⟨rfl, rfl⟩)
    go_ret
    refine ⟨?_, rfl⟩
    rw [HC.out]
    rfl
end Go.Proofs.YtpfidohkohldaaaGreatDoor
