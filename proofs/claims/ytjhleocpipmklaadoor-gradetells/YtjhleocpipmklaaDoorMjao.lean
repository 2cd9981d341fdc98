import Derived.Test.YtjhleocpipmklaaDoorMjan
/- texts there and back, az data: words -/
namespace Go.Pat
/-- tokens' words -/
def WL : List Int → List UInt8
  | [] => []
  | [t] => toL (wrd t)
  | t :: u :: r => toL (wrd t) ++ 44 :: 32 :: WL (u :: r)
theorem WL_cons {t : Int} {r : List Int} (h : r ≠ []) : WL (t :: r) = toL (wrd t) ++ 44 :: 32 :: WL r := by
  cases r with
  | nil => exact absurd rfl h
  | cons u r => rfl
def T7 (t : Int) : Prop := 1 ≤ t ∧ t ≤ 7
theorem t7_cases {t : Int} (h : T7 t) : t = 1 ∨ t = 2 ∨ t = 3 ∨ t = 4 ∨ t = 5 ∨ t = 6 ∨ t = 7 := by unfold T7 at h; omega
theorem wrd_tok {t : Int} (h : T7 t) : (tokO (wrd t) 7 : Int) = t ∧ (∀ x ∈ toL (wrd t), x.toNat ≠ 44 ∧ x.toNat ≠ 10) ∧ 0 < (toL (wrd t)).length := by
  rcases t7_cases h with rfl | rfl | rfl | rfl | rfl | rfl | rfl <;> decide
theorem tokO_back (x : ByteArray) : ∀ k, tokO x k ≠ 0 → wrd (tokO x k : Int) = x ∧ tokO x k ≤ k
  | 0, h => absurd rfl h
  | k + 1, h => by
    unfold tokO at h ⊢
    split
    · rename_i e; exact ⟨e, Nat.le_refl _⟩
    · rename_i e
      rw [if_neg e] at h
      have := tokO_back x k h
      exact ⟨this.1, by omega⟩
theorem cm_app : ∀ {a : List UInt8} (r : List UInt8), (∀ x ∈ a, x.toNat ≠ 44) → cm (a ++ 44 :: r) = a.length
  | [], r, _ => by simp [cm]
  | b :: a, r, h => by
    have hb : b.toNat ≠ 44 := h b (by simp)
    rw [List.cons_append, cm, if_neg hb, cm_app r (fun x hx => h x (by simp [hx]))]
    rfl
theorem cm_all : ∀ {a : List UInt8}, (∀ x ∈ a, x.toNat ≠ 44) → cm a = a.length
  | [], _ => rfl
  | b :: a, h => by
    have hb : b.toNat ≠ 44 := h b (by simp)
    rw [cm, if_neg hb, cm_all (fun x hx => h x (by simp [hx]))]
    rfl
theorem wds_fwd : ∀ (l : List Int) (f : Nat) (s : ByteArray), l ≠ [] → (∀ t ∈ l, T7 t) → toL s = WL l → l.length ≤ f → wdsN f s = some l
  | [], _, _, h, _, _, _ => absurd rfl h
  | [t], f, s, _, ht, hs, hf => by
    obtain ⟨h1, h2, h3⟩ := wrd_tok (ht t (by simp))
    obtain rfl : s = wrd t := toL_inj hs
    have hc : cma (wrd t) = (wrd t).size := by
      unfold cma
      rw [cm_all (fun x hx => (h2 x hx).1), toL_len]
    have he : (wrd t).extract 0 (wrd t).size = wrd t := toL_inj (by rw [toL_ext, List.drop_zero, List.take_of_length_le (by rw [toL_len]; exact Nat.le_refl _)])
    match f, hf with
    | f + 1, _ =>
      unfold wdsN
      rw [hc, he, if_neg (by have := (ht t (by simp)).1; omega), if_pos rfl, h1]
  | t :: u :: r, f, s, _, ht, hs, hf => by
    obtain ⟨h1, h2, h3⟩ := wrd_tok (ht t (by simp))
    rw [WL_cons (by simp)] at hs
    have hc : cma s = (wrd t).size := by
      unfold cma
      rw [show s.data.toList = toL s from rfl, hs, cm_app _ (fun x hx => (h2 x hx).1), toL_len]
    have he : s.extract 0 (wrd t).size = wrd t := toL_inj (by rw [toL_ext, hs, List.drop_zero, ← toL_len, List.take_left])
    have hsz : s.size = (wrd t).size + 2 + (WL (u :: r)).length := by rw [← toL_len s, hs]; simp; omega
    have hb : byt s ((wrd t).size + 1) = 32 := by
      unfold byt
      rw [show s.data.toList = toL s from rfl, hs, ← toL_len]
      simp [List.getD]
    have hx : toL (s.extract ((wrd t).size + 2) s.size) = WL (u :: r) := by
      rw [toL_ext, List.take_of_length_le (by rw [toL_len]; exact Nat.le_refl _), hs, ← toL_len]
      simp [List.drop_append]
    match f, hf with
    | f + 1, hf =>
      have ih := wds_fwd (u :: r) f (s.extract ((wrd t).size + 2) s.size) (by simp) (fun z hz => ht z (by simp at hz ⊢; exact .inr hz)) hx (by simp at hf ⊢; omega)
      have hnn : 0 < (WL (u :: r)).length := by
        have := (wrd_tok (ht u (by simp))).2.2
        cases r with
        | nil => exact this
        | cons v r => rw [WL_cons (by simp)]; simp; omega
      unfold wdsN
      rw [hc, he, if_neg (by have := (ht t (by simp)).1; omega), if_neg (by omega), if_neg (by rw [hb]; omega), ih, h1]
      rfl
theorem wds_bck : ∀ (f : Nat) (s : ByteArray) (l : List Int), wdsN f s = some l → toL s = WL l ∧ l ≠ [] ∧ ∀ t ∈ l, T7 t
  | 0, s, l, h => by simp [wdsN] at h
  | f + 1, s, l, h => by
    unfold wdsN at h
    split at h
    · simp at h
    · rename_i h0
      obtain ⟨h1, h2⟩ := tokO_back _ _ h0
      obtain ⟨k, hk⟩ : ∃ k, tokO (s.extract 0 (cma s)) 7 = k := ⟨_, rfl⟩
      rw [hk] at h h0 h1 h2
      have hT : T7 (k : Int) := ⟨by omega, by omega⟩
      split at h
      · rename_i hc
        rw [hc] at h1
        have he : s.extract 0 s.size = s := toL_inj (by rw [toL_ext, List.drop_zero, List.take_of_length_le (by rw [toL_len]; exact Nat.le_refl _)])
        rw [he] at h1
        injection h with h
        subst h
        exact ⟨by rw [WL, h1], by simp, fun t ht => by rw [List.mem_singleton.1 ht]; exact hT⟩
      · rename_i hc
        split at h
        · simp at h
        · rename_i hd
          have hd1 : cma s + 1 < s.size := by omega
          have hd2 : byt s (cma s + 1) = 32 := by
            by_cases h : byt s (cma s + 1) = 32
            · exact h
            · exact absurd (.inr h) hd
          obtain ⟨r, hr, rfl⟩ := Option.map_eq_some_iff.1 h
          obtain ⟨i1, i2, i3⟩ := wds_bck f _ r hr
          have hat := cm_at s.data.toList (by show cma s < _; rw [show s.data.toList.length = s.size from toL_len s]; omega)
          have e44 : (toL s)[cma s]? = some 44 := by
            have hlt : cma s < (toL s).length := by rw [toL_len]; omega
            rw [List.getElem?_eq_getElem hlt]
            have : ((toL s).getD (cma s) 0).toNat = 44 := hat
            rw [List.getD_eq_getElem?_getD, List.getElem?_eq_getElem hlt] at this
            exact congrArg some (UInt8.toNat_inj.1 this)
          have e32 : (toL s)[cma s + 1]? = some 32 := by
            have hlt : cma s + 1 < (toL s).length := by rw [toL_len]; omega
            rw [List.getElem?_eq_getElem hlt]
            have : ((toL s).getD (cma s + 1) 0).toNat = 32 := hd2
            rw [List.getD_eq_getElem?_getD, List.getElem?_eq_getElem hlt] at this
            exact congrArg some (UInt8.toNat_inj.1 this)
          have hsp : toL s = (toL s).take (cma s) ++ 44 :: 32 :: (toL s).drop (cma s + 2) := by
            have a1 := List.take_append_drop (cma s) (toL s)
            have a2 : (toL s).drop (cma s) = 44 :: (toL s).drop (cma s + 1) := by
              rw [List.drop_eq_getElem_cons (by rw [toL_len]; omega)]
              rw [List.getElem?_eq_getElem (by rw [toL_len]; omega)] at e44
              injection e44 with e44
              rw [e44]
            have a3 : (toL s).drop (cma s + 1) = 32 :: (toL s).drop (cma s + 2) := by
              rw [List.drop_eq_getElem_cons (by rw [toL_len]; omega)]
              rw [List.getElem?_eq_getElem (by rw [toL_len]; omega)] at e32
              injection e32 with e32
              rw [e32]
            rw [← a3, ← a2]
            exact a1.symm
          refine ⟨?_, by simp, ?_⟩
          · rw [WL_cons i2, h1, ← i1, toL_ext, toL_ext, List.drop_zero, List.take_of_length_le (i := s.size) (by rw [toL_len]; exact Nat.le_refl _)]
            exact hsp
          · intro t ht
            rcases List.mem_cons.1 ht with rfl | ht
            · exact hT
            · exact i3 t ht
end Go.Pat
/- texts there and back, az data: lines -/
namespace Go.Pat
theorem WL_snoc : ∀ (l : List Int) (t : Int), l ≠ [] → WL (l ++ [t]) = WL l ++ 44 :: 32 :: toL (wrd t)
  | [], _, h => absurd rfl h
  | [u], t, _ => rfl
  | u :: v :: r, t, _ => by
    have := WL_snoc (v :: r) t (by simp)
    show WL (u :: (v :: r ++ [t])) = _
    rw [WL_cons (t := u) (r := v :: r ++ [t]) (by simp), this, WL_cons (t := u) (r := v :: r) (by simp)]
    simp
theorem rowN_toL (h : ByteArray) (l : List Int) : ∀ i, i ≤ l.length → toL (rowN h l i) = toL h ++ WL (l.take i)
  | 0, _ => by simp [rowN, WL]
  | i + 1, hi => by
    have ih := rowN_toL h l i (by omega)
    have ht : l.take (i + 1) = l.take i ++ [l.getD i 0] := by
      rw [List.take_add_one, List.getElem?_eq_getElem (by omega), List.getD_eq_getElem?_getD, List.getElem?_eq_getElem (by omega)]
      rfl
    unfold rowN
    rw [toL_app, ht]
    by_cases h0 : i = 0
    · subst h0
      rw [if_pos rfl, ih]
      simp [WL]
    · rw [if_neg h0, toL_app, ih, WL_snoc _ _ (by intro e; have := congrArg List.length e; rw [List.length_take, List.length_nil] at this; omega)]
      rw [List.append_assoc, List.append_assoc]
      rfl
/-- a row of tokens, without its end -/
def rt (side : Int) (l : List Int) : ByteArray := rowN (hdr side) l l.length
theorem rt_toL (side : Int) (l : List Int) : toL (rt side l) = toL (hdr side) ++ WL l := by
  unfold rt
  rw [rowN_toL _ _ _ (Nat.le_refl _), List.take_length]
theorem row_toL (side : Int) (l : List Int) : toL (row side l) = toL (rt side l) ++ [10] := by
  unfold row rt
  rw [toL_app]
theorem WL_nl : ∀ (l : List Int), (∀ t ∈ l, T7 t) → NL (WL l)
  | [], _ => fun x hx => by simp [WL] at hx
  | [t], h => fun x hx => ((wrd_tok (h t (by simp))).2.1 x hx).2
  | t :: u :: r, h => by
    rw [WL_cons (by simp)]
    intro x hx
    simp only [List.mem_append, List.mem_cons] at hx
    rcases hx with hx | rfl | rfl | hx
    · exact ((wrd_tok (h t (by simp))).2.1 x hx).2
    · decide
    · decide
    · exact WL_nl (u :: r) (fun z hz => h z (by simp at hz ⊢; exact .inr hz)) x hx
theorem WL_len : ∀ (l : List Int), (∀ t ∈ l, T7 t) → l.length ≤ (WL l).length
  | [], _ => Nat.zero_le _
  | [t], h => (wrd_tok (h t (by simp))).2.2
  | t :: u :: r, h => by
    have := WL_len (u :: r) (fun z hz => h z (by simp at hz ⊢; exact .inr hz))
    rw [WL_cons (by simp)]
    simp at this ⊢
    omega
theorem hdr_nl (side : Int) : NL (toL (hdr side)) := by
  unfold hdr NL
  split <;> decide
theorem rt_nl (side : Int) (l : List Int) (h : ∀ t ∈ l, T7 t) : NL (toL (rt side l)) := by
  rw [rt_toL]
  intro x hx
  rcases List.mem_append.1 hx with hx | hx
  · exact hdr_nl side x hx
  · exact WL_nl l h x hx
theorem ext_head {s : ByteArray} {h : ByteArray} {r : List UInt8} (e : toL s = toL h ++ r) : s.extract 0 h.size = h ∧ toL (s.extract h.size s.size) = r := by
  refine ⟨toL_inj (by rw [toL_ext, e, List.drop_zero, ← toL_len, List.take_left]), ?_⟩
  rw [toL_ext, List.take_of_length_le (by rw [toL_len]; exact Nat.le_refl _), e, ← toL_len, List.drop_left]
theorem lin_fwd {side : Int} (hs : side = 0 ∨ side = 1) {l : List Int} (h0 : l ≠ []) (h : ∀ t ∈ l, T7 t) : lin (rt side l) = some (side, l) := by
  obtain ⟨s, hS⟩ : ∃ s, rt side l = s := ⟨_, rfl⟩
  have e := rt_toL side l
  rw [hS] at e ⊢
  obtain ⟨h1, h2⟩ := ext_head e
  have hz : s.size = 5 + (WL l).length := by rw [← toL_len s, e, List.length_append, toL_len, hdr_size]
  rw [hdr_size] at h1 h2
  have hw : wds (s.extract 5 s.size) = some l := wds_fwd l _ _ h0 h h2 (by
    have := WL_len l h
    rw [← h2, toL_len] at this
    omega)
  unfold lin
  rw [if_neg (by omega), h1, hw]
  rcases hs with rfl | rfl
  · rw [if_pos (by decide)]; rfl
  · rw [if_neg (by decide), if_pos (by decide)]; rfl
theorem lin_bck {s : ByteArray} {f : Int} {l : List Int} (h : lin s = some (f, l)) : (f = 0 ∨ f = 1) ∧ l ≠ [] ∧ (∀ t ∈ l, T7 t) ∧ s = rt f l := by
  unfold lin at h
  split at h
  · simp at h
  · rename_i hz
    have key : ∀ (g : Int) (H : ByteArray), s.extract 0 5 = H → hdr g = H → (g = 0 ∨ g = 1) → (wds (s.extract 5 s.size)).map (fun l => (g, l)) = some (f, l) → (f = 0 ∨ f = 1) ∧ l ≠ [] ∧ (∀ t ∈ l, T7 t) ∧ s = rt f l := fun g H hH hg h01 h => by
      obtain ⟨r, hr, e⟩ := Option.map_eq_some_iff.1 h
      injection e with e1 e2
      subst e1 e2
      obtain ⟨i1, i2, i3⟩ := wds_bck _ _ _ hr
      refine ⟨h01, i2, i3, toL_inj ?_⟩
      rw [rt_toL, hg, ← hH, ← i1, toL_ext, toL_ext, List.drop_zero, List.take_of_length_le (i := s.size) (by rw [toL_len]; exact Nat.le_refl _), List.take_append_drop]
    split at h
    · rename_i hH; exact key 0 hdA hH rfl (.inl rfl) h
    · split at h
      · rename_i hH; exact key 1 hdB hH rfl (.inr rfl) h
      · simp at h
theorem mls_fwd : ∀ (L : List Ln), (∀ x ∈ L, (x.1 = 0 ∨ x.1 = 1) ∧ x.2 ≠ [] ∧ ∀ t ∈ x.2, T7 t) → mls (L.map fun x => rt x.1 x.2) = some L
  | [], _ => rfl
  | (f, l) :: L, h => by
    have h1 := h (f, l) (by simp)
    rw [List.map_cons, mls, lin_fwd h1.1 h1.2.1 h1.2.2, mls_fwd L (fun x hx => h x (by simp [hx]))]
    rfl
theorem mls_bck : ∀ (R : List ByteArray) (L : List Ln), mls R = some L → R = L.map (fun x => rt x.1 x.2)
  | [], L, h => by simp [mls] at h; subst h; rfl
  | r :: R, L, h => by
    unfold mls at h
    cases hl : lin r with
    | none => rw [hl] at h; simp at h
    | some x =>
      obtain ⟨f, l⟩ := x
      rw [hl] at h
      obtain ⟨L', h1, rfl⟩ := Option.map_eq_some_iff.1 h
      rw [List.map_cons, ← mls_bck R L' h1, ← (lin_bck hl).2.2.2]
/-- rows of what is known ahead -/
def bR (side : Int) (l : List Int) : List ByteArray := if l.length = 0 then [] else [rt side l]
theorem bfr_fwd (b0 b1 : List Int) (h0 : ∀ t ∈ b0, T7 t) (h1 : ∀ t ∈ b1, T7 t) : bfr (bR 0 b0 ++ bR 1 b1) [] [] = some (b0, b1) := by
  unfold bR
  cases b0 with
  | nil =>
    cases b1 with
    | nil => rfl
    | cons y b1 =>
      simp only [List.length_nil, if_true, List.length_cons, Nat.add_one_ne_zero, if_false, List.nil_append]
      rw [bfr, lin_fwd (.inr rfl) (by simp) h1]
      simp [bfr]
  | cons x b0 =>
    cases b1 with
    | nil =>
      simp only [List.length_nil, if_true, List.length_cons, Nat.add_one_ne_zero, if_false, List.append_nil]
      rw [bfr, lin_fwd (.inl rfl) (by simp) h0]
      simp [bfr]
    | cons y b1 =>
      simp only [List.length_cons, Nat.add_one_ne_zero, if_false, List.cons_append, List.nil_append]
      rw [bfr, lin_fwd (.inl rfl) (by simp) h0]
      simp only [List.length_nil, Nat.lt_irrefl, or_self, if_false, if_true]
      rw [bfr, lin_fwd (.inr rfl) (by simp) h1]
      simp [bfr]
theorem bfr_bck2 (R : List ByteArray) (c0 c1 b0 b1 : List Int) (hc : c1 ≠ []) (h : bfr R c0 c1 = some (b0, b1)) : R = [] ∧ b0 = c0 ∧ b1 = c1 := by
  have h1 : 0 < c1.length := List.length_pos_iff.2 hc
  cases R with
  | nil => simp [bfr] at h; exact ⟨rfl, h.1.symm, h.2.symm⟩
  | cons r R =>
    unfold bfr at h
    cases hl : lin r with
    | none => rw [hl] at h; simp at h
    | some x =>
      obtain ⟨f, l⟩ := x
      rw [hl] at h
      simp [h1] at h
theorem bfr_bck1 (R : List ByteArray) (c0 b0 b1 : List Int) (hc : c0 ≠ []) (h : bfr R c0 [] = some (b0, b1)) : R = bR 1 b1 ∧ b0 = c0 := by
  have h1 : 0 < c0.length := List.length_pos_iff.2 hc
  cases R with
  | nil => simp [bfr] at h; obtain ⟨rfl, rfl⟩ := h; exact ⟨rfl, rfl⟩
  | cons r R =>
    unfold bfr at h
    cases hl : lin r with
    | none => rw [hl] at h; simp at h
    | some x =>
      obtain ⟨f, l⟩ := x
      obtain ⟨k1, k2, k3, k4⟩ := lin_bck hl
      rw [hl] at h
      rcases k1 with rfl | rfl
      · simp [h1] at h
      · simp at h
        obtain ⟨rfl, rfl, rfl⟩ := bfr_bck2 R c0 l b0 b1 k2 h
        refine ⟨?_, rfl⟩
        unfold bR
        rw [if_neg (by have := List.length_pos_iff.2 k2; omega), k4]
theorem bfr_bck (R : List ByteArray) (b0 b1 : List Int) (h : bfr R [] [] = some (b0, b1)) : R = bR 0 b0 ++ bR 1 b1 := by
  cases R with
  | nil => simp [bfr] at h; obtain ⟨rfl, rfl⟩ := h; rfl
  | cons r R =>
    unfold bfr at h
    cases hl : lin r with
    | none => rw [hl] at h; simp at h
    | some x =>
      obtain ⟨f, l⟩ := x
      obtain ⟨k1, k2, k3, k4⟩ := lin_bck hl
      have hn : l.length ≠ 0 := by have := List.length_pos_iff.2 k2; omega
      rw [hl] at h
      rcases k1 with rfl | rfl
      · simp at h
        obtain ⟨rfl, rfl⟩ := bfr_bck1 R l b0 b1 k2 h
        unfold bR
        rw [if_neg hn, k4]
        rfl
      · simp at h
        obtain ⟨rfl, rfl, rfl⟩ := bfr_bck2 R [] l b0 b1 k2 h
        unfold bR
        rw [if_neg hn, k4]
        rfl
end Go.Pat
/- texts there and back, az data: patterns -/
namespace Go.Pat
theorem isTok_t7 {l : List Int} (h : l.all isTok = true) : ∀ t ∈ l, T7 t := fun t ht => by
  have := List.all_eq_true.1 h t ht
  simp [isTok] at this
  exact ⟨by omega, by omega⟩
theorem ahd_t7 {l : List Int} (h : ahd l = true) : ∀ t ∈ l, T7 t := by
  match l, h with
  | [], _ => intro t ht; simp at ht
  | [a], h =>
    intro t ht
    rw [List.mem_singleton.1 ht]
    simp [ahd] at h
    unfold T7
    omega
  | [a, b], h =>
    intro t ht
    simp [ahd] at h
    unfold T7
    simp at ht
    omega
  | _ :: _ :: _ :: _, h => simp [ahd] at h
def dR (b0 b1 : List Int) : List ByteArray := if 0 < b0.length + b1.length then [dotR] else []
def hd (nm : ByteArray) : ByteArray := nm ++ ⟨#[58]⟩
/-- a pattern's rows -/
def rP (p : Pt) : List ByteArray := hd p.nm :: (bR 0 p.b0 ++ bR 1 p.b1 ++ dR p.b0 p.b1 ++ p.ln.map fun x => rt x.1 x.2)
theorem bef_toL (s : ByteArray) (A : List ByteArray) (h : toL s = JL (A.map toL)) (side : Int) (l : List Int) : toL (bef s side l) = JL ((A ++ bR side l).map toL) := by
  unfold bef bR
  split
  · rw [List.append_nil]; exact h
  · rw [toL_app, h, row_toL, List.map_append, JL_app]; rfl
theorem txH_toL (p : Pt) : toL (txH p) = JL ((hd p.nm :: (bR 0 p.b0 ++ bR 1 p.b1 ++ dR p.b0 p.b1)).map toL) := by
  have h0 : toL (p.nm ++ ⟨#[58, 10]⟩) = JL ([hd p.nm].map toL) := by
    rw [toL_app]
    simp only [List.map_cons, List.map_nil, JL, hd, toL_app, List.append_assoc]
    rfl
  have h2 := bef_toL _ _ (bef_toL _ _ h0 0 p.b0) 1 p.b1
  unfold txH dots dR
  split
  · rw [toL_app, h2]
    simp only [List.cons_append, List.nil_append]
    rw [List.map_cons, List.map_cons, List.map_append, List.map_append, List.map_append, JL, JL, JL_app (List.map toL _ ++ _)]
    simp [JL, dotR]
    rfl
  · rw [h2]
    simp
theorem txN_toL (p : Pt) : ∀ i, i ≤ p.ln.length → toL (txN p i) = JL ((hd p.nm :: (bR 0 p.b0 ++ bR 1 p.b1 ++ dR p.b0 p.b1 ++ (p.ln.take i).map fun x => rt x.1 x.2)).map toL)
  | 0, _ => by
    rw [txN, txH_toL]
    simp
  | i + 1, hi => by
    have ih := txN_toL p i (by omega)
    have ht : p.ln.take (i + 1) = p.ln.take i ++ [p.ln.getD i (0, [])] := by
      rw [List.take_add_one, List.getElem?_eq_getElem (by omega), List.getD_eq_getElem?_getD, List.getElem?_eq_getElem (by omega)]
      rfl
    have e : ∀ (X M : List ByteArray) (r : ByteArray), JL ((X ++ M).map toL) ++ (toL r ++ [10]) = JL ((X ++ (M ++ [r])).map toL) := fun X M r => by
      rw [← List.append_assoc X M [r], List.map_append (l₁ := X ++ M), JL_app]
      rfl
    rw [txN, toL_app, ih, row_toL, ht, List.map_append]
    exact e (hd p.nm :: (bR 0 p.b0 ++ bR 1 p.b1 ++ dR p.b0 p.b1)) _ _
theorem txt_toL (p : Pt) : toL (txt p) = JL ((rP p).map toL) := by
  unfold txt rP
  rw [txN_toL p _ (Nat.le_refl _), List.take_length]
theorem rt_dot (side : Int) (l : List Int) : rt side l ≠ dotR := by
  intro e
  have := rt_toL side l
  rw [e] at this
  have h := congrArg (fun l => l[2]?) this
  unfold hdr at h
  split at h <;> simp [dotR, toL] at h
theorem frmL_skip : ∀ (A R : List ByteArray) (i : Nat), (∀ a ∈ A, a ≠ dotR) → frmL i (A ++ R) = frmL (i + A.length) R
  | [], R, i, _ => rfl
  | a :: A, R, i, h => by
    rw [List.cons_append, frmL, if_neg (h a (by simp)), frmL_skip A R (i + 1) (fun x hx => h x (by simp [hx]))]
    simp [Nat.add_assoc, Nat.add_comm 1]
theorem frmL_none : ∀ (A : List ByteArray) (i : Nat), (∀ a ∈ A, a ≠ dotR) → frmL i A = 1
  | [], _, _ => rfl
  | a :: A, i, h => by rw [frmL, if_neg (h a (by simp)), frmL_none A (i + 1) (fun x hx => h x (by simp [hx]))]
theorem frmL_bck : ∀ (A : List ByteArray) (i : Nat), (frmL i A = 1 ∧ ∀ a ∈ A, a ≠ dotR) ∨ ∃ B C, A = B ++ dotR :: C ∧ (∀ b ∈ B, b ≠ dotR) ∧ frmL i A = i + B.length + 1
  | [], _ => .inl ⟨rfl, fun a h => by simp at h⟩
  | a :: A, i => by
    by_cases ha : a = dotR
    · exact .inr ⟨[], A, by rw [ha]; rfl, fun b h => by simp at h, by rw [frmL, if_pos ha]; rfl⟩
    · rcases frmL_bck A (i + 1) with ⟨h1, h2⟩ | ⟨B, C, h1, h2, h3⟩
      · refine .inl ⟨by rw [frmL, if_neg ha]; exact h1, fun x hx => ?_⟩
        rcases List.mem_cons.1 hx with rfl | hx
        · exact ha
        · exact h2 x hx
      · refine .inr ⟨a :: B, C, by rw [h1]; rfl, fun x hx => ?_, by rw [frmL, if_neg ha, h3]; simp; omega⟩
        rcases List.mem_cons.1 hx with rfl | hx
        · exact ha
        · exact h2 x hx
theorem bR_dot (side : Int) (l : List Int) : ∀ a ∈ bR side l, a ≠ dotR := by
  intro a ha
  unfold bR at ha
  split at ha
  · simp at ha
  · rw [List.mem_singleton.1 ha]; exact rt_dot _ _
theorem hd_ok {nm : ByteArray} (h : isNm nm = true) : hdOk (hd nm) = true ∧ (hd nm).extract 0 ((hd nm).size - 1) = nm := by
  have e : toL (hd nm) = toL nm ++ [58] := toL_app _ _
  have hs : (hd nm).size = nm.size + 1 := by rw [← toL_len, e]; simp
  have hx : (hd nm).extract 0 ((hd nm).size - 1) = nm := by
    rw [hs]
    exact (ext_head e).1
  have hb : byt (hd nm) ((hd nm).size - 1) = 58 := by
    unfold byt
    rw [show (hd nm).data.toList = toL (hd nm) from rfl, e, hs, Nat.add_sub_cancel, ← toL_len]
    simp [List.getD]
  refine ⟨?_, hx⟩
  unfold hdOk
  rw [hx, hb, h, hs]
  simp
theorem isNm_nl {nm : ByteArray} (h : isNm nm = true) : NL (toL (hd nm)) := by
  have e : toL (hd nm) = toL nm ++ [58] := toL_app _ _
  rw [e]
  intro x hx
  rcases List.mem_append.1 hx with hx | hx
  · unfold isNm at h
    simp only [Bool.and_eq_true] at h
    have := List.all_eq_true.1 h.1 x hx
    intro h10
    unfold nmB at this
    rw [h10] at this
    simp at this
  · rw [List.mem_singleton.1 hx]; decide
theorem hd_bck {h : ByteArray} (hh : hdOk h = true) : isNm (h.extract 0 (h.size - 1)) = true ∧ hd (h.extract 0 (h.size - 1)) = h := by
  unfold hdOk at hh
  simp only [Bool.and_eq_true, decide_eq_true_eq] at hh
  refine ⟨hh.2, toL_inj ?_⟩
  have hlt : h.size - 1 < (toL h).length := by rw [toL_len]; omega
  rw [show toL (hd (h.extract 0 (h.size - 1))) = toL (h.extract 0 (h.size - 1)) ++ [58] from toL_app _ _, toL_ext, List.drop_zero]
  have e58 : (toL h)[h.size - 1]? = some 58 := by
    rw [List.getElem?_eq_getElem hlt]
    have : ((toL h).getD (h.size - 1) 0).toNat = 58 := hh.1.2
    rw [List.getD_eq_getElem?_getD, List.getElem?_eq_getElem hlt] at this
    exact congrArg some (UInt8.toNat_inj.1 this)
  have : (toL h).take (h.size - 1 + 1) = (toL h).take (h.size - 1) ++ [58] := by rw [List.take_add_one, e58]; rfl
  rw [← this, List.take_of_length_le (by rw [toL_len]; omega)]
theorem rows_dots (h : ByteArray) (X Ls : List ByteArray) (hX : ∀ a ∈ X, a ≠ dotR) : frm (h :: (X ++ [dotR] ++ Ls)) = X.length + 2 ∧ ((h :: (X ++ [dotR] ++ Ls)).take (X.length + 1)).drop 1 = X ∧ (h :: (X ++ [dotR] ++ Ls)).drop (X.length + 2) = Ls := by
  refine ⟨?_, ?_, ?_⟩
  · unfold frm
    rw [List.drop_succ_cons, List.drop_zero, List.append_assoc, frmL_skip _ _ _ hX, List.singleton_append, frmL, if_pos rfl]
    omega
  · rw [List.take_succ_cons, List.drop_succ_cons, List.drop_zero, List.append_assoc, List.take_left]
  · rw [List.drop_succ_cons, show X.length + 1 = (X ++ [dotR]).length by simp, List.drop_left]
theorem rows_plain (h : ByteArray) (Ls : List ByteArray) (hL : ∀ a ∈ Ls, a ≠ dotR) : frm (h :: Ls) = 1 := by
  unfold frm
  rw [List.drop_succ_cons, List.drop_zero, frmL_none _ _ hL]
theorem bR_len (side : Int) (l : List Int) : 0 < (bR side l).length ↔ 0 < l.length := by
  unfold bR
  split
  · rename_i h; exact ⟨fun k => absurd k (by simp), fun k => by omega⟩
  · rename_i h; exact ⟨fun _ => by omega, fun _ => by simp⟩
/-- Parse of what Print writes -/
theorem prs_prn {p : Pt} (h : (prn p).2 = 0) : prs (prn p).1 = (p, 0) ∧ (prn p).1.size ≤ 4096 := by
  unfold prn at h ⊢
  by_cases hc : chk p = 0
  case neg => rw [if_pos hc] at h; exact absurd h hc
  rw [if_neg (by simpa using hc)] at h ⊢
  split at h
  · simp at h
  rename_i hn
  rw [if_neg hn]
  have hnm : isNm p.nm = true := by
    cases e : isNm p.nm with
    | true => rfl
    | false => exact absurd (.inr e) hn
  split at h
  · simp at h
  rename_i hz
  rw [if_neg hz]
  refine ⟨?_, Nat.not_lt.1 hz⟩
  have hsh := chk_shaped hc
  have hall := (shaped_all hsh).2.2.2.2
  have hT : ∀ x ∈ p.ln, (x.1 = 0 ∨ x.1 = 1) ∧ x.2 ≠ [] ∧ ∀ t ∈ x.2, T7 t := fun x hx => ⟨(hall x hx).1, (hall x hx).2.1, isTok_t7 (hall x hx).2.2.2⟩
  have hb : (∀ t ∈ p.b0, T7 t) ∧ ∀ t ∈ p.b1, T7 t := by
    unfold shaped at hsh
    simp only [Bool.and_eq_true] at hsh
    exact ⟨ahd_t7 hsh.1.1.1, ahd_t7 hsh.1.1.2⟩
  have hbn : ∀ (side : Int) (l : List Int), (∀ t ∈ l, T7 t) → ∀ a ∈ bR side l, NL (toL a) := fun side l hl a ha => by
    unfold bR at ha
    split at ha
    · simp at ha
    · rw [List.mem_singleton.1 ha]; exact rt_nl _ _ hl
  have hr : rws (txt p) = (rP p, (txt p).size) := rws_join (txt_toL p) (fun a ha => by
    unfold rP at ha
    simp only [List.mem_cons, List.mem_append, List.mem_map] at ha
    rcases ha with rfl | ((ha | ha) | ha) | ⟨x, hx, rfl⟩
    · exact isNm_nl hnm
    · exact hbn _ _ hb.1 a ha
    · exact hbn _ _ hb.2 a ha
    · unfold dR at ha
      split at ha
      · rw [List.mem_singleton.1 ha]; unfold NL; decide
      · simp at ha
    · exact rt_nl _ _ (hT x hx).2.2)
  obtain ⟨k1, k2⟩ := hd_ok hnm
  have hlr : ∀ a ∈ p.ln.map (fun x => rt x.1 x.2), a ≠ dotR := fun a ha => by
    obtain ⟨x, _, rfl⟩ := List.mem_map.1 ha
    exact rt_dot _ _
  have hbr : ∀ a ∈ bR 0 p.b0 ++ bR 1 p.b1, a ≠ dotR := fun a ha => by
    rcases List.mem_append.1 ha with ha | ha
    · exact bR_dot _ _ a ha
    · exact bR_dot _ _ a ha
  have hg0 : (rP p).getD 0 ⟨#[]⟩ = hd p.nm := rfl
  have hd1 : (rP p).drop 1 = bR 0 p.b0 ++ bR 1 p.b1 ++ dR p.b0 p.b1 ++ p.ln.map fun x => rt x.1 x.2 := rfl
  have hp : (⟨p.nm, p.b0, p.b1, p.ln⟩ : Pt) = p := by cases p; rfl
  have main : bfr (((rP p).take (frm (rP p) - 1)).drop 1) [] [] = some (p.b0, p.b1) ∧ frm (rP p) ≠ 2 ∧ mls ((rP p).drop (frm (rP p))) = some p.ln := by
    by_cases hpos : 0 < p.b0.length + p.b1.length
    · have e : rP p = hd p.nm :: ((bR 0 p.b0 ++ bR 1 p.b1) ++ [dotR] ++ p.ln.map fun x => rt x.1 x.2) := by
        unfold rP dR
        rw [if_pos hpos]
      obtain ⟨h1, h2, h3⟩ := rows_dots (hd p.nm) (bR 0 p.b0 ++ bR 1 p.b1) (p.ln.map fun x => rt x.1 x.2) hbr
      rw [← e] at h1 h2 h3
      have hl : 0 < (bR 0 p.b0 ++ bR 1 p.b1).length := by
        rw [List.length_append]
        rcases Nat.lt_or_ge 0 p.b0.length with h | h
        · have := (bR_len 0 p.b0).2 h; omega
        · have := (bR_len 1 p.b1).2 (by omega); omega
      rw [h1]
      refine ⟨?_, by omega, ?_⟩
      · rw [show (bR 0 p.b0 ++ bR 1 p.b1).length + 2 - 1 = (bR 0 p.b0 ++ bR 1 p.b1).length + 1 from rfl, h2]
        exact bfr_fwd _ _ hb.1 hb.2
      · rw [h3]
        exact mls_fwd _ hT
    · have e0 : p.b0 = [] := List.length_eq_zero_iff.1 (by omega)
      have e1 : p.b1 = [] := List.length_eq_zero_iff.1 (by omega)
      have e : rP p = hd p.nm :: (p.ln.map fun x => rt x.1 x.2) := by
        unfold rP dR
        rw [if_neg hpos, e0, e1]
        rfl
      have h1 := rows_plain (hd p.nm) _ hlr
      rw [← e] at h1
      rw [h1]
      refine ⟨by rw [e0, e1]; rfl, by omega, ?_⟩
      rw [e, List.drop_succ_cons, List.drop_zero]
      exact mls_fwd _ hT
  unfold prs
  rw [if_neg hz, hr, if_neg (by simp [rP]), hg0, k1, if_neg (by simp), main.1]
  simp only
  rw [if_neg main.2.1, main.2.2]
  simp only
  rw [k2, hp, if_neg (by simpa using hc)]
/-- Print of what Parse reads -/
theorem prn_prs {t : ByteArray} (h : (prs t).2 = 0) : prn (prs t).1 = (t, 0) ∧ chk (prs t).1 = 0 := by
  unfold prs at h ⊢
  split at h
  · simp at h
  rename_i hz
  rw [if_neg hz]
  split at h
  · simp at h
  rename_i hr
  rw [if_neg hr]
  split at h
  · simp at h
  rename_i hh
  rw [if_neg hh]
  have hr2 : (rws t).2 = t.size ∧ (rws t).1.length ≠ 0 := by
    refine ⟨?_, fun e => hr (.inr e)⟩
    by_cases e : (rws t).2 = t.size
    · exact e
    · exact absurd (.inl e) hr
  obtain ⟨hj, hnl⟩ := rws_back hr2.1
  obtain ⟨R, hR⟩ : ∃ R, (rws t).1 = R := ⟨_, rfl⟩
  rw [hR] at h hh hr2 hj hnl ⊢
  cases R with
  | nil => exact absurd rfl hr2.2
  | cons r0 Rs =>
    have hg : (r0 :: Rs).getD 0 ⟨#[]⟩ = r0 := rfl
    rw [hg] at hh h ⊢
    obtain ⟨k1, k2⟩ := hd_bck (by simpa using hh)
    obtain ⟨nm, hnm⟩ : ∃ nm, r0.extract 0 (r0.size - 1) = nm := ⟨_, rfl⟩
    rw [hnm] at h k1 k2 ⊢
    cases hb : bfr (((r0 :: Rs).take (frm (r0 :: Rs) - 1)).drop 1) [] [] with
    | none => rw [hb] at h; simp at h
    | some x =>
      obtain ⟨b0, b1⟩ := x
      rw [hb] at h
      simp only at h ⊢
      split at h
      · simp at h
      rename_i h2
      rw [if_neg h2]
      cases hm : mls ((r0 :: Rs).drop (frm (r0 :: Rs))) with
      | none => rw [hm] at h; simp at h
      | some ls =>
        rw [hm] at h
        simp only at h ⊢
        by_cases hc : chk ⟨nm, b0, b1, ls⟩ = 0
        case neg => rw [if_pos hc] at h; exact absurd h hc
        rw [if_neg (by simpa using hc)]
        refine ⟨?_, hc⟩
        have hrow : r0 :: Rs = rP ⟨nm, b0, b1, ls⟩ := by
          rcases frmL_bck Rs 1 with ⟨e1, e2⟩ | ⟨B, C, e1, e2, e3⟩
          · have hf : frm (r0 :: Rs) = 1 := e1
            rw [hf] at hb hm
            have eb : (b0, b1) = (([] : List Int), ([] : List Int)) := by
              have : bfr (((r0 :: Rs).take (1 - 1)).drop 1) [] [] = some ([], []) := rfl
              rw [this] at hb
              injection hb with hb
              exact hb.symm
            injection eb with eb0 eb1
            subst eb0 eb1
            have := mls_bck _ _ hm
            rw [List.drop_succ_cons, List.drop_zero] at this
            rw [this, ← k2]
            rfl
          · subst e1
            obtain ⟨g1, g2, g3⟩ := rows_dots r0 B C e2
            have ea : B ++ dotR :: C = B ++ [dotR] ++ C := by simp
            rw [ea] at hb hm h2 ⊢
            rw [g1] at hb hm h2
            rw [show B.length + 2 - 1 = B.length + 1 from rfl, g2] at hb
            rw [g3] at hm
            have hB := bfr_bck _ _ _ hb
            have hC := mls_bck _ _ hm
            have hl : 0 < B.length := by omega
            have hpos : 0 < b0.length + b1.length := by
              rw [hB, List.length_append] at hl
              rcases Nat.lt_or_ge 0 (bR 0 b0).length with h | h
              · have := (bR_len 0 b0).1 h; omega
              · have := (bR_len 1 b1).1 (by omega); omega
            unfold rP dR
            simp only
            rw [if_pos hpos, ← hB, ← hC, k2]
        have ht : txt ⟨nm, b0, b1, ls⟩ = t := toL_inj (by rw [txt_toL, ← hrow, ← hj])
        have hsz : nm.size ≤ t.size := by
          have := congrArg ByteArray.size ht
          have e1 := toL_len t
          rw [hj, List.map_cons, JL, List.length_append] at e1
          have e2 : (toL r0).length = nm.size + 1 := by
            rw [← k2, show toL (hd nm) = toL nm ++ [58] from toL_app _ _, List.length_append, toL_len]
            rfl
          omega
        unfold prn
        rw [if_neg (by simpa using hc), if_neg (by simp only [k1]; simp; omega), ht, if_neg hz]
end Go.Pat
/- the program's rows beside the document's 'seen', as data -/
namespace Go.Proofs.YtjhleocpipmklaaDoor
set_option linter.unusedSimpArgs false
set_option linter.unusedVariables false
set_option maxRecDepth 100000
open Go.Pat
/-- the nine marks of what is seen -/
def nr (x : Sn) : List Bool := [B x 0, B x 2, B x 1, B x 3, B x 7, B x 8, B x 9, B x 10, B x 11]
theorem nr_len (x : Sn) : (nr x).length = 9 := rfl
theorem twelve' {x : Sn} (h : x.length = 12) : ∃ a b c d e f g i j k l m, x = [a, b, c, d, e, f, g, i, j, k, l, m] := by
  match x, h with
  | [a, b, c, d, e, f, g, i, j, k, l, m], _ => exact ⟨a, b, c, d, e, f, g, i, j, k, l, m, rfl⟩
theorem sfr_sf (x : Sn) (s : Nat) (hs : s < 2) : sfr (nr x) s = sf x s := by
  unfold nr sf
  rcases (by omega : s = 0 ∨ s = 1) with rfl | rfl
  all_goals
    generalize B x 0 = a0
    generalize B x 1 = a1
    generalize B x 2 = a2
    generalize B x 3 = a3
    generalize B x 7 = a7
    generalize B x 8 = a8
    generalize B x 9 = a9
    generalize B x 10 = a10
    generalize B x 11 = a11
    revert a0 a1 a2 a3 a7 a8 a9 a10 a11
    decide
/-- a token's mark, by its sender; whether it may stand once; what it wants -/
def lf (t : Int) (s : Nat) : Nat := if t = 1 then 2 * s else if t = 2 then 2 * s + 1 else (t + 1).toNat
def onc (t : Int) : Bool := t != 7
def wnt (t : Int) : List Bool :=
  if t = 3 then [true, false, true, false, false, false, false, false, false] else if t = 4 then [true, false, false, true, false, false, false, false, false]
  else if t = 5 then [false, true, true, false, false, false, false, false, false] else if t = 6 then [false, true, false, true, false, false, false, false, false]
  else [false, false, false, false, false, false, false, false, false]
def ofd (r : List Bool) (s : Nat) (t : Int) : Int :=
  if (onc t && r.getD (lf t s) false) = true then 10 else if decide (List.zipWith and r (wnt t) = wnt t) = false then 11 else if t = 2 ∧ sfr r s = false then 12 else 0
theorem ofd_tk (x : Sn) (hx : x.length = 12) (s : Nat) (h2 : s < 2) (t : Int) (ht : T7 t) : ofd (nr x) s t = (tk x s t).2 ∧ ((tk x s t).2 = 0 → nr (tk x s t).1 = (nr x).set (lf t s) true) := by
  have e := sfr_sf x s h2
  unfold ofd
  rw [e]
  unfold tk
  generalize sf x s = q
  clear e
  obtain ⟨a, b, c, d, e, f, g, i, j, k, l, m, rfl⟩ := twelve' hx
  clear hx
  rcases (by omega : s = 0 ∨ s = 1) with rfl | rfl
  all_goals rcases t7_cases ht with rfl | rfl | rfl | rfl | rfl | rfl | rfl
  all_goals clear h2 ht
  all_goals
    simp only [onc, wnt, lf, nr, B, hs]
    simp
  all_goals (repeat' split)
  all_goals simp_all
end Go.Proofs.YtjhleocpipmklaaDoor
