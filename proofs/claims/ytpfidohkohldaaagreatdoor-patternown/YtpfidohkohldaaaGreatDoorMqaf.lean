import Derived.Test.YtpfidohkohldaaaGreatDoorMqae
/- texts there and back, az data: rows -/
namespace Go.Pat
abbrev toL (s : ByteArray) : List UInt8 := s.data.toList
theorem toL_app (a b : ByteArray) : toL (a ++ b) = toL a ++ toL b := by simp [toL]
theorem toL_ext (s : ByteArray) (a b : Nat) : toL (s.extract a b) = ((toL s).take b).drop a := by
  simp [toL, ByteArray.data_extract, List.drop_take]
theorem toL_len (s : ByteArray) : (toL s).length = s.size := by simp [toL]
theorem toL_inj {a b : ByteArray} (h : toL a = toL b) : a = b := by
  cases a; cases b
  simpa [toL] using h
def NL (l : List UInt8) : Prop := ∀ x ∈ l, x.toNat ≠ 10
def JL : List (List UInt8) → List UInt8
  | [] => []
  | r :: rs => r ++ 10 :: JL rs
theorem JL_app : ∀ (A B : List (List UInt8)), JL (A ++ B) = JL A ++ JL B
  | [], B => rfl
  | a :: A, B => by simp [JL, JL_app A B]
theorem cut_unique : ∀ {a b x y : List UInt8}, a ++ 10 :: x = b ++ 10 :: y → NL a → NL b → a = b ∧ x = y
  | [], [], x, y, h, _, _ => ⟨rfl, by simpa using h⟩
  | [], b :: bs, x, y, h, _, hb => by
    injection h with h1 h2
    exact absurd (by rw [← h1]; rfl) (hb b (by simp))
  | a :: az, [], x, y, h, ha, _ => by
    injection h with h1 h2
    exact absurd (by rw [h1]; rfl) (ha a (by simp))
  | a :: az, b :: bs, x, y, h, ha, hb => by
    injection h with h1 h2
    obtain ⟨h3, h4⟩ := cut_unique h2 (fun z hz => ha z (by simp [hz])) (fun z hz => hb z (by simp [hz]))
    exact ⟨by rw [h1, h3], h4⟩
theorem JL_unique : ∀ {A B : List (List UInt8)} {r : List UInt8}, JL A = JL B ++ r → (∀ a ∈ A, NL a) → (∀ b ∈ B, NL b) → NL r → A = B ∧ r = []
  | [], [], r, h, _, _, _ => ⟨rfl, by simpa [JL] using h.symm⟩
  | [], b :: B, r, h, _, _, _ => by simp [JL] at h
  | a :: A, [], r, h, _, _, hr => by
    simp only [JL, List.nil_append] at h
    exact absurd rfl (hr 10 (by rw [← h]; simp))
  | a :: A, b :: B, r, h, ha, hb, hr => by
    simp only [JL, List.append_assoc, List.cons_append] at h
    obtain ⟨h1, h2⟩ := cut_unique h (ha a (by simp)) (hb b (by simp))
    obtain ⟨h3, h4⟩ := JL_unique h2 (fun z hz => ha z (by simp [hz])) (fun z hz => hb z (by simp [hz])) hr
    exact ⟨by rw [h1, h3], h4⟩
theorem rwsN_inv (s : ByteArray) (i : Nat) (hi : i ≤ s.size) : (toL s).take i = JL ((rwsN s i).1.map toL) ++ ((toL s).take i).drop (rwsN s i).2 ∧ (∀ r ∈ (rwsN s i).1, NL (toL r)) ∧ NL (((toL s).take i).drop (rwsN s i).2) := by
  induction i with
  | zero => simp [rwsN, JL, NL]
  | succ i ih =>
    obtain ⟨h1, h2, h3⟩ := ih (by omega)
    have hk := (rwsN_le s i).1
    have hlen : i < (toL s).length := by rw [toL_len]; omega
    obtain ⟨c, hc⟩ : ∃ c, (toL s)[i]? = some c := ⟨_, List.getElem?_eq_getElem hlen⟩
    have htk : (toL s).take (i + 1) = (toL s).take i ++ [c] := by rw [List.take_add_one, hc]; rfl
    have hby : byt s i = c.toNat := by unfold byt; rw [List.getD_eq_getElem?_getD, hc]; rfl
    have hl : ((toL s).take i).length = i := by rw [List.length_take]; omega
    unfold rwsN
    split
    · rename_i h10
      have hc10 : c = 10 := by
        apply UInt8.toNat_inj.1
        rw [← hby, h10]; rfl
      have hd : ((toL s).take (i + 1)).drop (i + 1) = [] := List.drop_eq_nil_of_le (by rw [List.length_take]; omega)
      refine ⟨?_, ?_, ?_⟩
      · simp only [hd, List.append_nil, List.map_append, List.map_cons, List.map_nil, JL_app, toL_ext]
        rw [htk, hc10]
        simp only [JL]
        conv => lhs; rw [h1]
        simp
      · intro r hr
        rcases List.mem_append.1 hr with h | h
        · exact h2 r h
        · obtain rfl : r = _ := by simpa using h
          rw [toL_ext]
          exact h3
      · rw [hd]; intro x hx; simp at hx
    · rename_i h10
      have hd : ((toL s).take (i + 1)).drop (rwsN s i).2 = ((toL s).take i).drop (rwsN s i).2 ++ [c] := by
        rw [htk, List.drop_append_of_le_length (by omega)]
      refine ⟨?_, h2, ?_⟩
      · rw [hd, ← List.append_assoc, ← h1, htk]
      · rw [hd]
        intro x hx
        rcases List.mem_append.1 hx with h | h
        · exact h3 x h
        · obtain rfl : x = c := by simpa using h
          rw [← hby]; exact h10
/-- rows, and the text that they make -/
theorem rws_join {s : ByteArray} {A : List ByteArray} (h : toL s = JL (A.map toL)) (hA : ∀ a ∈ A, NL (toL a)) : rws s = (A, s.size) := by
  obtain ⟨h1, h2, h3⟩ := rwsN_inv s s.size (Nat.le_refl _)
  have ht : (toL s).take s.size = toL s := List.take_of_length_le (by rw [toL_len]; exact Nat.le_refl _)
  rw [ht] at h1 h3
  obtain ⟨h4, h5⟩ := JL_unique (h.symm.trans h1) (fun a ha => by obtain ⟨x, hx, rfl⟩ := List.mem_map.1 ha; exact hA x hx) (fun a ha => by obtain ⟨x, hx, rfl⟩ := List.mem_map.1 ha; exact h2 x hx) h3
  have h6 : s.size ≤ (rwsN s s.size).2 := by
    have := List.drop_eq_nil_iff.1 h5
    rw [toL_len] at this
    exact this
  have h7 := (rwsN_le s s.size).1
  refine Prod.ext ?_ (by show (rwsN s s.size).2 = s.size; omega)
  show (rwsN s s.size).1 = A
  have hinj : ∀ (X Y : List ByteArray), X.map toL = Y.map toL → X = Y := fun X => by
    induction X with
    | nil => intro Y h; cases Y with | nil => rfl | cons y Y => simp at h
    | cons x X ih =>
      intro Y h
      cases Y with
      | nil => simp at h
      | cons y Y =>
        simp only [List.map_cons, List.cons.injEq] at h
        rw [toL_inj h.1, ih Y h.2]
  exact hinj _ _ h4.symm
theorem rws_back {s : ByteArray} (h : (rws s).2 = s.size) : toL s = JL ((rws s).1.map toL) ∧ ∀ a ∈ (rws s).1, NL (toL a) := by
  obtain ⟨h1, h2, h3⟩ := rwsN_inv s s.size (Nat.le_refl _)
  have ht : (toL s).take s.size = toL s := List.take_of_length_le (by rw [toL_len]; exact Nat.le_refl _)
  have hk : (rwsN s s.size).2 = s.size := h
  rw [ht, hk] at h1
  have hd : (toL s).drop s.size = [] := List.drop_eq_nil_of_le (by rw [toL_len]; exact Nat.le_refl _)
  rw [hd, List.append_nil] at h1
  exact ⟨h1, h2⟩
end Go.Pat
/- texts there and back, az data: words -/
namespace Go.Pat
/-- tokens' words -/
def WL : List Int → List UInt8
  | [] => []
  | [t] => toL (wrd t)
  | t :: u :: r => toL (wrd t) ++ 44 :: 32 :: WL (u :: r)
theorem WL_cons {t : Int} {r : List Int} (h : r ≠ []) : WL (t :: r) = toL (wrd t) ++ 44 :: 32 :: WL r := by
  cases r with
  | nil => exact absurd rfl h
  | cons u r => rfl
def T7 (t : Int) : Prop := 1 ≤ t ∧ t ≤ 7
theorem t7_cases {t : Int} (h : T7 t) : t = 1 ∨ t = 2 ∨ t = 3 ∨ t = 4 ∨ t = 5 ∨ t = 6 ∨ t = 7 := by unfold T7 at h; omega
theorem wrd_tok {t : Int} (h : T7 t) : (tokO (wrd t) 7 : Int) = t ∧ (∀ x ∈ toL (wrd t), x.toNat ≠ 44 ∧ x.toNat ≠ 10) ∧ 0 < (toL (wrd t)).length := by
  rcases t7_cases h with rfl | rfl | rfl | rfl | rfl | rfl | rfl <;> decide
theorem tokO_back (x : ByteArray) : ∀ k, tokO x k ≠ 0 → wrd (tokO x k : Int) = x ∧ tokO x k ≤ k
  | 0, h => absurd rfl h
  | k + 1, h => by
    unfold tokO at h ⊢
    split
    · rename_i e; exact ⟨e, Nat.le_refl _⟩
    · rename_i e
      rw [if_neg e] at h
      have := tokO_back x k h
      exact ⟨this.1, by omega⟩
theorem cm_app : ∀ {a : List UInt8} (r : List UInt8), (∀ x ∈ a, x.toNat ≠ 44) → cm (a ++ 44 :: r) = a.length
  | [], r, _ => by simp [cm]
  | b :: a, r, h => by
    have hb : b.toNat ≠ 44 := h b (by simp)
    rw [List.cons_append, cm, if_neg hb, cm_app r (fun x hx => h x (by simp [hx]))]
    rfl
theorem cm_all : ∀ {a : List UInt8}, (∀ x ∈ a, x.toNat ≠ 44) → cm a = a.length
  | [], _ => rfl
  | b :: a, h => by
    have hb : b.toNat ≠ 44 := h b (by simp)
    rw [cm, if_neg hb, cm_all (fun x hx => h x (by simp [hx]))]
    rfl
theorem wds_fwd : ∀ (l : List Int) (f : Nat) (s : ByteArray), l ≠ [] → (∀ t ∈ l, T7 t) → toL s = WL l → l.length ≤ f → wdsN f s = some l
  | [], _, _, h, _, _, _ => absurd rfl h
  | [t], f, s, _, ht, hs, hf => by
    obtain ⟨h1, h2, h3⟩ := wrd_tok (ht t (by simp))
    obtain rfl : s = wrd t := toL_inj hs
    have hc : cma (wrd t) = (wrd t).size := by
      unfold cma
      rw [cm_all (fun x hx => (h2 x hx).1), toL_len]
    have he : (wrd t).extract 0 (wrd t).size = wrd t := toL_inj (by rw [toL_ext, List.drop_zero, List.take_of_length_le (by rw [toL_len]; exact Nat.le_refl _)])
    match f, hf with
    | f + 1, _ =>
      unfold wdsN
      rw [hc, he, if_neg (by have := (ht t (by simp)).1; omega), if_pos rfl, h1]
  | t :: u :: r, f, s, _, ht, hs, hf => by
    obtain ⟨h1, h2, h3⟩ := wrd_tok (ht t (by simp))
    rw [WL_cons (by simp)] at hs
    have hc : cma s = (wrd t).size := by
      unfold cma
      rw [show s.data.toList = toL s from rfl, hs, cm_app _ (fun x hx => (h2 x hx).1), toL_len]
    have he : s.extract 0 (wrd t).size = wrd t := toL_inj (by rw [toL_ext, hs, List.drop_zero, ← toL_len, List.take_left])
    have hsz : s.size = (wrd t).size + 2 + (WL (u :: r)).length := by rw [← toL_len s, hs]; simp; omega
    have hb : byt s ((wrd t).size + 1) = 32 := by
      unfold byt
      rw [show s.data.toList = toL s from rfl, hs, ← toL_len]
      simp [List.getD]
    have hx : toL (s.extract ((wrd t).size + 2) s.size) = WL (u :: r) := by
      rw [toL_ext, List.take_of_length_le (by rw [toL_len]; exact Nat.le_refl _), hs, ← toL_len]
      simp [List.drop_append]
    match f, hf with
    | f + 1, hf =>
      have ih := wds_fwd (u :: r) f (s.extract ((wrd t).size + 2) s.size) (by simp) (fun z hz => ht z (by simp at hz ⊢; exact .inr hz)) hx (by simp at hf ⊢; omega)
      have hnn : 0 < (WL (u :: r)).length := by
        have := (wrd_tok (ht u (by simp))).2.2
        cases r with
        | nil => exact this
        | cons v r => rw [WL_cons (by simp)]; simp; omega
      unfold wdsN
      rw [hc, he, if_neg (by have := (ht t (by simp)).1; omega), if_neg (by omega), if_neg (by rw [hb]; omega), ih, h1]
      rfl
theorem wds_bck : ∀ (f : Nat) (s : ByteArray) (l : List Int), wdsN f s = some l → toL s = WL l ∧ l ≠ [] ∧ ∀ t ∈ l, T7 t
  | 0, s, l, h => by simp [wdsN] at h
  | f + 1, s, l, h => by
    unfold wdsN at h
    split at h
    · simp at h
    · rename_i h0
      obtain ⟨h1, h2⟩ := tokO_back _ _ h0
      obtain ⟨k, hk⟩ : ∃ k, tokO (s.extract 0 (cma s)) 7 = k := ⟨_, rfl⟩
      rw [hk] at h h0 h1 h2
      have hT : T7 (k : Int) := ⟨by omega, by omega⟩
      split at h
      · rename_i hc
        rw [hc] at h1
        have he : s.extract 0 s.size = s := toL_inj (by rw [toL_ext, List.drop_zero, List.take_of_length_le (by rw [toL_len]; exact Nat.le_refl _)])
        rw [he] at h1
        injection h with h
        subst h
        exact ⟨by rw [WL, h1], by simp, fun t ht => by rw [List.mem_singleton.1 ht]; exact hT⟩
      · rename_i hc
        split at h
        · simp at h
        · rename_i hd
          have hd1 : cma s + 1 < s.size := by omega
          have hd2 : byt s (cma s + 1) = 32 := by
            by_cases h : byt s (cma s + 1) = 32
            · exact h
            · exact absurd (.inr h) hd
          obtain ⟨r, hr, rfl⟩ := Option.map_eq_some_iff.1 h
          obtain ⟨i1, i2, i3⟩ := wds_bck f _ r hr
          have hat := cm_at s.data.toList (by show cma s < _; rw [show s.data.toList.length = s.size from toL_len s]; omega)
          have e44 : (toL s)[cma s]? = some 44 := by
            have hlt : cma s < (toL s).length := by rw [toL_len]; omega
            rw [List.getElem?_eq_getElem hlt]
            have : ((toL s).getD (cma s) 0).toNat = 44 := hat
            rw [List.getD_eq_getElem?_getD, List.getElem?_eq_getElem hlt] at this
            exact congrArg some (UInt8.toNat_inj.1 this)
          have e32 : (toL s)[cma s + 1]? = some 32 := by
            have hlt : cma s + 1 < (toL s).length := by rw [toL_len]; omega
            rw [List.getElem?_eq_getElem hlt]
            have : ((toL s).getD (cma s + 1) 0).toNat = 32 := hd2
            rw [List.getD_eq_getElem?_getD, List.getElem?_eq_getElem hlt] at this
            exact congrArg some (UInt8.toNat_inj.1 this)
          have hsp : toL s = (toL s).take (cma s) ++ 44 :: 32 :: (toL s).drop (cma s + 2) := by
            have a1 := List.take_append_drop (cma s) (toL s)
            have a2 : (toL s).drop (cma s) = 44 :: (toL s).drop (cma s + 1) := by
              rw [List.drop_eq_getElem_cons (by rw [toL_len]; omega)]
              rw [List.getElem?_eq_getElem (by rw [toL_len]; omega)] at e44
              injection e44 with e44
              rw [e44]
            have a3 : (toL s).drop (cma s + 1) = 32 :: (toL s).drop (cma s + 2) := by
              rw [List.drop_eq_getElem_cons (by rw [toL_len]; omega)]
              rw [List.getElem?_eq_getElem (by rw [toL_len]; omega)] at e32
              injection e32 with e32
              rw [e32]
            rw [← a3, ← a2]
            exact a1.symm
          refine ⟨?_, by simp, ?_⟩
          · rw [WL_cons i2, h1, ← i1, toL_ext, toL_ext, List.drop_zero, List.take_of_length_le (i := s.size) (by rw [toL_len]; exact Nat.le_refl _)]
            exact hsp
          · intro t ht
            rcases List.mem_cons.1 ht with rfl | ht
            · exact hT
            · exact i3 t ht
end Go.Pat
/- texts there and back, az data: lines -/
namespace Go.Pat
theorem WL_snoc : ∀ (l : List Int) (t : Int), l ≠ [] → WL (l ++ [t]) = WL l ++ 44 :: 32 :: toL (wrd t)
  | [], _, h => absurd rfl h
  | [u], t, _ => rfl
  | u :: v :: r, t, _ => by
    have := WL_snoc (v :: r) t (by simp)
    show WL (u :: (v :: r ++ [t])) = _
    rw [WL_cons (t := u) (r := v :: r ++ [t]) (by simp), this, WL_cons (t := u) (r := v :: r) (by simp)]
    simp
theorem rowN_toL (h : ByteArray) (l : List Int) : ∀ i, i ≤ l.length → toL (rowN h l i) = toL h ++ WL (l.take i)
  | 0, _ => by simp [rowN, WL]
  | i + 1, hi => by
    have ih := rowN_toL h l i (by omega)
    have ht : l.take (i + 1) = l.take i ++ [l.getD i 0] := by
      rw [List.take_add_one, List.getElem?_eq_getElem (by omega), List.getD_eq_getElem?_getD, List.getElem?_eq_getElem (by omega)]
      rfl
    unfold rowN
    rw [toL_app, ht]
    by_cases h0 : i = 0
    · subst h0
      rw [if_pos rfl, ih]
      simp [WL]
    · rw [if_neg h0, toL_app, ih, WL_snoc _ _ (by intro e; have := congrArg List.length e; rw [List.length_take, List.length_nil] at this; omega)]
      rw [List.append_assoc, List.append_assoc]
      rfl
/-- a row of tokens, without its end -/
def rt (side : Int) (l : List Int) : ByteArray := rowN (hdr side) l l.length
theorem rt_toL (side : Int) (l : List Int) : toL (rt side l) = toL (hdr side) ++ WL l := by
  unfold rt
  rw [rowN_toL _ _ _ (Nat.le_refl _), List.take_length]
theorem row_toL (side : Int) (l : List Int) : toL (row side l) = toL (rt side l) ++ [10] := by
  unfold row rt
  rw [toL_app]
theorem WL_nl : ∀ (l : List Int), (∀ t ∈ l, T7 t) → NL (WL l)
  | [], _ => fun x hx => by simp [WL] at hx
  | [t], h => fun x hx => ((wrd_tok (h t (by simp))).2.1 x hx).2
  | t :: u :: r, h => by
    rw [WL_cons (by simp)]
    intro x hx
    simp only [List.mem_append, List.mem_cons] at hx
    rcases hx with hx | rfl | rfl | hx
    · exact ((wrd_tok (h t (by simp))).2.1 x hx).2
    · decide
    · decide
    · exact WL_nl (u :: r) (fun z hz => h z (by simp at hz ⊢; exact .inr hz)) x hx
theorem WL_len : ∀ (l : List Int), (∀ t ∈ l, T7 t) → l.length ≤ (WL l).length
  | [], _ => Nat.zero_le _
  | [t], h => (wrd_tok (h t (by simp))).2.2
  | t :: u :: r, h => by
    have := WL_len (u :: r) (fun z hz => h z (by simp at hz ⊢; exact .inr hz))
    rw [WL_cons (by simp)]
    simp at this ⊢
    omega
theorem hdr_nl (side : Int) : NL (toL (hdr side)) := by
  unfold hdr NL
  split <;> decide
theorem rt_nl (side : Int) (l : List Int) (h : ∀ t ∈ l, T7 t) : NL (toL (rt side l)) := by
  rw [rt_toL]
  intro x hx
  rcases List.mem_append.1 hx with hx | hx
  · exact hdr_nl side x hx
  · exact WL_nl l h x hx
theorem ext_head {s : ByteArray} {h : ByteArray} {r : List UInt8} (e : toL s = toL h ++ r) : s.extract 0 h.size = h ∧ toL (s.extract h.size s.size) = r := by
  refine ⟨toL_inj (by rw [toL_ext, e, List.drop_zero, ← toL_len, List.take_left]), ?_⟩
  rw [toL_ext, List.take_of_length_le (by rw [toL_len]; exact Nat.le_refl _), e, ← toL_len, List.drop_left]
theorem lin_fwd {side : Int} (hs : side = 0 ∨ side = 1) {l : List Int} (h0 : l ≠ []) (h : ∀ t ∈ l, T7 t) : lin (rt side l) = some (side, l) := by
  obtain ⟨s, hS⟩ : ∃ s, rt side l = s := ⟨_, rfl⟩
  have e := rt_toL side l
  rw [hS] at e ⊢
  obtain ⟨h1, h2⟩ := ext_head e
  have hz : s.size = 5 + (WL l).length := by rw [← toL_len s, e, List.length_append, toL_len, hdr_size]
  rw [hdr_size] at h1 h2
  have hw : wds (s.extract 5 s.size) = some l := wds_fwd l _ _ h0 h h2 (by
    have := WL_len l h
    rw [← h2, toL_len] at this
    omega)
  unfold lin
  rw [if_neg (by omega), h1, hw]
  rcases hs with rfl | rfl
  · rw [if_pos (by decide)]; rfl
  · rw [if_neg (by decide), if_pos (by decide)]; rfl
theorem lin_bck {s : ByteArray} {f : Int} {l : List Int} (h : lin s = some (f, l)) : (f = 0 ∨ f = 1) ∧ l ≠ [] ∧ (∀ t ∈ l, T7 t) ∧ s = rt f l := by
  unfold lin at h
  split at h
  · simp at h
  · rename_i hz
    have key : ∀ (g : Int) (H : ByteArray), s.extract 0 5 = H → hdr g = H → (g = 0 ∨ g = 1) → (wds (s.extract 5 s.size)).map (fun l => (g, l)) = some (f, l) → (f = 0 ∨ f = 1) ∧ l ≠ [] ∧ (∀ t ∈ l, T7 t) ∧ s = rt f l := fun g H hH hg h01 h => by
      obtain ⟨r, hr, e⟩ := Option.map_eq_some_iff.1 h
      injection e with e1 e2
      subst e1 e2
      obtain ⟨i1, i2, i3⟩ := wds_bck _ _ _ hr
      refine ⟨h01, i2, i3, toL_inj ?_⟩
      rw [rt_toL, hg, ← hH, ← i1, toL_ext, toL_ext, List.drop_zero, List.take_of_length_le (i := s.size) (by rw [toL_len]; exact Nat.le_refl _), List.take_append_drop]
    split at h
    · rename_i hH; exact key 0 hdA hH rfl (.inl rfl) h
    · split at h
      · rename_i hH; exact key 1 hdB hH rfl (.inr rfl) h
      · simp at h
theorem mls_fwd : ∀ (L : List Ln), (∀ x ∈ L, (x.1 = 0 ∨ x.1 = 1) ∧ x.2 ≠ [] ∧ ∀ t ∈ x.2, T7 t) → mls (L.map fun x => rt x.1 x.2) = some L
  | [], _ => rfl
  | (f, l) :: L, h => by
    have h1 := h (f, l) (by simp)
    rw [List.map_cons, mls, lin_fwd h1.1 h1.2.1 h1.2.2, mls_fwd L (fun x hx => h x (by simp [hx]))]
    rfl
theorem mls_bck : ∀ (R : List ByteArray) (L : List Ln), mls R = some L → R = L.map (fun x => rt x.1 x.2)
  | [], L, h => by simp [mls] at h; subst h; rfl
  | r :: R, L, h => by
    unfold mls at h
    cases hl : lin r with
    | none => rw [hl] at h; simp at h
    | some x =>
      obtain ⟨f, l⟩ := x
      rw [hl] at h
      obtain ⟨L', h1, rfl⟩ := Option.map_eq_some_iff.1 h
      rw [List.map_cons, ← mls_bck R L' h1, ← (lin_bck hl).2.2.2]
/-- rows of what is known ahead -/
def bR (side : Int) (l : List Int) : List ByteArray := if l.length = 0 then [] else [rt side l]
theorem bfr_fwd (b0 b1 : List Int) (h0 : ∀ t ∈ b0, T7 t) (h1 : ∀ t ∈ b1, T7 t) : bfr (bR 0 b0 ++ bR 1 b1) [] [] = some (b0, b1) := by
  unfold bR
  cases b0 with
  | nil =>
    cases b1 with
    | nil => rfl
    | cons y b1 =>
      simp only [List.length_nil, if_true, List.length_cons, Nat.add_one_ne_zero, if_false, List.nil_append]
      rw [bfr, lin_fwd (.inr rfl) (by simp) h1]
      simp [bfr]
  | cons x b0 =>
    cases b1 with
    | nil =>
      simp only [List.length_nil, if_true, List.length_cons, Nat.add_one_ne_zero, if_false, List.append_nil]
      rw [bfr, lin_fwd (.inl rfl) (by simp) h0]
      simp [bfr]
    | cons y b1 =>
      simp only [List.length_cons, Nat.add_one_ne_zero, if_false, List.cons_append, List.nil_append]
      rw [bfr, lin_fwd (.inl rfl) (by simp) h0]
      simp only [List.length_nil, Nat.lt_irrefl, or_self, if_false, if_true]
      rw [bfr, lin_fwd (.inr rfl) (by simp) h1]
      simp [bfr]
theorem bfr_bck2 (R : List ByteArray) (c0 c1 b0 b1 : List Int) (hc : c1 ≠ []) (h : bfr R c0 c1 = some (b0, b1)) : R = [] ∧ b0 = c0 ∧ b1 = c1 := by
  have h1 : 0 < c1.length := List.length_pos_iff.2 hc
  cases R with
  | nil => simp [bfr] at h; exact ⟨rfl, h.1.symm, h.2.symm⟩
  | cons r R =>
    unfold bfr at h
    cases hl : lin r with
    | none => rw [hl] at h; simp at h
    | some x =>
      obtain ⟨f, l⟩ := x
      rw [hl] at h
      simp [h1] at h
theorem bfr_bck1 (R : List ByteArray) (c0 b0 b1 : List Int) (hc : c0 ≠ []) (h : bfr R c0 [] = some (b0, b1)) : R = bR 1 b1 ∧ b0 = c0 := by
  have h1 : 0 < c0.length := List.length_pos_iff.2 hc
  cases R with
  | nil => simp [bfr] at h; obtain ⟨rfl, rfl⟩ := h; exact ⟨rfl, rfl⟩
  | cons r R =>
    unfold bfr at h
    cases hl : lin r with
    | none => rw [hl] at h; simp at h
    | some x =>
      obtain ⟨f, l⟩ := x
      obtain ⟨k1, k2, k3, k4⟩ := lin_bck hl
      rw [hl] at h
      rcases k1 with rfl | rfl
      · simp [h1] at h
      · simp at h
        obtain ⟨rfl, rfl, rfl⟩ := bfr_bck2 R c0 l b0 b1 k2 h
        refine ⟨?_, rfl⟩
        unfold bR
        rw [if_neg (by have := List.length_pos_iff.2 k2; omega), k4]
theorem bfr_bck (R : List ByteArray) (b0 b1 : List Int) (h : bfr R [] [] = some (b0, b1)) : R = bR 0 b0 ++ bR 1 b1 := by
  cases R with
  | nil => simp [bfr] at h; obtain ⟨rfl, rfl⟩ := h; rfl
  | cons r R =>
    unfold bfr at h
    cases hl : lin r with
    | none => rw [hl] at h; simp at h
    | some x =>
      obtain ⟨f, l⟩ := x
      obtain ⟨k1, k2, k3, k4⟩ := lin_bck hl
      have hn : l.length ≠ 0 := by have := List.length_pos_iff.2 k2; omega
      rw [hl] at h
      rcases k1 with rfl | rfl
      · simp at h
        obtain ⟨rfl, rfl⟩ := bfr_bck1 R l b0 b1 k2 h
        unfold bR
        rw [if_neg hn, k4]
        rfl
      · simp at h
        obtain ⟨rfl, rfl, rfl⟩ := bfr_bck2 R [] l b0 b1 k2 h
        unfold bR
        rw [if_neg hn, k4]
        rfl
end Go.Pat
