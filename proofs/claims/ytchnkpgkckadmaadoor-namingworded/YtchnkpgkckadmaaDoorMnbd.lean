import Derived.Test.YtchnkpgkckadmaaDoorMnag
/- names with words: what they come to; a name with a plus too many -/
namespace Go.Pat
set_option linter.unusedVariables false
theorem bck_len {p q : Pt} (h : bck p = some q) : q.ln.length ≤ p.ln.length := by
  unfold bck at h
  cases hp : p.ln with
  | nil => rw [hp] at h; cases h
  | cons y r =>
    obtain ⟨f, ts⟩ := y
    rw [hp] at h
    simp only at h
    by_cases h1 : ahd ts = false
    · rw [if_pos h1] at h; cases h
    · rw [if_neg h1] at h
      by_cases h2 : 1 < eCnt ts + eCnt (if f = 1 then p.b1 else p.b0) ∨ 1 < sCnt ts + sCnt (if f = 1 then p.b1 else p.b0)
      · rw [if_pos h2] at h; cases h
      · rw [if_neg h2] at h
        injection h with h
        subst h
        by_cases h3 : f = 1
        · rw [if_pos h3]; simp
        · rw [if_neg h3]; simp
theorem nmb_le {p : Pt} {b : Bool} {l : Int} {w : ByteArray} {x : Pt × Int} (h : wd1 b p l w = some x) : x.1.ln.length ≤ p.ln.length ∧ ((b = true ∧ x.2 = l) ∨ (l < x.2 ∧ x.2 ≤ p.ln.length)) := by
  unfold wd1 at h
  split at h
  · rename_i h1
    cases e : bck p with
    | none => rw [e] at h; cases h
    | some q =>
      rw [e] at h
      injection h with h
      subst h
      exact ⟨bck_len e, .inl ⟨h1.2, rfl⟩⟩
  · split at h
    · cases h
    · rename_i h2
      split at h
      · rename_i h3
        injection h with h
        subst h
        refine ⟨by simp, .inr ⟨?_, ?_⟩⟩
        · show l < 0; omega
        · show (0 : Int) ≤ _; omega
      · injection h with h
        subst h
        refine ⟨by simp, .inr ⟨?_, ?_⟩⟩
        · show l < nmb w; omega
        · show nmb w ≤ _; omega
theorem wdsM_many {p : Pt} {ws : List ByteArray} : ∀ {i : Nat} {q : Pt} {l : Int}, wdsM p ws i = some (q, l) → q.ln.length ≤ p.ln.length ∧ (i : Int) ≤ l + 2 ∧ l ≤ p.ln.length ∧ -1 ≤ l
  | 0, q, l, h => by
    unfold wdsM at h
    injection h with h
    simp only [Prod.mk.injEq] at h
    obtain ⟨rfl, rfl⟩ := h
    exact ⟨Nat.le_refl _, by omega, by omega, by omega⟩
  | i + 1, q, l, h => by
    unfold wdsM at h
    cases e : wdsM p ws i with
    | none => rw [e] at h; cases h
    | some y =>
      obtain ⟨q', l'⟩ := y
      rw [e] at h
      simp only at h
      obtain ⟨a1, a2, a3, a4⟩ := wdsM_many e
      obtain ⟨b1, b2⟩ := nmb_le h
      simp only at b1 b2
      refine ⟨by omega, ?_⟩
      rcases b2 with ⟨b2, b3⟩ | ⟨b2, b3⟩
      · have hi : i = 0 := by simpa using b2
        subst hi
        have : l' = -1 := by
          unfold wdsM at e
          injection e with e
          simp only [Prod.mk.injEq] at e
          exact e.2.symm
        subst b3
        omega
      · omega
/-- what Modify takes of a pattern of the table is short -/
theorem mdf_short {p : Pt} {ws : List ByteArray} (hp : p ∈ tab) (h : (mdf p ws).2 = 0) : ws.length ≤ 6 ∧ ∀ w ∈ ws, w.size ≤ 8 := by
  have hl := (tab_f hp).b.le.1
  unfold mdf at h
  split at h
  · exact absurd h ‹_›
  · cases hm : wdsM p ws ws.length with
    | none => rw [hm] at h; simp at h
    | some x =>
      obtain ⟨q, l⟩ := x
      obtain ⟨_, a2, a3, _⟩ := wdsM_many hm
      refine ⟨by omega, fun w hw => ?_⟩
      obtain ⟨j, hj, rfl⟩ := List.getElem_of_mem hw
      have := wdsM_pre hm j hj
      rwa [show ws.getD j ⟨#[]⟩ = ws[j] by simp [List.getD, hj]] at this
theorem JW_small : ∀ ws : List (List UInt8), (∀ w ∈ ws, w.length ≤ 8) → (JW ws).length ≤ 9 * ws.length
  | [], _ => by simp [JW]
  | [w], h => by have := h w (by simp); simp [JW]; omega
  | w :: v :: r, h => by
    have ih := JW_small (v :: r) (fun x hx => h x (by simp [hx]))
    have := h w (by simp)
    show (w ++ 43 :: JW (v :: r)).length ≤ _
    rw [List.length_append, List.length_cons]
    simp only [List.length_cons] at ih ⊢
    omega
structure Wdd (b : ByteArray) (ws : List ByteArray) : Prop where
  sz : b.size ≤ 20
  up : ∀ j, j < b.size → upB (byt b j) = true
  wd : ∀ w ∈ ws, WdL (toL w)
  ne : ws ≠ []
theorem Wdd.form {b t : ByteArray} {ws : List ByteArray} (h : Wdd b ws) (ht : toL t = toL hdN ++ (toL (nmN b ws ws.length) ++ toL tlN)) : FormB t b ws := by
  refine ⟨?_, fun x hx => ?_, fun w hw => ?_⟩
  · rw [ht, nmN_join b ws ws.length (Nat.le_refl _), List.take_length, ← JW_join]
    simp
  · obtain ⟨j, hj, rfl⟩ := List.getElem_of_mem hx
    have := h.up j (by rw [toL_len] at hj; exact hj)
    rw [bytD, getD_at _ _ hj] at this
    exact this
  · obtain ⟨y, hy, rfl⟩ := List.mem_map.1 hw
    exact h.wd y hy
theorem worded_prs {b t : ByteArray} {ws : List ByteArray} (h : Wdd b ws) (ht : toL t = toL hdN ++ (toL (nmN b ws ws.length) ++ toL tlN)) : nprs t = nmd b ws := by
  have hF := h.form ht
  by_cases hz : t.size ≤ 255
  · exact nprs_form hF hz
  · rw [nprs_big (by omega)]
    unfold nmd
    cases e : tbI b with
    | none => rfl
    | some p =>
      simp only
      rw [if_pos]
      intro hm
      refine hz ?_
      obtain ⟨h1, h2⟩ := mdf_short (tbI_mem e).1 hm
      have hj := JW_small (ws.map toL) (fun w hw => by obtain ⟨y, hy, rfl⟩ := List.mem_map.1 hw; rw [toL_len]; exact h2 y hy)
      rw [List.length_map] at hj
      have hl := toL_len t
      rw [hF.eq] at hl
      simp only [List.length_append, toL_len] at hl
      have e1 : hdN.size = 6 := rfl
      have e2 : tlN.size = 25 := rfl
      have := h.sz
      omega
theorem rdW_plus : ∀ (ws : List (List UInt8)) (r : List UInt8), ws ≠ [] → (∀ w ∈ ws, WdL w) → headSm r = false → rdW (JW ws ++ 43 :: r) = none
  | [], _, h, _, _ => absurd rfl h
  | [w], r, _, hw, hr => by
    have h := hw w (by simp)
    have hn := ctb_app lo8 w 43 r h.1 (by decide)
    show rdW (w ++ 43 :: r) = _
    rw [rdW, hn]
    have hd : (w ++ 43 :: r).drop w.length = 43 :: r := by simp
    have hd1 : (w ++ 43 :: r).drop (w.length + 1) = r := by rw [← List.drop_drop, hd]; rfl
    rw [dif_pos (by rw [hd]; rfl), hd1, if_neg (by rw [hr]; decide)]
  | w :: v :: q, r, _, hw, hr => by
    have h := hw w (by simp)
    have hn := ctb_app lo8 w 43 (JW (v :: q) ++ 43 :: r) h.1 (by decide)
    have e : JW (w :: v :: q) ++ 43 :: r = w ++ 43 :: (JW (v :: q) ++ 43 :: r) := by show (w ++ 43 :: JW (v :: q)) ++ 43 :: r = _; simp
    rw [e, rdW, hn]
    have hd : (w ++ 43 :: (JW (v :: q) ++ 43 :: r)).drop w.length = 43 :: (JW (v :: q) ++ 43 :: r) := by simp
    have hd1 : (w ++ 43 :: (JW (v :: q) ++ 43 :: r)).drop (w.length + 1) = JW (v :: q) ++ 43 :: r := by rw [← List.drop_drop, hd]; rfl
    rw [dif_pos (by rw [hd]; rfl), hd1, if_pos (JW_head (by simp) (fun x hx => hw x (by simp [hx])) _), rdW_plus (v :: q) r (by simp) (fun x hx => hw x (by simp [hx])) hr]
    rfl
theorem worded_more {b t : ByteArray} {ws : List ByteArray} (h : Wdd b ws) (ht : toL t = toL hdN ++ (toL (nmN b ws ws.length) ++ (43 :: toL tlN))) : nprs t = (zPt, 13) := by
  refine nprs_no (fun b' ws' hf => ?_)
  have h1 := nspL_form.2 hf
  have hw : ∀ w ∈ ws.map toL, WdL w := fun w hw => by obtain ⟨y, hy, rfl⟩ := List.mem_map.1 hw; exact h.wd y hy
  have hne : ws.map toL ≠ [] := fun e => h.ne (List.map_eq_nil_iff.1 e)
  have hup : ∀ x ∈ toL b, up8 x = true := fun x hx => by
    obtain ⟨j, hj, rfl⟩ := List.getElem_of_mem hx
    have := h.up j (by rw [toL_len] at hj; exact hj)
    rw [bytD, getD_at _ _ hj] at this
    exact this
  rw [nmN_join b ws ws.length (Nat.le_refl _), List.take_length, ← JW_join] at ht
  have e6 : (toL t).take 6 = toL hdN := by rw [ht]; rfl
  have d6 : (toL t).drop 6 = toL b ++ (JW (ws.map toL) ++ 43 :: toL tlN) := by rw [ht]; show _ = _; simp; rfl
  have hn : ctb up8 ((toL t).drop 6) = (toL b).length := by
    rw [d6]
    refine ctb_stop hup (fun c q e => ?_)
    have hh := JW_head hne hw (43 :: toL tlN)
    rw [e] at hh
    exact sm_up hh
  unfold nspL at h1
  rw [if_pos e6, hn, d6] at h1
  have hd : (toL b ++ (JW (ws.map toL) ++ 43 :: toL tlN)).drop (toL b).length = JW (ws.map toL) ++ 43 :: toL tlN := by simp
  rw [hd] at h1
  unfold nrest at h1
  rw [if_pos (JW_head hne hw _), rdW_plus _ _ hne hw (by decide)] at h1
  cases h1
end Go.Pat
