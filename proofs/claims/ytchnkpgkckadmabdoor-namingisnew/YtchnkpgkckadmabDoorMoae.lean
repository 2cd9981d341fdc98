import Derived.Test.YtchnkpgkckadmabDoorMoad
import Derived.Test.YtchnkpgkckadmabDoorMoaa
/- the table's patterns and their modifiers (P15.5, P15.7), az data -/
namespace Go.Pat
def pk (i : Nat) : ByteArray := ⟨#[112, 115, 107, UInt8.ofNat (48 + i)]⟩
def pks : List ByteArray := [pk 0, pk 1, pk 2, pk 3, pk 4, pk 5]
def lnT (p : Pt) (k : Nat) : List Int := (p.ln.getD k (0, [])).2
structure OkA (p : Pt) (i : Nat) (x : Pt × Int) : Prop where
  er : x.2 = 0
  nm : x.1.nm = p.nm ++ pk i
  ct : cntP x.1 (-1) 7 = 1
  ln : x.1.ln.length = p.ln.length
  lt : i - 1 < p.ln.length
  le : (lnT x.1 (i - 1)).length = (lnT p (i - 1)).length + 1
  hd : i = 0 → (lnT x.1 0).getD 0 0 = 7
  tl : 0 < i → (lnT x.1 (i - 1)).getD (lnT p (i - 1)).length 0 = 7
  sh : shaped x.1 = true
  sm : (lnT p (i - 1)).length ≤ 24
instance (p : Pt) (i : Nat) (x : Pt × Int) : Decidable (OkA p i x) :=
  decidable_of_iff (x.2 = 0 ∧ x.1.nm = p.nm ++ pk i ∧ cntP x.1 (-1) 7 = 1 ∧ x.1.ln.length = p.ln.length ∧ i - 1 < p.ln.length ∧ (lnT x.1 (i - 1)).length = (lnT p (i - 1)).length + 1 ∧ (i = 0 → (lnT x.1 0).getD 0 0 = 7) ∧ (0 < i → (lnT x.1 (i - 1)).getD (lnT p (i - 1)).length 0 = 7) ∧ shaped x.1 = true ∧ (lnT p (i - 1)).length ≤ 24)
    ⟨fun ⟨a, b, c, d, e, f, g, h, k, l⟩ => ⟨a, b, c, d, e, f, g, h, k, l⟩, fun ⟨a, b, c, d, e, f, g, h, k, l⟩ => ⟨a, b, c, d, e, f, g, h, k, l⟩⟩
structure OkB (p : Pt) (x : Pt × Int) : Prop where
  er : x.2 = 0
  ct : cntP x.1 (-1) 7 = p.ln.length + 1
  sh : shaped x.1 = true
  le : p.ln.length ≤ 4 ∧ 1 ≤ p.ln.length
instance (p : Pt) (x : Pt × Int) : Decidable (OkB p x) :=
  decidable_of_iff (x.2 = 0 ∧ cntP x.1 (-1) 7 = p.ln.length + 1 ∧ shaped x.1 = true ∧ (p.ln.length ≤ 4 ∧ 1 ≤ p.ln.length)) ⟨fun ⟨a, b, c, d⟩ => ⟨a, b, c, d⟩, fun ⟨a, b, c, d⟩ => ⟨a, b, c, d⟩⟩
/-- may the first message be known ahead? -/
def mayF (p : Pt) : Bool := decide ((lnT p 0).getD 0 0 = 1) && (decide ((lnT p 0).length = 1) || (decide ((lnT p 0).length = 2) && decide ((lnT p 0).getD 1 0 = 2)))
structure OkC (p : Pt) (x : Pt × Int) : Prop where
  er : x.2 = 0
  ln : x.1.ln.length + 1 = p.ln.length
  nm : x.1.nm = p.nm ++ fbW
  fr : (x.1.ln.getD 0 (0, [])).1 = 1
  l0 : 0 < x.1.ln.length
  ct : cntP x.1 0 1 = 1
  bl : x.1.b0.length = p.b0.length + (lnT p 0).length
  b0 : x.1.b0.getD 0 0 = 1
  sh : shaped x.1 = true
instance (p : Pt) (x : Pt × Int) : Decidable (OkC p x) :=
  decidable_of_iff (x.2 = 0 ∧ x.1.ln.length + 1 = p.ln.length ∧ x.1.nm = p.nm ++ fbW ∧ (x.1.ln.getD 0 (0, [])).1 = 1 ∧ 0 < x.1.ln.length ∧ cntP x.1 0 1 = 1 ∧ x.1.b0.length = p.b0.length + (lnT p 0).length ∧ x.1.b0.getD 0 0 = 1 ∧ shaped x.1 = true)
    ⟨fun ⟨a, b, c, d, e, f, g, h, k⟩ => ⟨a, b, c, d, e, f, g, h, k⟩, fun ⟨a, b, c, d, e, f, g, h, k⟩ => ⟨a, b, c, d, e, f, g, h, k⟩⟩
def okI (p : Pt) (i : Nat) : Bool := if i ≤ p.ln.length then decide (OkA p i (mdf p [pk i])) else decide ((mdf p [pk i]).2 = 1)
def okT (p : Pt) : Bool := (List.range 6).all (okI p) && decide (OkB p (mdf p (pks.take (p.ln.length + 1)))) && (if mayF p = true then decide (OkC p (mdf p [fbW])) else decide ((mdf p [fbW]).2 = 1)) && decide (0 < (lnT p 0).length) && decide (chk p = 0) && decide (p.nm.size ≤ 100)
theorem tab_ok : tab.all okT = true := by kernel_rfl
structure TbF (p : Pt) : Prop where
  a : ∀ i, i < 6 → i ≤ p.ln.length → OkA p i (mdf p [pk i])
  n : ∀ i, i < 6 → ¬ i ≤ p.ln.length → (mdf p [pk i]).2 = 1
  b : OkB p (mdf p (pks.take (p.ln.length + 1)))
  c : mayF p = true → OkC p (mdf p [fbW])
  d : mayF p = false → (mdf p [fbW]).2 = 1
  l0 : 0 < (lnT p 0).length
  ck : chk p = 0
  nm : p.nm.size ≤ 100
theorem tab_f {p : Pt} (hp : p ∈ tab) : TbF p := by
  have h := List.all_eq_true.1 tab_ok p hp
  unfold okT at h
  simp only [Bool.and_eq_true, decide_eq_true_eq] at h
  obtain ⟨⟨⟨⟨⟨h1, h2⟩, h3⟩, h4⟩, h5⟩, h6⟩ := h
  have hI : ∀ i, i < 6 → okI p i = true := fun i hi => List.all_eq_true.1 h1 i (List.mem_range.2 hi)
  refine ⟨fun i hi hn => ?_, fun i hi hn => ?_, h2, fun hm => ?_, fun hm => ?_, h4, h5, h6⟩
  · have := hI i hi
    unfold okI at this
    rw [if_pos hn] at this
    exact of_decide_eq_true this
  · have := hI i hi
    unfold okI at this
    rw [if_neg hn] at this
    exact of_decide_eq_true this
  · rw [if_pos hm] at h3
    exact of_decide_eq_true h3
  · rw [if_neg (by simp [hm])] at h3
    exact of_decide_eq_true h3
end Go.Pat
/- the form of a protocol's name: what the document's steps and the program's machine both read -/
namespace Go.Pat
set_option linter.unusedVariables false
def smB (c : Nat) : Bool := decide (97 ≤ c) && decide (c ≤ 122)
def lo8 (c : UInt8) : Bool := loB c.toNat
def up8 (c : UInt8) : Bool := upB c.toNat
def sm8 (c : UInt8) : Bool := smB c.toNat
theorem sm_lo {c : UInt8} (h : sm8 c = true) : lo8 c = true := by unfold sm8 smB at h; unfold lo8 loB; simp at h ⊢; omega
theorem lo_sm {c : UInt8} (h : lo8 c = true) (hd : dgB c.toNat = false) : sm8 c = true := by unfold lo8 loB at h; unfold dgB at hd; unfold sm8 smB; simp at h hd ⊢; omega
theorem sm_dg {c : UInt8} (h : sm8 c = true) : dgB c.toNat = false := by unfold sm8 smB at h; unfold dgB; simp at h ⊢; omega
theorem sm_up {c : UInt8} (h : sm8 c = true) : up8 c = false := by unfold sm8 smB at h; unfold up8 upB; simp at h ⊢; omega
/-- a word's signs -/
def WdL (w : List UInt8) : Prop := (∀ x ∈ w, lo8 x = true) ∧ ∃ c r, w = c :: r ∧ sm8 c = true
def JW : List (List UInt8) → List UInt8
  | [] => []
  | [w] => w
  | w :: v :: r => w ++ 43 :: JW (v :: r)
theorem JW_cons (w : List UInt8) {r : List (List UInt8)} (h : r ≠ []) : JW (w :: r) = w ++ 43 :: JW r := by
  cases r with
  | nil => exact absurd rfl h
  | cons v r => rfl
def headSm (l : List UInt8) : Bool := match l with | [] => false | c :: _ => sm8 c
theorem JW_head {ws : List (List UInt8)} (h : ws ≠ []) (hw : ∀ w ∈ ws, WdL w) (r : List UInt8) : headSm (JW ws ++ r) = true := by
  cases ws with
  | nil => exact absurd rfl h
  | cons w vs =>
    obtain ⟨_, c, q, rfl, hc⟩ := hw w (by simp)
    cases vs with
    | nil => exact hc
    | cons v vs => exact hc
def badW (w : List UInt8) : Bool := match w with | [] => true | c :: _ => dgB c.toNat
theorem bad_wd {w : List UInt8} (h : ∀ x ∈ w, lo8 x = true) (hb : badW w = false) : WdL w := by
  cases w with
  | nil => cases hb
  | cons c r => exact ⟨h, c, r, rfl, lo_sm (h c (by simp)) hb⟩
theorem wd_bad {w : List UInt8} (h : WdL w) : badW w = false := by
  obtain ⟨_, c, r, rfl, hc⟩ := h
  exact sm_dg hc
/-- Words, over a list -/
def wl : List UInt8 → List UInt8 → Option (List (List UInt8))
  | [], cur => if badW cur = true then none else some [cur]
  | c :: r, cur => if lo8 c = true then wl r (cur ++ [c]) else if c ≠ 43 then none else if badW cur = true then none else (wl r []).map fun x => cur :: x
theorem wl_bck : ∀ (l cur : List UInt8) (ws : List (List UInt8)), (∀ x ∈ cur, lo8 x = true) → wl l cur = some ws → cur ++ l = JW ws ∧ ws ≠ [] ∧ ∀ w ∈ ws, WdL w
  | [], cur, ws, hc, h => by
    unfold wl at h
    split at h
    · cases h
    · injection h with h
      subst h
      exact ⟨by simp [JW], by simp, fun w hw => by simp at hw; subst hw; exact bad_wd hc (by simpa using ‹¬badW _ = true›)⟩
  | c :: r, cur, ws, hc, h => by
    unfold wl at h
    split at h
    · obtain ⟨h1, h2⟩ := wl_bck r (cur ++ [c]) ws (fun x hx => by
        rcases List.mem_append.1 hx with hx | hx
        · exact hc x hx
        · simp at hx; subst hx; assumption) h
      exact ⟨by rw [← h1]; simp, h2⟩
    · split at h
      · cases h
      · split at h
        · cases h
        · rename_i h1 h2 h3
          have hc43 : c = 43 := Classical.byContradiction fun e => h2 e
          cases e : wl r [] with
          | none => rw [e] at h; cases h
          | some vs =>
            rw [e] at h
            injection h with h
            subst h
            obtain ⟨g1, g2, g3⟩ := wl_bck r [] vs (fun x hx => nomatch hx) e
            refine ⟨?_, by simp, fun w hw => ?_⟩
            · rw [JW_cons _ g2, ← g1, hc43]; rfl
            · rcases List.mem_cons.1 hw with hw | hw
              · subst hw; exact bad_wd hc (by simpa using h3)
              · exact g3 w hw
theorem wl_run : ∀ (w r cur : List UInt8), (∀ x ∈ w, lo8 x = true) → wl (w ++ r) cur = wl r (cur ++ w)
  | [], r, cur, _ => by simp
  | c :: w, r, cur, h => by
    rw [List.cons_append]
    conv => lhs; unfold wl
    rw [if_pos (h c (by simp)), wl_run w r _ (fun x hx => h x (by simp [hx]))]
    simp
theorem wl_fwd : ∀ (ws : List (List UInt8)), ws ≠ [] → (∀ w ∈ ws, WdL w) → wl (JW ws) [] = some ws
  | [], h, _ => absurd rfl h
  | [w], _, hw => by
    have h := hw w (by simp)
    have := wl_run w [] [] h.1
    rw [List.append_nil] at this
    show wl w [] = _
    rw [this]
    unfold wl
    rw [List.nil_append, wd_bad h]; rfl
  | w :: v :: r, _, hw => by
    have h := hw w (by simp)
    show wl (w ++ 43 :: JW (v :: r)) [] = _
    rw [wl_run w _ [] h.1]
    unfold wl
    rw [if_neg (by decide), if_neg (by simp), List.nil_append, wd_bad h, wl_fwd (v :: r) (by simp) (fun x hx => hw x (by simp [hx]))]
    rfl
theorem bad_byt (x : ByteArray) : (x.size = 0 ∨ dgB (byt x 0) = true) ↔ badW (toL x) = true := by
  have hl := toL_len x
  unfold byt badW
  show _ ∨ dgB ((toL x).getD 0 0).toNat = true ↔ _
  cases h : toL x with
  | nil =>
    rw [h] at hl
    exact ⟨fun _ => rfl, fun _ => .inl hl.symm⟩
  | cons c r =>
    rw [h] at hl
    exact ⟨fun h => h.elim (fun h => by simp at hl; omega) (fun h => h), fun h => .inr h⟩
theorem wl_wst (s : ByteArray) : ∀ (d k f : Nat) (out : List ByteArray), k + d = s.size → f ≤ k → wst s k = some (f, out) →
    (wst s (s.size + 1)).map (fun x => x.2.map toL) = (wl ((toL s).drop k) (((toL s).take k).drop f)).map fun x => out.map toL ++ x
  | 0, k, f, out, hk, hf, h => by
    have hks : k = s.size := by omega
    have hst := wst_step h
    rw [if_neg (by omega), if_neg (by omega)] at hst
    have hd : (toL s).drop k = [] := List.drop_eq_nil_of_le (by rw [toL_len]; omega)
    have hb := bad_byt (s.extract f k)
    rw [toL_ext] at hb
    rw [← hks, hst, hd]
    unfold wl
    by_cases e : badW (((toL s).take k).drop f) = true
    · rw [if_pos (hb.2 e), if_pos e]; rfl
    · rw [if_neg (fun h => e (hb.1 h)), if_neg e]
      simp [toL_ext]
  | d + 1, k, f, out, hk, hf, h => by
    have hlen : k < (toL s).length := by rw [toL_len]; omega
    obtain ⟨c, hc⟩ : ∃ c, (toL s)[k]? = some c := ⟨_, List.getElem?_eq_getElem hlen⟩
    have hdr : (toL s).drop k = c :: (toL s).drop (k + 1) := by
      rw [List.drop_eq_getElem_cons hlen]
      have : (toL s)[k] = c := by rw [List.getElem?_eq_getElem hlen] at hc; injection hc
      rw [this]
    have htk : (toL s).take (k + 1) = (toL s).take k ++ [c] := by rw [List.take_add_one, hc]; rfl
    have hbt : byt s k = c.toNat := by unfold byt; show ((toL s).getD k 0).toNat = _; simp only [List.getD, hc]; rfl
    have hst := wst_step h
    rw [hbt] at hst
    have hlt : ((toL s).take k).length = k := by rw [List.length_take]; omega
    rw [hdr]
    unfold wl
    by_cases h1 : lo8 c = true
    · rw [if_pos ⟨by omega, h1⟩] at hst
      rw [if_pos h1]
      have ih := wl_wst s d (k + 1) f out (by omega) (by omega) hst
      rw [htk, List.drop_append_of_le_length (by omega)] at ih
      exact ih
    · rw [if_neg (fun h => h1 h.2)] at hst
      rw [if_neg h1]
      by_cases h2 : c = 43
      · have e43 : c.toNat = 43 := by rw [h2]; rfl
        rw [if_neg (fun h => h.2 e43)] at hst
        rw [if_neg (fun h => h h2)]
        have hb := bad_byt (s.extract f k)
        rw [toL_ext] at hb
        by_cases e : badW (((toL s).take k).drop f) = true
        · rw [if_pos (hb.2 e)] at hst
          rw [if_pos e, wst_none hst (s.size + 1) (by omega)]
          rfl
        · rw [if_neg (fun h => e (hb.1 h))] at hst
          rw [if_neg e, wl_wst s d (k + 1) (k + 1) _ (by omega) (Nat.le_refl _) hst]
          have hdn : ((toL s).take (k + 1)).drop (k + 1) = [] := List.drop_eq_nil_of_le (by rw [List.length_take]; omega)
          rw [hdn]
          cases wl ((toL s).drop (k + 1)) [] with
          | none => rfl
          | some x => simp [toL_ext]
      · have n43 : c.toNat ≠ 43 := fun e => h2 (UInt8.toNat_inj.1 e)
        rw [if_pos ⟨by omega, n43⟩] at hst
        rw [if_pos h2, wst_none hst (s.size + 1) (by omega)]
        rfl
theorem map_inj {A B : List ByteArray} (h : A.map toL = B.map toL) : A = B := by
  induction A generalizing B with
  | nil => cases B with | nil => rfl | cons b B => cases h
  | cons a A ih =>
    cases B with
    | nil => cases h
    | cons b B =>
      simp only [List.map_cons, List.cons.injEq] at h
      rw [toL_inj h.1, ih h.2]
/-- what Words takes -/
theorem nwd_iff (s : ByteArray) (L : List ByteArray) : nwd s = some L ↔ toL s = JW (L.map toL) ∧ ∀ w ∈ L, WdL (toL w) := by
  have hl := toL_len s
  by_cases h0 : s.size = 0
  · have hs : toL s = [] := List.eq_nil_of_length_eq_zero (by omega)
    have hn : nwd s = some [] := by unfold nwd; rw [if_pos h0]
    rw [hn, hs]
    constructor
    · intro h
      injection h with h
      subst h
      exact ⟨rfl, fun w hw => nomatch hw⟩
    · intro ⟨h1, h2⟩
      cases L with
      | nil => rfl
      | cons w L =>
        exfalso
        have := JW_head (ws := (w :: L).map toL) (by simp) (fun x hx => by obtain ⟨y, hy, rfl⟩ := List.mem_map.1 hx; exact h2 y hy) []
        rw [← h1] at this
        cases this
  · have hw := wl_wst s s.size 0 0 [] (by omega) (Nat.le_refl _) rfl
    simp only [List.drop_zero, List.take_zero, List.drop_nil, List.map_nil, List.nil_append] at hw
    have hn : nwd s = (wst s (s.size + 1)).map (·.2) := by unfold nwd; rw [if_neg h0]
    have hmap : (nwd s).map (fun x => x.map toL) = wl (toL s) [] := by
      rw [hn, Option.map_map]
      have e : ((fun x => List.map toL x) ∘ fun (x : Nat × List ByteArray) => x.2) = fun x => x.2.map toL := rfl
      rw [e, hw]
      cases wl (toL s) [] <;> rfl
    constructor
    · intro h
      rw [h] at hmap
      obtain ⟨g1, g2, g3⟩ := wl_bck (toL s) [] (L.map toL) (fun x hx => nomatch hx) hmap.symm
      exact ⟨by simpa using g1, fun w hw => g3 _ (List.mem_map.2 ⟨w, hw, rfl⟩)⟩
    · intro ⟨h1, h2⟩
      have hne : L.map toL ≠ [] := by
        intro e
        rw [e] at h1
        have : (toL s).length = 0 := by rw [h1]; rfl
        omega
      have hf := wl_fwd (L.map toL) hne (fun x hx => by obtain ⟨y, hy, rfl⟩ := List.mem_map.1 hx; exact h2 y hy)
      rw [← h1, ← hmap] at hf
      cases e : nwd s with
      | none => rw [e] at hf; cases hf
      | some M =>
        rw [e] at hf
        injection hf with hf
        rw [map_inj hf]
/-- the machine of a word, a plus, the rest -/
def rdW (l : List UInt8) : Option (List (List UInt8) × List UInt8) :=
  if h : (l.drop (ctb lo8 l)).head? = some 43 then
    (if headSm (l.drop (ctb lo8 l + 1)) = true then (rdW (l.drop (ctb lo8 l + 1))).map fun x => (l.take (ctb lo8 l) :: x.1, x.2) else none)
  else some ([l.take (ctb lo8 l)], l.drop (ctb lo8 l))
termination_by l.length
decreasing_by
  have hne : l.drop (ctb lo8 l) ≠ [] := by intro e; rw [e] at h; cases h
  have : ctb lo8 l < l.length := by
    refine Classical.byContradiction fun e => hne (List.drop_eq_nil_of_le (by omega))
  rw [List.length_drop]
  omega
theorem ctb_run {f : UInt8 → Bool} {l : List UInt8} {n : Nat} (h : ∀ j, j < n → f (l.getD j 0) = true) (hn : n ≤ l.length) (he : n = l.length ∨ f (l.getD n 0) = false) : ctb f l = n := by
  induction l generalizing n with
  | nil => simp at hn; subst hn; rfl
  | cons a l ih =>
    cases n with
    | zero =>
      rcases he with he | he
      · simp at he
      · unfold ctb; rw [if_neg (by simpa using he)]
    | succ n =>
      have h0 : f a = true := h 0 (by omega)
      unfold ctb
      rw [if_pos h0, ih (n := n) (fun j hj => h (j + 1) (Nat.succ_lt_succ hj)) (by simpa using hn) (by
        rcases he with he | he
        · left; simpa using he
        · right; exact he)]
theorem ctb_all' {f : UInt8 → Bool} : ∀ {a : List UInt8}, (∀ x ∈ a, f x = true) → ctb f a = a.length
  | [], _ => rfl
  | b :: a, h => by unfold ctb; rw [if_pos (h b (by simp)), ctb_all' (fun x hx => h x (by simp [hx]))]; rfl
theorem ctb_stop {f : UInt8 → Bool} {a r : List UInt8} (h : ∀ x ∈ a, f x = true) (hr : ∀ c q, r = c :: q → f c = false) : ctb f (a ++ r) = a.length := by
  cases r with
  | nil => rw [List.append_nil]; exact ctb_all' h
  | cons c q => exact ctb_app f a c q h (hr c q rfl)
theorem rdW_bck : ∀ (n : Nat) (l : List UInt8) (ws : List (List UInt8)) (r : List UInt8), l.length ≤ n → headSm l = true → rdW l = some (ws, r) → l = JW ws ++ r ∧ ws ≠ [] ∧ ∀ w ∈ ws, WdL w
  | n, l, ws, r, hn, hs, h => by
    have hw : WdL (l.take (ctb lo8 l)) := by
      refine ⟨ctb_all lo8 l, ?_⟩
      cases l with
      | nil => cases hs
      | cons c q =>
        refine ⟨c, q.take (ctb lo8 q), ?_, hs⟩
        conv => lhs; unfold ctb
        rw [if_pos (sm_lo hs)]
        rfl
    rw [rdW] at h
    split at h
    · rename_i h43
      split at h
      · rename_i hh
        have hd : l.drop (ctb lo8 l) = 43 :: l.drop (ctb lo8 l + 1) := by
          cases e : l.drop (ctb lo8 l) with
          | nil => rw [e] at h43; cases h43
          | cons c q =>
            rw [e] at h43
            injection h43 with h43
            subst h43
            rw [← List.drop_drop, e]
            rfl
        have hlt : (l.drop (ctb lo8 l + 1)).length < l.length := by
          have h1 : (l.drop (ctb lo8 l)).length ≤ l.length := by simp
          rw [hd] at h1
          simp at h1 ⊢
          omega
        cases n with
        | zero => omega
        | succ n =>
          cases e : rdW (l.drop (ctb lo8 l + 1)) with
          | none => rw [e] at h; cases h
          | some x =>
            obtain ⟨vs, q⟩ := x
            rw [e] at h
            injection h with h
            simp only [Prod.mk.injEq] at h
            obtain ⟨h1, h2⟩ := h
            subst h1 h2
            obtain ⟨g1, g2, g3⟩ := rdW_bck n _ vs q (by omega) hh e
            refine ⟨?_, by simp, fun w hw' => ?_⟩
            · rw [JW_cons _ g2]
              conv => lhs; rw [← List.take_append_drop (ctb lo8 l) l, hd, g1]
              simp
            · rcases List.mem_cons.1 hw' with hw' | hw'
              · subst hw'; exact hw
              · exact g3 w hw'
      · cases h
    · injection h with h
      simp only [Prod.mk.injEq] at h
      obtain ⟨h1, h2⟩ := h
      subst h1 h2
      exact ⟨by simp [JW], by simp, fun w hw' => by simp at hw'; subst hw'; exact hw⟩
theorem rdW_fwd : ∀ (ws : List (List UInt8)) (c : UInt8) (q : List UInt8), ws ≠ [] → (∀ w ∈ ws, WdL w) → lo8 c = false → c ≠ 43 → rdW (JW ws ++ c :: q) = some (ws, c :: q)
  | [], _, _, h, _, _, _ => absurd rfl h
  | [w], c, q, _, hw, hc, hc2 => by
    have h := hw w (by simp)
    have hn := ctb_app lo8 w c q h.1 hc
    show rdW (w ++ c :: q) = _
    rw [rdW, hn]
    have hd : (w ++ c :: q).drop w.length = c :: q := by simp
    have ht : (w ++ c :: q).take w.length = w := by simp
    rw [dif_neg (by rw [hd]; simpa using hc2), hd, ht]
  | w :: v :: r, c, q, _, hw, hc, hc2 => by
    have h := hw w (by simp)
    have hn := ctb_app lo8 w 43 (JW (v :: r) ++ c :: q) h.1 (by decide)
    have e : JW (w :: v :: r) ++ c :: q = w ++ 43 :: (JW (v :: r) ++ c :: q) := by show (w ++ 43 :: JW (v :: r)) ++ c :: q = _; simp
    rw [e, rdW, hn]
    have hd : (w ++ 43 :: (JW (v :: r) ++ c :: q)).drop w.length = 43 :: (JW (v :: r) ++ c :: q) := by simp
    have hd1 : (w ++ 43 :: (JW (v :: r) ++ c :: q)).drop (w.length + 1) = JW (v :: r) ++ c :: q := by rw [← List.drop_drop, hd]; rfl
    have ht : (w ++ 43 :: (JW (v :: r) ++ c :: q)).take w.length = w := by simp
    rw [dif_pos (by rw [hd]; rfl), hd1, ht, if_pos (JW_head (by simp) (fun x hx => hw x (by simp [hx])) _), rdW_fwd (v :: r) c q (by simp) (fun x hx => hw x (by simp [hx])) hc hc2]
    rfl
def nrest (l : List UInt8) : Option (List (List UInt8)) :=
  if headSm l = true then (rdW l).bind fun x => if x.2 = toL tlN then some x.1 else none
  else if l = toL tlN then some [] else none
/-- the program's split -/
def nspL (l : List UInt8) : Option (List UInt8 × List (List UInt8)) :=
  if l.take 6 = toL hdN then (nrest ((l.drop 6).drop (ctb up8 (l.drop 6)))).map fun ws => ((l.drop 6).take (ctb up8 (l.drop 6)), ws) else none
structure Form (l b : List UInt8) (ws : List (List UInt8)) : Prop where
  eq : l = toL hdN ++ (b ++ (JW ws ++ toL tlN))
  up : ∀ x ∈ b, up8 x = true
  wd : ∀ w ∈ ws, WdL w
theorem tl_cons : ∃ q, toL tlN = 95 :: q := ⟨_, rfl⟩
theorem JW_stop {ws : List (List UInt8)} (hw : ∀ w ∈ ws, WdL w) : ∀ c q, JW ws ++ toL tlN = c :: q → up8 c = false := by
  intro c q h
  cases ws with
  | nil =>
    obtain ⟨r, hr⟩ := tl_cons
    rw [hr] at h
    injection h with h
    rw [← h]
    decide
  | cons w vs =>
    have hh := JW_head (ws := w :: vs) (by simp) hw (toL tlN)
    rw [h] at hh
    exact sm_up hh
theorem nspL_form {l b : List UInt8} {ws : List (List UInt8)} : nspL l = some (b, ws) ↔ Form l b ws := by
  constructor
  · intro h
    unfold nspL at h
    split at h
    · rename_i h6
      cases e : nrest ((l.drop 6).drop (ctb up8 (l.drop 6))) with
      | none => rw [e] at h; cases h
      | some vs =>
        rw [e] at h
        injection h with h
        simp only [Prod.mk.injEq] at h
        obtain ⟨h1, h2⟩ := h
        subst h1 h2
        have hw : (l.drop 6).drop (ctb up8 (l.drop 6)) = JW vs ++ toL tlN ∧ ∀ w ∈ vs, WdL w := by
          unfold nrest at e
          split at e
          · rename_i hs
            cases e2 : rdW ((l.drop 6).drop (ctb up8 (l.drop 6))) with
            | none => rw [e2] at e; cases e
            | some x =>
              obtain ⟨us, r⟩ := x
              rw [e2] at e
              simp only [Option.bind_some] at e
              split at e
              · rename_i ht
                injection e with e
                subst e
                obtain ⟨g1, _, g3⟩ := rdW_bck _ _ us r (Nat.le_refl _) hs e2
                rw [ht] at g1
                exact ⟨g1, g3⟩
              · cases e
          · split at e
            · rename_i ht
              injection e with e
              subst e
              exact ⟨ht, fun w hw => nomatch hw⟩
            · cases e
        refine ⟨?_, ctb_all up8 _, hw.2⟩
        rw [← hw.1, List.take_append_drop, ← h6, List.take_append_drop]
    · cases h
  · intro h
    have hd6 : l.drop 6 = b ++ (JW ws ++ toL tlN) := by rw [h.eq]; rfl
    have ht6 : l.take 6 = toL hdN := by rw [h.eq]; rfl
    have hn : ctb up8 (l.drop 6) = b.length := by rw [hd6]; exact ctb_stop h.up (JW_stop h.wd)
    have hdb : (l.drop 6).drop b.length = JW ws ++ toL tlN := by rw [hd6]; simp
    have htb : (l.drop 6).take b.length = b := by rw [hd6]; simp
    unfold nspL
    rw [if_pos ht6, hn, hdb, htb]
    have : nrest (JW ws ++ toL tlN) = some ws := by
      unfold nrest
      obtain ⟨q, hq⟩ := tl_cons
      by_cases e : ws = []
      · subst e
        have e0 : JW [] ++ toL tlN = toL tlN := rfl
        rw [e0, if_neg (by decide), if_pos rfl]
      · rw [if_pos (JW_head e h.wd _), hq, rdW_fwd ws 95 q e h.wd (by decide) (by decide)]
        simp
    rw [this]
    rfl
end Go.Pat
/- the document's Parse, by the form of a name -/
namespace Go.Pat
set_option linter.unusedVariables false
theorem JW_join : ∀ ws : List (List UInt8), JW ws = Lib.join ws [43]
  | [] => by simp [JW, Lib.join, List.intercalate]
  | [w] => by simp [JW, Lib.join, List.intercalate]
  | w :: v :: r => by
    have e : Lib.join (w :: v :: r) [43] = w ++ [43] ++ Lib.join (v :: r) [43] := by simp [Lib.join, List.intercalate]
    rw [e, ← JW_join (v :: r)]
    show w ++ 43 :: JW (v :: r) = _
    simp
theorem takeW_ctb (f : UInt8 → Bool) : ∀ l : List UInt8, (l.takeWhile f).length = ctb f l
  | [] => rfl
  | a :: l => by
    unfold ctb
    by_cases h : f a = true
    · rw [List.takeWhile_cons_of_pos h, if_pos h, List.length_cons, takeW_ctb f l]
    · rw [List.takeWhile_cons_of_neg h, if_neg h]; rfl
theorem nup_ctb (s : ByteArray) : nup s = ctb up8 (toL s) := takeW_ctb _ _
theorem tbI_mem {b : ByteArray} {p : Pt} (h : tbI b = some p) : p ∈ tab ∧ p.nm = b := by
  have h1 := List.find?_some h
  exact ⟨List.mem_of_find?_eq_some h, by simpa using h1⟩
theorem mdf_nil {p : Pt} (h : chk p = 0) : mdf p [] = (p, 0) := by
  unfold mdf
  rw [if_neg (by omega)]
  show (if chk p ≠ 0 then (zPt, chk p) else (⟨nmN p.nm [] 0, p.b0, p.b1, p.ln⟩, 0)) = _
  rw [if_neg (by omega)]
  rfl
theorem mdf_chk {p : Pt} {ws : List ByteArray} (h : (mdf p ws).2 = 0) : chk (mdf p ws).1 = 0 ∧ (mdf p ws).1.nm = nmN p.nm ws ws.length := by
  unfold mdf at h ⊢
  split at h
  · exact absurd h ‹_›
  · rename_i h1
    rw [if_neg h1]
    cases hm : wdsM p ws ws.length with
    | none => rw [hm] at h; simp at h
    | some x =>
      obtain ⟨q, l⟩ := x
      rw [hm] at h
      simp only at h ⊢
      split at h
      · exact absurd h ‹_›
      · rename_i h2
        rw [if_neg h2]
        exact ⟨Classical.not_not.1 h2, rfl⟩
/-- what Parse does behind a name's form -/
def nmd (b : ByteArray) (ws : List ByteArray) : Pt × Int := match tbI b with
  | none => (zPt, 13)
  | some p => if (mdf p ws).2 ≠ 0 then (zPt, 13) else ((mdf p ws).1, 0)
abbrev FormB (t b : ByteArray) (ws : List ByteArray) : Prop := Form (toL t) (toL b) (ws.map toL)
theorem hd_len : (toL hdN).length = 6 := rfl
theorem tl_len : (toL tlN).length = 25 := rfl
theorem nfl_some {t f : ByteArray} (h : nfl t = some f) : toL t = toL hdN ++ (toL f ++ toL tlN) ∧ t.size ≤ 255 := by
  unfold nfl at h
  split at h
  · cases h
  · split at h
    · cases h
    · rename_i h1 h2
      injection h with h
      have e1 : t.extract 0 6 = hdN := Classical.byContradiction fun e => h2 (.inl e)
      have e2 : t.extract (t.size - 25) t.size = tlN := Classical.byContradiction fun e => h2 (.inr e)
      have hl := toL_len t
      have e1' : (toL t).take 6 = toL hdN := by rw [← e1, toL_ext]; rfl
      have e2' : (toL t).drop (t.size - 25) = toL tlN := by rw [← e2, toL_ext, List.take_of_length_le (by omega)]
      refine ⟨?_, by omega⟩
      rw [← h, toL_ext, ← e1', ← e2']
      conv => lhs; rw [← List.take_append_drop (t.size - 25) (toL t)]
      rw [← List.append_assoc]
      congr 1
      conv => lhs; rw [← List.take_append_drop 6 ((toL t).take (t.size - 25))]
      rw [List.take_take, Nat.min_eq_left (by omega)]
theorem nfl_of {t f : ByteArray} (h : toL t = toL hdN ++ (toL f ++ toL tlN)) (hz : t.size ≤ 255) : nfl t = some f := by
  have hl := toL_len t
  have hf := toL_len f
  have hlen : t.size = f.size + 31 := by
    rw [← hl, h]
    simp only [List.length_append, hd_len, tl_len, hf]
    omega
  unfold nfl
  have e1 : t.extract 0 6 = hdN := toL_inj (by rw [toL_ext, h]; rfl)
  have e2 : t.extract (t.size - 25) t.size = tlN := toL_inj (by
    rw [toL_ext, List.take_of_length_le (by omega), h, ← List.append_assoc, List.drop_append_of_le_length (by simp only [List.length_append, hd_len, hf]; omega), List.drop_eq_nil_of_le (by simp only [List.length_append, hd_len, hf]; omega)]
    rfl)
  have e3 : t.extract 6 (t.size - 25) = f := toL_inj (by
    rw [toL_ext, h, ← List.append_assoc, List.take_append_of_le_length (by simp only [List.length_append, hd_len, hf]; omega), List.take_of_length_le (by simp only [List.length_append, hd_len, hf]; omega)]
    rfl)
  rw [if_neg (by omega), if_neg (by rw [e1, e2]; simp), e3]
theorem form_full {t b : ByteArray} {ws : List ByteArray} (h : FormB t b ws) (hz : t.size ≤ 255) :
    ∃ f, nfl t = some f ∧ toL f = toL b ++ JW (ws.map toL) ∧ f.extract 0 (nup f) = b ∧ nwd (f.extract (nup f) f.size) = some ws := by
  obtain ⟨f, hf⟩ : ∃ f : ByteArray, toL f = toL b ++ JW (ws.map toL) := ⟨⟨(toL b ++ JW (ws.map toL)).toArray⟩, by simp [toL]⟩
  have hn : nup f = (toL b).length := by
    rw [nup_ctb, hf]
    refine ctb_stop h.up (fun c q e => ?_)
    have := JW_stop h.wd c (q ++ toL tlN) (by rw [e]; rfl)
    exact this
  refine ⟨f, nfl_of (by rw [h.eq, hf]; simp) hz, hf, ?_, ?_⟩
  · refine toL_inj ?_
    rw [toL_ext, hn, hf]
    simp
  · rw [nwd_iff]
    refine ⟨?_, fun w hw => h.wd _ (List.mem_map.2 ⟨w, hw, rfl⟩)⟩
    rw [toL_ext, hn, List.take_of_length_le (by rw [toL_len]; omega), hf]
    simp
theorem nprs_form {t b : ByteArray} {ws : List ByteArray} (h : FormB t b ws) (hz : t.size ≤ 255) : nprs t = nmd b ws := by
  obtain ⟨f, h1, h2, h3, h4⟩ := form_full h hz
  unfold nprs nmd
  rw [h1]
  simp only [h3, h4]
  cases e : tbI b with
  | none => rfl
  | some p =>
    simp only
    by_cases hw : ws.length = 0
    · obtain rfl := List.eq_nil_of_length_eq_zero hw
      rw [if_pos hw, mdf_nil (tab_f (tbI_mem e).1).ck]
      rfl
    · rw [if_neg hw]
theorem nprs_no {t : ByteArray} (h : ∀ b ws, ¬ FormB t b ws) : nprs t = (zPt, 13) := by
  unfold nprs
  cases e : nfl t with
  | none => rfl
  | some f =>
    obtain ⟨g1, g2⟩ := nfl_some e
    simp only
    cases e2 : nwd (f.extract (nup f) f.size) with
    | none => cases tbI (f.extract 0 (nup f)) <;> rfl
    | some ws =>
      exfalso
      obtain ⟨k1, k2⟩ := (nwd_iff _ _).1 e2
      have hl := toL_len f
      refine h (f.extract 0 (nup f)) ws ⟨?_, ?_, fun w hw => ?_⟩
      · rw [← k1, g1]
        congr 1
        rw [← List.append_assoc]
        congr 1
        rw [toL_ext, toL_ext, List.take_of_length_le (i := f.size) (by omega), List.drop_zero, List.take_append_drop]
      · rw [toL_ext, nup_ctb]
        exact ctb_all up8 _
      · obtain ⟨y, hy, rfl⟩ := List.mem_map.1 hw
        exact k2 y hy
theorem nprs_big {t : ByteArray} (h : 255 < t.size) : nprs t = (zPt, 13) := by
  unfold nprs nfl
  rw [if_pos (.inl h)]
theorem nprs_ok {t : ByteArray} (h : (nprs t).2 = 0) : ∃ b ws p, FormB t b ws ∧ t.size ≤ 255 ∧ tbI b = some p ∧ (mdf p ws).2 = 0 ∧ nprs t = ((mdf p ws).1, 0) := by
  by_cases hz : 255 < t.size
  · rw [nprs_big hz] at h; cases h
  · by_cases hF : ∃ b ws, FormB t b ws
    · obtain ⟨b, ws, hF⟩ := hF
      have e := nprs_form hF (by omega)
      rw [e] at h
      unfold nmd at h e
      cases e2 : tbI b with
      | none => rw [e2] at h; cases h
      | some p =>
        rw [e2] at h e
        simp only at h e
        split at h
        · cases h
        · rename_i hm
          rw [if_neg hm] at e
          exact ⟨b, ws, p, hF, by omega, e2, Classical.not_not.1 hm, e⟩
    · rw [nprs_no (fun b ws hf => hF ⟨b, ws, hf⟩)] at h
      cases h
/-- P16.3, P16.4, as data -/
theorem nprs_back {t : ByteArray} (h : (nprs t).2 = 0) : toL t = toL hdN ++ (toL (nprs t).1.nm ++ toL tlN) ∧ chk (nprs t).1 = 0 ∧ t.size ≤ 255 := by
  obtain ⟨b, ws, p, hF, hz, hp, hm, e⟩ := nprs_ok h
  obtain ⟨h1, h2⟩ := mdf_chk hm
  rw [e]
  refine ⟨?_, h1, hz⟩
  show toL t = toL hdN ++ (toL (mdf p ws).1.nm ++ toL tlN)
  rw [h2, nmN_join p.nm ws ws.length (Nat.le_refl _), List.take_length, ← JW_join, (tbI_mem hp).2, hF.eq]
  simp
theorem nprs_two (t : ByteArray) : (nprs t).2 = 0 ∨ nprs t = (zPt, 13) := by
  by_cases h : (nprs t).2 = 0
  · exact .inl h
  · right
    by_cases hz : 255 < t.size
    · exact nprs_big hz
    · by_cases hF : ∃ b ws, FormB t b ws
      · obtain ⟨b, ws, hF⟩ := hF
        have e := nprs_form hF (by omega)
        rw [e] at h ⊢
        unfold nmd at h ⊢
        cases e2 : tbI b with
        | none => rfl
        | some p =>
          rw [e2] at h
          simp only at h ⊢
          split
          · rfl
          · rename_i hm
            rw [if_neg hm] at h
            exact absurd rfl h
      · exact nprs_no (fun b ws hf => hF ⟨b, ws, hf⟩)
/-- how many words there may be -/
theorem JW_many : ∀ ws : List (List UInt8), (∀ w ∈ ws, WdL w) → ws.length ≤ (JW ws).length
  | [], _ => Nat.le_refl _
  | [w], h => by obtain ⟨_, c, r, rfl, _⟩ := h w (by simp); simp [JW]
  | w :: v :: r, h => by
    have ih := JW_many (v :: r) (fun x hx => h x (by simp [hx]))
    show (v :: r).length + 1 ≤ (w ++ 43 :: JW (v :: r)).length
    rw [List.length_append, List.length_cons]
    simp only [List.length_cons] at ih ⊢
    omega
theorem JW_much : ∀ ws : List (List UInt8), (∀ w ∈ ws, WdL w) → 2 * ws.length ≤ (JW ws).length + 1
  | [], _ => by simp
  | [w], h => by obtain ⟨_, c, r, rfl, _⟩ := h w (by simp); simp [JW]
  | w :: v :: r, h => by
    have ih := JW_much (v :: r) (fun x hx => h x (by simp [hx]))
    obtain ⟨_, c, q, rfl, _⟩ := h w (by simp)
    show 2 * ((v :: r).length + 1) ≤ (c :: q ++ 43 :: JW (v :: r)).length + 1
    rw [List.length_append, List.length_cons, List.length_cons]
    simp only [List.length_cons] at ih ⊢
    omega
theorem JW_mem : ∀ (ws : List (List UInt8)) (w : List UInt8), w ∈ ws → w.length ≤ (JW ws).length
  | [], w, h => nomatch h
  | [v], w, h => by simp at h; subst h; exact Nat.le_refl _
  | v :: u :: r, w, h => by
    show w.length ≤ (v ++ 43 :: JW (u :: r)).length
    rw [List.length_append, List.length_cons]
    rcases List.mem_cons.1 h with h | h
    · subst h; omega
    · have := JW_mem (u :: r) w h
      omega
theorem form_len {t b : ByteArray} {ws : List ByteArray} (h : FormB t b ws) : 2 * ws.length ≤ t.size ∧ (∀ w ∈ ws, w.size ≤ t.size) ∧ b.size ≤ t.size := by
  have hl := toL_len t
  have e : t.size = 6 + (b.size + ((JW (ws.map toL)).length + 25)) := by
    rw [← hl, h.eq]
    simp only [List.length_append, toL_len]
    rfl
  have hm := JW_much _ h.wd
  rw [List.length_map] at hm
  refine ⟨by omega, fun w hw => ?_, by omega⟩
  have := JW_mem _ (toL w) (List.mem_map.2 ⟨w, hw, rfl⟩)
  rw [toL_len] at this
  omega
end Go.Pat
