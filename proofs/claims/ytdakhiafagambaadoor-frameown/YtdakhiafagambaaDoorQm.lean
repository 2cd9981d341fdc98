import Derived.Test.YtdakhiafagambaaDoorQh
/- a drawn region whose last operation writes what the region reads: S holds behind every operation but number m, which waits for what is read; of no dump -/
namespace Go.Pin
open Go.RowKit
section
variable {P : Program} {ops : Array Oper} {Q : Exit → Act → World → Prop} {S : World → Prop} {m : Nat}
def wpL (P : Program) (ops : Array Oper) (Q : Exit → Act → World → Prop) (S : World → Prop) (m : Nat) : Nat → Array Bool → Act → World → Prop
  | 0, l, a, w => Region.ready .any ops l = [] ∧ Q .normal a w
  | n + 1, l, a, w => (Region.ready .any ops l = [] → Q .normal a w) ∧ ∀ j ∈ Region.ready .any ops l, wpOp P ops Q j (fun a' w' => (j = m ∨ S w') ∧ wpL P ops Q S m n (l.setIfInBounds j true) a' w') a w
theorem wpL_any (n : Nat) : ∀ (l : Array Bool) (a : Act) (w : World), wpL P ops Q S m n l a w → wpAny P .any ops Q n l a w := by
  induction n with
  | zero => exact fun _ _ _ h => h
  | succ n ih => exact fun l a w h => ⟨h.1, fun j hj => wpOp_mono (fun a' w' k => ih _ _ _ k.2) (h.2 j hj)⟩
theorem wpL_first {i : Nat} {oi om : Oper} {v : Value} (hi : ops[i]? = some oi) (hsel : ∀ (j : Nat) (o : Oper) cs b, ops[j]? = some o → o.op ≠ .select cs b) (hQ : ∀ c a w, Q (.panic c) (a.put oi.dst v) w → Q (.panic c) a w)
    (hm : ops[m]? = some om) (hwait : ∃ e ∈ om.after, Region.binds .any e = true ∧ e.on = i) (n : Nat) : ∀ (l : Array Bool) (a : Act) (w : World),
      (∀ j oj, ops[j]? = some oj → j ≠ i → l.getD j true = false → (∀ e ∈ oj.after, Region.binds .any e = true → e.on ≠ i) → oi.apart ops oj = true) →
      i ∈ Region.ready .any ops l → YieldsIf P ops S oi v a → S w → wpL P ops Q S m n (l.setIfInBounds i true) (a.put oi.dst v) w → wpL P ops Q S m (n + 1) l a w := by
  induction n with
  | zero =>
    intro l a w _ hr hy hS H
    refine ⟨fun h => (by rw [h] at hr; cases hr), fun j hj => ?_⟩
    by_cases e : j = i
    · rw [e]; exact hy.wpOp hi hS ⟨.inr hS, H⟩
    · have := ready_mono hj e
      rw [H.1] at this
      cases this
  | succ n ih =>
    intro l a w hfree hr hy hS H
    refine ⟨fun h => (by rw [h] at hr; cases hr), fun j hj => ?_⟩
    by_cases e : j = i
    · rw [e]; exact hy.wpOp hi hS ⟨.inr hS, H⟩
    · obtain ⟨hun, oj, hoj, hall⟩ := mem_ready.1 hj
      have hno : ∀ x ∈ oj.after, Region.binds .any x = true → x.on ≠ i := fun x hx hb he => by
        have h1 := hall x hx hb
        have h0 := (mem_ready.1 hr).1
        rw [he] at h1
        by_cases hl : i < l.size
        · simp [hl] at h0 h1
          rw [h0] at h1
          cases h1
        · simp [Array.getElem?_eq_none (Nat.le_of_not_lt hl)] at h1
      have hjm : j ≠ m := fun hjm => by
        rw [hjm, hm] at hoj
        injection hoj with hoj
        obtain ⟨x, hx, hb, he⟩ := hwait
        exact hno x (hoj ▸ hx) hb he
      have h2 := wpOp_putIf hoj (hfree j oj hoj e hun hno) (fun cs b => hsel i oi cs b hi) (fun cs b => hsel j oj cs b hoj) hQ hy (H.2 j (ready_mono hj e))
      refine wpOp_mono (fun a' w' k => ?_) h2
      have hS' : S w' := k.2.1.resolve_left hjm
      refine ⟨.inr hS', ih (l.setIfInBounds j true) a' w' (fun t ot ht hti hut hnt => hfree t ot ht hti ?_ hnt) (ready_mono hr (Ne.symm e)) k.1 hS' ?_⟩
      · by_cases hjt : j = t
        · rw [← hjt]; exact hun
        · rw [getD_set_ne true hjt] at hut; exact hut
      · rw [Array.setIfInBounds_comm _ _ e]
        exact k.2.2
theorem wp_region_L (S : World → Prop) (m n : Nat) {id : Nat} {a : Act} {w : World} (hn : ops.size = n) (hm : P.follows .mixedOrders = true) (hC : S w.drew)
    (h : ∀ (X : Type) (f : X → World), Nonempty X → (∀ x, S (f x)) → Hid (∀ Y, S Y → ∃ x, Y = f x) → wpL P ops Q S m n (Array.replicate n false) a w.drew) : (Code.region id ops true).wp P Q a w := by
  have := h {w // S w} Subtype.val ⟨⟨_, hC⟩⟩ (fun x => x.2) (fun Y hY => ⟨⟨Y, hY⟩, rfl⟩)
  subst hn
  exact wp_region_any hm (wpL_any _ _ _ _ this)
variable {fuel : Nat} {listed : Array Bool} {a : Act} {w : World}
theorem takeL {X : Type} {f : X → World} (i : Nat) {o om : Oper} (hi : ops[i]? = some o) (hm : ops[m]? = some om) (hwt : (om.after.any fun e => Region.binds .any e && e.on == i) = true) (hs : Region.noSelect ops = true) (hf : Region.free .any ops listed i = true) (hr : (Region.ready .any ops listed).contains i = true)
    (hp : plainB o.op = true) (hQ : ∀ c (a : Act) d v w, Q (.panic c) (a.put d v) w → Q (.panic c) a w) (hS : S w) (hC : ∀ Y, S Y → ∃ x, Y = f x) (hw : Region.wanted o (yielded ops a.tmps) = true)
    (h : ∀ K : Act → Prop, (∀ a', wpL P ops Q S m fuel (listed.setIfInBounds i true) a' w → K a') → o.quiet P a (fun w' => ∃ x, w' = f x) K) : wpL P ops Q S m (fuel + 1) listed a w := by
  obtain ⟨v, h1, h2⟩ := h _ (fun _ h => h)
  have hwait : ∃ e ∈ om.after, Region.binds .any e = true ∧ e.on = i := by
    obtain ⟨k, hk, e⟩ := Array.any_eq_true.1 hwt
    rw [Bool.and_eq_true] at e
    exact ⟨_, Array.getElem_mem hk, e.1, by simpa using e.2⟩
  refine wpL_first hi (Region.noSelect_spec hs) (fun _ _ _ h => hQ _ _ _ _ _ h) hm hwait fuel listed a w (Region.free_spec hi hf) (by simpa using hr) (.inl ⟨hw, fun w hw => ?_⟩) hS h2
  have := h1 w (hC w hw)
  unfold Oper.quietAt at this
  cases e : (execOp a.eval o).run P w with
  | ok n w' =>
    obtain ⟨u, rfl⟩ := plain_ok hp e
    rw [e] at this
    obtain ⟨rfl, rfl⟩ := this
    rfl
  | halt x w' => rw [e] at this; exact this.elim
theorem skipL (i : Nat) {o om : Oper} (hi : ops[i]? = some o) (hm : ops[m]? = some om) (hwt : (om.after.any fun e => Region.binds .any e && e.on == i) = true) (hs : Region.noSelect ops = true) (hf : Region.free .any ops listed i = true) (hr : (Region.ready .any ops listed).contains i = true)
    (hQ : ∀ c (a : Act) d v w, Q (.panic c) (a.put d v) w → Q (.panic c) a w) (hS : S w) (hw : Region.wanted o (yielded ops a.tmps) = false)
    (h : wpL P ops Q S m fuel (listed.setIfInBounds i true) (a.put o.dst undef) w) : wpL P ops Q S m (fuel + 1) listed a w := by
  have hwait : ∃ e ∈ om.after, Region.binds .any e = true ∧ e.on = i := by
    obtain ⟨k, hk, e⟩ := Array.any_eq_true.1 hwt
    rw [Bool.and_eq_true] at e
    exact ⟨_, Array.getElem_mem hk, e.1, by simpa using e.2⟩
  exact wpL_first hi (Region.noSelect_spec hs) (fun _ _ _ h => hQ _ _ _ _ _ h) hm hwait fuel listed a w (Region.free_spec hi hf) (by simpa using hr) (.inr ⟨hw, rfl⟩) hS h
theorem readyL (i : Nat) {o : Oper} (hi : ops[i]? = some o) (hr : Region.ready .any ops listed = [i]) (hw : Region.wanted o (yielded ops a.tmps) = true)
    (h : ∀ K : Act → World → Prop, (∀ a' w', i = m ∨ S w' → wpL P ops Q S m fuel (listed.setIfInBounds i true) a' w' → K a' w') → Oper.wp P o a w K Q) : wpL P ops Q S m (fuel + 1) listed a w := by
  refine ⟨fun h0 => (by rw [hr] at h0; cases h0), fun j hj => ?_⟩
  rw [hr] at hj
  obtain rfl : j = i := by simpa using hj
  refine wpOp_step hi (fun K hK => ?_)
  rw [if_pos hw]
  exact h K (fun a' w' h1 h2 => hK a' w' ⟨h1, h2⟩)
theorem wpL_done (hr : Region.ready .any ops listed = []) (h : Q .normal a w) : wpL P ops Q S m fuel listed a w := by
  cases fuel with
  | zero => exact ⟨hr, h⟩
  | succ n => exact ⟨fun _ => h, by rw [hr]; simp⟩
end
end Go.Pin
