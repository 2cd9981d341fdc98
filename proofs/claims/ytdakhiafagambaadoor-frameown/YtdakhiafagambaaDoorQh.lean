import Derived.BigQuiet
import Derived.Deep.QuietTactic
import Derived.Deep.RegionHeld3
import Derived.Test.YtdakhiafagambaaDoorPin
/- a drawn region that reads, calls and makes memory: its reads are taken first by the quiet walk's own step (go_hq i), what writes comes up alone (go_hr i); of no dump -/
namespace Go.Pin
open Go.RowKit
def plainB : Op → Bool
  | .move _ | .assign _ | .pick _ _ _ | .build _ _ | .load _ _ | .binOp _ _ _ _ _ | .unOp _ _ _ | .convert _ _ _ | .slice _ _ _ _ _ | .fieldAddr _ _ _ | .field _ _ _ | .indexAddr _ _ _ | .index _ _ _ | .extract _ _ => true
  | .call { callee := .builtin .len, .. } => true
  | _ => false
theorem ok_of_then {α : Type} {r : Result α} {g : α → Value} {w' : World} {n : Next} (h : r.andThen (fun a w' => Result.ok (Next.value (g a)) w') = .ok n w') : ∃ v, n = .value v := by
  cases r with
  | ok x w1 => simp [Result.andThen] at h; exact ⟨g x, h.1.symm⟩
  | halt x w1 => simp [Result.andThen] at h
theorem then_then {α β γ : Type} (r : Result α) (f : α → World → Result β) (g : β → World → Result γ) : (r.andThen f).andThen g = r.andThen (fun a w => (f a w).andThen g) := by
  cases r <;> rfl
theorem plain_ok {P : Program} {ρ : Operand → Value} {o : Oper} {w w' : World} {n : Next} (hp : plainB o.op = true) (h : (execOp ρ o).run P w = .ok n w') : ∃ v, n = .value v := by
  obtain ⟨dst, op, ty, pos, after, guard⟩ := o
  simp only at hp
  cases op
  all_goals first
    | (exfalso; simp [plainB] at hp; done)
    | (simp only [execOp, Sem.run_bind, Sem.run_pure] at h; exact ok_of_then (g := fun x => x) h)
    | (simp only [execOp, Sem.run_pure] at h; injection h with h1 h2; exact ⟨_, h1.symm⟩)
    | skip
  case pick =>
    simp only [execOp, Sem.run_bind, Sem.run_pure] at h
    exact ok_of_then (g := fun b => if b = true then ρ _ else ρ _) h
  case call c =>
    obtain ⟨callee, args, argTypes⟩ := c
    cases callee with
    | builtin b =>
      cases b
      all_goals first
        | (exfalso; simp [plainB] at hp; done)
        | skip
      simp only [execOp, resolve, invoke, builtin, Sem.run_bind, Sem.run_pure, Result.andThen_ok] at h
      exact ok_of_then (g := fun x => x) h
    | _ => exfalso; simp [plainB] at hp
section
variable {P : Program} {ops : Array Oper} {Q : Exit → Act → World → Prop} {S : World → Prop} {fuel : Nat} {listed : Array Bool} {a : Act} {w : World}
theorem wp_region_hcls (S : World → Prop) (n : Nat) {id : Nat} (hn : ops.size = n) (hm : P.follows .mixedOrders = true) (hC : S w.drew)
    (h : ∀ (X : Type) (f : X → World), Nonempty X → (∀ x, S (f x)) → Hid (∀ Y, S Y → ∃ x, Y = f x) → wpAnyH P .any ops Q S n (Array.replicate n false) a w.drew) : (Code.region id ops true).wp P Q a w :=
  wp_region_held_drew hm hC (fun _ => by rw [hn]; exact h {w // S w} Subtype.val ⟨⟨_, hC⟩⟩ (fun x => x.2) (fun Y hY => ⟨⟨Y, hY⟩, rfl⟩))
theorem takeQ {X : Type} {f : X → World} (i : Nat) {o : Oper} (hi : ops[i]? = some o) (hs : Region.noSelect ops = true) (hf : Region.free .any ops listed i = true) (hr : (Region.ready .any ops listed).contains i = true)
    (hp : plainB o.op = true) (hQ : ∀ c (a : Act) d v w, Q (.panic c) (a.put d v) w → Q (.panic c) a w) (hS : S w) (hC : ∀ Y, S Y → ∃ x, Y = f x) (hw : Region.wanted o (yielded ops a.tmps) = true)
    (h : ∀ K : Act → Prop, (∀ a', wpAnyH P .any ops Q S fuel (listed.setIfInBounds i true) a' w → K a') → o.quiet P a (fun w' => ∃ x, w' = f x) K) : wpAnyH P .any ops Q S (fuel + 1) listed a w := by
  obtain ⟨v, h1, h2⟩ := h _ (fun _ h => h)
  refine wpAnyH_take hi hs hf hr (fun _ _ _ h => hQ _ _ _ _ _ h) (.inl ⟨hw, fun w hw => ?_⟩) hS h2
  have := h1 w (hC w hw)
  unfold Oper.quietAt at this
  cases e : (execOp a.eval o).run P w with
  | ok n w' =>
    obtain ⟨u, rfl⟩ := plain_ok hp e
    rw [e] at this
    obtain ⟨rfl, rfl⟩ := this
    rfl
  | halt x w' => rw [e] at this; exact this.elim
theorem skipQ (i : Nat) {o : Oper} (hi : ops[i]? = some o) (hs : Region.noSelect ops = true) (hf : Region.free .any ops listed i = true) (hr : (Region.ready .any ops listed).contains i = true)
    (hQ : ∀ c (a : Act) d v w, Q (.panic c) (a.put d v) w → Q (.panic c) a w) (hS : S w) (hw : Region.wanted o (yielded ops a.tmps) = false)
    (h : wpAnyH P .any ops Q S fuel (listed.setIfInBounds i true) (a.put o.dst undef) w) : wpAnyH P .any ops Q S (fuel + 1) listed a w :=
  wpAnyH_take hi hs hf hr (fun _ _ _ h => hQ _ _ _ _ _ h) (.inr ⟨hw, rfl⟩) hS h
/-- one operation alone may come up -/
theorem readyQ (i : Nat) {o : Oper} (hi : ops[i]? = some o) (hr : Region.ready .any ops listed = [i]) (hw : Region.wanted o (yielded ops a.tmps) = true)
    (h : ∀ K : Act → World → Prop, (∀ a' w', S w' → wpAnyH P .any ops Q S fuel (listed.setIfInBounds i true) a' w' → K a' w') → Oper.wp P o a w K Q) : wpAnyH P .any ops Q S (fuel + 1) listed a w := by
  refine wpAnyH_all hr (by simp) (fun j hj => ?_)
  obtain rfl : j = i := by simpa using hj
  refine wpOp_step hi (fun K hK => ?_)
  rw [if_pos hw]
  exact h K (fun a' w' h1 h2 => hK a' w' ⟨h1, h2⟩)
theorem listed_as {l l' : Array Bool} (hl : l = l') (h : wpAnyH P .any ops Q S fuel l' a w) : wpAnyH P .any ops Q S fuel l a w := by rw [hl]; exact h
end
end Go.Pin
