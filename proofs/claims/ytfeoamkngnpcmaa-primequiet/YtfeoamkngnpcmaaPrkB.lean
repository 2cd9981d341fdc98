import Derived.Test.YtfeoamkngnpcmaaPrkA
namespace Go.Proofs.Ytfeoamkngnpcmaa
set_option linter.unusedSimpArgs false
open Go.ChangeShapes Go.WideShapes Go.ChangeAt Go.RowKit Go.Pin Go.Prm
/-- a Bench with its Recorder and its list; S: its blocks -/
structure St (B g : Nat) (S : Nat → Prop) (es : Nat → List Int) (ns : Nat → Nat) (rv : Value) (lr ll : List (Int × Int)) (vs : Value) (w : World) : Prop where
  bn : Bn g es ns rv vs w
  own : w.ownsRow B 64 2 vs ll.length (evC ll)
  hg : S g
  hv : ∀ k, vs.ownBlock = some k → S k ∧ k ≠ g
  rc : rv = .pointer none ∨ ∃ R vr, rv = .pointer (some ⟨R, 0, none⟩) ∧ Rec B w R vr lr ∧ ∀ k, Blk R vr k → S k ∧ k ≠ g ∧ vs.ownBlock ≠ some k
  hS : ∀ k, S k → B ≤ k ∧ k < w.heap.size
theorem owns_grow {w w' : World} {S : Nat → Prop} (hg : Grow S w w') {base : Nat} {e : TypeId} {size : Nat} {v : Value} {n : Nat} {xs : List Value} (ho : w.ownsRow base e size v n xs) (hn : ∀ k, v.ownBlock = some k → ¬ S k) : w'.ownsRow base e size v n xs := by
  refine ⟨ho.1, ?_⟩
  rcases ho.2 with h | ⟨q, cap, cur, rfl, hb, hq, hr⟩
  · exact .inl h
  · exact .inr ⟨q, cap, cur, rfl, hb, (hg.block q (heap_lt hq) (hn q rfl)).trans hq, hr⟩
section
variable {B g : Nat} {S : Nat → Prop} {es : Nat → List Int} {ns : Nat → Nat} {rv : Value} {lr ll : List (Int × Int)} {vs : Value} {w : World} (h : St B g S es ns rv lr ll vs w)
include h
theorem St.below {w' : World} (hb : Below w.heap.size w w') : St B g S es ns rv lr ll vs w' := by
  refine ⟨h.bn.of_block (hb.block g h.bn.lt), owns_grow (S := fun _ => False) (Grow.of_below hb) h.own (fun _ _ => id), h.hg, h.hv, ?_, fun k hk => ⟨(h.hS k hk).1, Nat.lt_of_lt_of_le (h.hS k hk).2 hb.size⟩⟩
  rcases h.rc with e | ⟨R, vr, e, h1, h2⟩
  · exact .inl e
  · exact .inr ⟨R, vr, e, h1.below hb, h2⟩
theorem St.drew : St B g S es ns rv lr ll vs w.drew := h.below (Below.refl _ _).drew
theorem St.put {w' : World} {es' : Nat → List Int} {ns' : Nat → Nat} (hb : But (fun k => k = g) w w') (hbn : Bn g es' ns' rv vs w') : St B g S es' ns' rv lr ll vs w' := by
  have hgr : Grow (fun k => k = g) w w' := ⟨hb.os, hb.tape, hb.output, by rw [hb.size]; exact Nat.le_refl _, fun k _ hk => hb.block k hk⟩
  refine ⟨hbn, owns_grow hgr h.own (fun k hk e => (h.hv k hk).2 e), h.hg, h.hv, ?_, fun k hk => ⟨(h.hS k hk).1, by rw [hb.size]; exact (h.hS k hk).2⟩⟩
  rcases h.rc with e | ⟨R, vr, e, h1, h2⟩
  · exact .inl e
  · exact .inr ⟨R, vr, e, h1.grow hgr (fun k hk e => (h2 k hk).2.1 e), h2⟩
theorem St.op (v : Int) (hl : lr.length ≤ 1000000) : ∃ Q, Opc rv v w Q ∧ ∀ w', Opd Q w w' → ∃ S', St B g S' es ns rv (lr ++ [(3, v)]) ll vs w' ∧ Grow S w w' ∧ ∀ k, S' k → S k ∨ w.heap.size ≤ k := by
  rcases h.rc with e | ⟨R, vr, e, h1, h2⟩
  · subst e
    refine ⟨_, opc_nil v w, fun w' ho => ⟨S, ?_, Grow.of_below ho.nil, fun k hk => .inl hk⟩⟩
    have hb := h.below ho.nil
    exact ⟨hb.bn, hb.own, hb.hg, hb.hv, .inl rfl, hb.hS⟩
  · subst e
    refine ⟨_, opc_rec v h1 hl, fun w' ho => ?_⟩
    obtain ⟨vr', k1, k2, k3⟩ := Opd.rec h1 ho
    have hgn : ¬ Blk R vr g := fun hk => (h2 g hk).2.1 rfl
    have hold : ∀ k, Blk R vr' k → Blk R vr k ∨ w.heap.size ≤ k := fun k hk => by
      rcases hk with hk | hk
      · exact .inl (.inl hk)
      · rcases k3 with k3 | ⟨q, k3, hq⟩
        · exact .inl (.inr (k3 ▸ hk))
        · rw [k3] at hk; injection hk with hk; exact .inr (by omega)
    refine ⟨fun k => S k ∨ Blk R vr' k, ⟨h.bn.of_block (k2.block g h.bn.lt hgn), owns_grow k2 h.own (fun k hk hb => (h2 k hb).2.2 hk), .inl h.hg, fun k hk => ⟨.inl (h.hv k hk).1, (h.hv k hk).2⟩, .inr ⟨R, vr', rfl, k1, fun k hk => ⟨.inr hk, ?_, ?_⟩⟩, fun k hk => ?_⟩, k2.mono (fun k hk => (h2 k hk).1), fun k hk => ?_⟩
    · rcases hold k hk with ho | ho
      · exact (h2 k ho).2.1
      · have := h.bn.lt; omega
    · rcases hold k hk with ho | ho
      · exact (h2 k ho).2.2
      · intro e; have := (h.hS k (h.hv k e).1).2; omega
    · rcases hk with hk | hk
      · exact ⟨(h.hS k hk).1, Nat.lt_of_lt_of_le (h.hS k hk).2 k2.size⟩
      · exact ⟨k1.ge k hk, k1.lt k hk⟩
    · rcases hk with hk | hk
      · exact .inl hk
      · rcases hold k hk with ho | ho
        · exact .inl (h2 k ho).1
        · exact .inr ho
end
end Go.Proofs.Ytfeoamkngnpcmaa
