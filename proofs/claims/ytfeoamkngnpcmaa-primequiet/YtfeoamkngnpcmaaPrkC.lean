import Derived.Test.YtfeoamkngnpcmaaPrkB
namespace Go.Proofs.Ytfeoamkngnpcmaa
set_option linter.unusedSimpArgs false
open Go.ChangeShapes Go.WideShapes Go.ChangeAt Go.RowKit Go.Pin Go.Prm
set_option maxRecDepth 100000 in
theorem rop_any (v : Int) (w : World) : Calls Try.prog 24 #[.int .i64 v] w fun e w' => e = .returned (.agg #[.int .i64 3, .int .i64 v]) ∧ Below w.heap.size w w' := by
  go_enter Try.func24, Try.ntmps24
  go_wp2
  refine bodyPost_ret (v := .agg #[.int .i64 3, .int .i64 v]) ?_ rfl ⟨rfl, (Below.refl _ _).alloc (Nat.le_refl _) _⟩
  simp [results, Try.results24, go_sem]
theorem wp_app_ev {o : Oper} {a : Act} {w : World} {K : Act → World → Prop} {Q : Exit → Act → World → Prop} (s x : Operand) (ho : o.op = .call { callee := .builtin .append, args := #[s, x], argTypes := #[34, 34] })
    (B : Nat) (v : Value) (l : List (Int × Int)) (hs : a.eval s = v) (hown : w.ownsRow B 64 2 v l.length (evC l)) (b : Nat) (y : Int) (hx : a.eval x = .slice (some ⟨b, 0, none⟩) 1 1)
    (hc0 : w.cell? ⟨b, 0, none⟩ = some (.int .i64 3)) (hc1 : w.cell? ⟨b, 1, none⟩ = some (.int .i64 y)) (hl : l.length ≤ 1000000) (hB : B ≤ w.heap.size)
    (h : ∀ v' w', w'.ownsRow B 64 2 v' (l ++ [(3, y)]).length (evC (l ++ [(3, y)])) → w.grownBy w' v.ownBlock → (v'.ownBlock = v.ownBlock ∨ v'.ownBlock = some w.heap.size) → K (a.put o.dst v') w') : o.wp Try.prog a w K Q := by
  obtain ⟨i0, hi, hz0, hz1, hz2⟩ := info_parts info37
  obtain ⟨v', w', hr, h2, h3, _, h5⟩ := run_append_own_at (P := Try.prog) w B 34 o.type 64 i0 (.agg #[.int .i64 0, .int .i64 0]) 2 16 Try.underlying34 hi hz0 hz1 hz2 rfl (by decide) v l.length (evC l) hown ⟨b, 0, none⟩ 1 1 [.int .i64 3, .int .i64 y] rfl (by
    intro j u hj
    match j, hj with
    | 0, hj => simp at hj; subst hj; simpa [Addr.add] using hc0
    | 1, hj => simp at hj; subst hj; simpa [Addr.add] using hc1) (by
    intro u hu
    simp at hu
    rcases hu with rfl | rfl <;> rfl) (by unfold maxLen; omega) (by omega) hB
  unfold Oper.wp execOp
  simp only [ho, resolve, invoke, builtin, Sem.run_bind, Sem.run_pure, Result.andThen_ok, List.map_toArray, List.map_cons, List.map_nil, hs, hx, hr]
  refine h v' w' ?_ h3 h5
  have e : evC (l ++ [(3, y)]) = evC l ++ [.int .i64 3, .int .i64 y] := by rw [evC_app]; rfl
  rw [e, List.length_append]
  exact h2
theorem Bn.setL {g : Nat} {es : Nat → List Int} {ns : Nat → Nat} {rv vs : Value} {w : World} (h : Bn g es ns rv vs w) (v : Value) : Bn g es ns rv v (w.setCell ⟨g, 177, none⟩ v) := by
  obtain ⟨cs, h1, h2⟩ := h.obj
  refine ⟨⟨cs.setIfInBounds 177 v, by simpa using h1, heap_setCell_same w _ _ _ _ _ h2⟩, fun i hi j hj => ?_, fun i hi j hj => ?_, ?_, World.cell?_setCell_same _ _ _ h.l, h.lim⟩
  · rw [World.cell?_setCell_other _ _ _ _ (by simp <;> omega)]; exact h.e i hi j hj
  · rw [World.cell?_setCell_other _ _ _ _ (by simp <;> omega)]; exact h.n i hi j hj
  · rw [World.cell?_setCell_other _ _ _ _ (by simp)]; exact h.r
theorem grown_grow {w w' : World} {row : Option Nat} (h : w.grownBy w' row) : Grow (fun k => row = some k) w w' := ⟨h.os, h.tape, h.output, h.size, fun k hk hn => h.block k hk (fun e => hn e.symm)⟩
/-- behind the append and the store of the list -/
theorem St.app {B g : Nat} {S : Nat → Prop} {es : Nat → List Int} {ns : Nat → Nat} {rv : Value} {lr ll : List (Int × Int)} {vs : Value} {w w' : World} (h : St B g S es ns rv lr ll vs w) {v' : Value} {l' : List (Int × Int)}
    (ho : w'.ownsRow B 64 2 v' l'.length (evC l')) (hg : w.grownBy w' vs.ownBlock) (ha : v'.ownBlock = vs.ownBlock ∨ v'.ownBlock = some w.heap.size) :
    w'.cell? ⟨g, 177, none⟩ = some vs ∧ w'.frozen? ⟨g, 177, none⟩ = false ∧ ∃ S', St B g S' es ns rv lr l' v' (w'.setCell ⟨g, 177, none⟩ v') ∧ Grow S w (w'.setCell ⟨g, 177, none⟩ v') ∧ ∀ k, S' k → S k ∨ w.heap.size ≤ k := by
  have hgr := grown_grow hg
  have hng : ¬ vs.ownBlock = some g := fun e => (h.hv g e).2 rfl
  have hblk := hgr.block g h.bn.lt hng
  have hbn := h.bn.of_block hblk
  have hold : ∀ k, v'.ownBlock = some k → vs.ownBlock = some k ∨ w.heap.size ≤ k := fun k hk => by
    rcases ha with ha | ha
    · exact .inl (ha ▸ hk)
    · rw [ha] at hk; injection hk with hk; exact .inr (by omega)
  have hvg : ∀ k, v'.ownBlock = some k → k ≠ g := fun k hk e => by
    rcases hold k hk with ho | ho
    · exact (h.hv k ho).2 e
    · have := h.bn.lt; omega
  have hset : Grow (fun k => k = g) w' (w'.setCell ⟨g, 177, none⟩ v') := (Grow.refl (fun k => k = g) w').setCell (p := ⟨g, 177, none⟩) (.inl rfl) _
  refine ⟨hbn.l, hbn.fz _, fun k => S k ∨ v'.ownBlock = some k, ⟨hbn.setL v', owns_grow hset ho hvg, .inl h.hg, fun k hk => ⟨.inr hk, hvg k hk⟩, ?_, fun k hk => ?_⟩, ?_, fun k hk => ?_⟩
  · rcases h.rc with e | ⟨R, vr, e, h1, h2⟩
    · exact .inl e
    · refine .inr ⟨R, vr, e, (h1.grow hgr (fun k hk e => (h2 k hk).2.2 e)).grow hset (fun k hk e => (h2 k hk).2.1 e), fun k hk => ⟨.inl (h2 k hk).1, (h2 k hk).2.1, fun e => ?_⟩⟩
      rcases hold k e with ho | ho
      · exact (h2 k hk).2.2 ho
      · have := h1.lt k hk; omega
  · rw [show (w'.setCell ⟨g, 177, none⟩ v').heap.size = w'.heap.size by simp]
    rcases hk with hk | hk
    · exact ⟨(h.hS k hk).1, Nat.lt_of_lt_of_le (h.hS k hk).2 hg.size⟩
    · exact ho.lt k hk
  · have h1 : Grow S w w' := hgr.mono (fun k hk => (h.hv k hk).1)
    exact h1.setCell (.inl h.hg) _
  · rcases hk with hk | hk
    · exact .inl hk
    · rcases hold k hk with ho | ho
      · exact .inl (h.hv k ho).1
      · exact .inr ho
end Go.Proofs.Ytfeoamkngnpcmaa
