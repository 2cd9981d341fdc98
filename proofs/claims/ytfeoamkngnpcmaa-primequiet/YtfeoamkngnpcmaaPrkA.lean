import Derived.Test.YtfeoamkngnpcmaaPrkZ
namespace Go.Proofs.Ytfeoamkngnpcmaa
set_option linter.unusedSimpArgs false
open Go.ChangeShapes Go.WideShapes Go.ChangeAt Go.RowKit Go.Pin Go.Prm
def upd {α : Type} (f : Nat → α) (c : Nat) (x : α) : Nat → α := fun i => if i = c then x else f i
theorem upd_same {α : Type} (f : Nat → α) (c : Nat) (x : α) : upd f c x c = x := if_pos rfl
theorem upd_ne {α : Type} (f : Nat → α) {c i : Nat} (x : α) (h : i ≠ c) : upd f c x i = f i := if_neg h
theorem heap_setCells_other (b : Nat) : ∀ (vs : List Value) (o : Nat) (w : World) (k : Nat), k ≠ b → (w.setCells b o vs).heap[k]? = w.heap[k]?
  | [], _, _, _, _ => rfl
  | v :: r, o, w, k, h => by rw [World.setCells, heap_setCells_other b r _ _ k h, heap_setCell_other _ _ _ _ h]
theorem size_setCells (b : Nat) : ∀ (vs : List Value) (o : Nat) (w : World), (w.setCells b o vs).heap.size = w.heap.size
  | [], _, _ => rfl
  | v :: r, o, w => by rw [World.setCells, size_setCells b r]; simp
theorem but_setCells (b : Nat) : ∀ (vs : List Value) (o : Nat) (w : World), But (fun k => k = b) w (w.setCells b o vs)
  | [], _, w => But.refl _ _
  | v :: r, o, w => by
    rw [World.setCells]
    exact But.trans ((But.refl (fun k => k = b) w).setCell (p := ⟨b, o, none⟩) rfl v) (but_setCells b r _ _)
theorem obj_setCells (b : Nat) {T : TypeId} : ∀ (vs : List Value) (o : Nat) (w : World) (n : Nat), (∃ cs : Array Value, cs.size = n ∧ w.heap[b]? = some (.cells cs T (0, 0))) → ∃ cs : Array Value, cs.size = n ∧ (w.setCells b o vs).heap[b]? = some (.cells cs T (0, 0))
  | [], _, _, _, h => h
  | v :: r, o, w, n, ⟨cs, h1, h2⟩ => by
    rw [World.setCells]
    exact obj_setCells b r _ _ n ⟨cs.setIfInBounds o v, by simpa using h1, heap_setCell_same w _ _ _ _ _ h2⟩
/-- eight Numbers, eight numbers of the document, a Recorder, a list -/
structure Bn (g : Nat) (es : Nat → List Int) (ns : Nat → Nat) (rv vs : Value) (w : World) : Prop where
  obj : ∃ cs : Array Value, cs.size = 178 ∧ w.heap[g]? = some (.cells cs 36 (0, 0))
  e : ∀ i, i < 8 → ∀ j, j < 5 → w.cell? ⟨g, i * 5 + j, none⟩ = some (.int .u64 ((es i).getD j 0))
  n : ∀ i, i < 8 → ∀ j, j < 17 → w.cell? ⟨g, 40 + i * 17 + j, none⟩ = some (.int .i64 ((bts (ns i)).getD j 0))
  r : w.cell? ⟨g, 176, none⟩ = some rv
  l : w.cell? ⟨g, 177, none⟩ = some vs
  lim : ∀ i, i < 8 → Lim (es i)
section
variable {g : Nat} {es : Nat → List Int} {ns : Nat → Nat} {rv vs : Value} {w : World} (h : Bn g es ns rv vs w)
include h
theorem Bn.lt : g < w.heap.size := by obtain ⟨_, _, h⟩ := h.obj; exact heap_lt h
theorem Bn.fz (j : Nat) : w.frozen? ⟨g, j, none⟩ = false := by obtain ⟨cs, _, hc⟩ := h.obj; exact frozen_of_row w _ _ _ _ hc
theorem Bn.of_block {w' : World} (hb : w'.heap[g]? = w.heap[g]?) : Bn g es ns rv vs w' :=
  ⟨by obtain ⟨cs, h1, h2⟩ := h.obj; exact ⟨cs, h1, hb.trans h2⟩, fun i hi j hj => (World.cell?_of_block (a := ⟨g, i * 5 + j, none⟩) hb).trans (h.e i hi j hj), fun i hi j hj => (World.cell?_of_block (a := ⟨g, 40 + i * 17 + j, none⟩) hb).trans (h.n i hi j hj), (World.cell?_of_block (a := ⟨g, 176, none⟩) hb).trans h.r, (World.cell?_of_block (a := ⟨g, 177, none⟩) hb).trans h.l, h.lim⟩
theorem Bn.rangeE {i : Nat} (hi : i < 8) : w.rangeAt g (i * 5) ((es i).map (Value.int .u64)) := by
  intro j v hv
  have hl := (h.lim i hi).len
  have hj : j < (es i).length := by simpa using (List.getElem?_eq_some_iff.1 hv).1
  rw [List.getElem?_map, List.getElem?_eq_getElem hj] at hv
  rw [h.e i hi j (by omega), ← hv, List.getD_eq_getElem?_getD, List.getElem?_eq_getElem hj]
  rfl
theorem Bn.rangeN {i : Nat} (hi : i < 8) : w.rangeAt g (40 + i * 17) ((bts (ns i)).map (Value.int .i64)) := by
  intro j v hv
  have hj : j < (bts (ns i)).length := by simpa using (List.getElem?_eq_some_iff.1 hv).1
  rw [List.getElem?_map, List.getElem?_eq_getElem hj] at hv
  rw [h.n i hi j (by simpa using hj), ← hv, List.getD_eq_getElem?_getD, List.getElem?_eq_getElem hj]
  rfl
theorem Bn.thereE {c : Nat} (hc : c < 8) : w.there g (c * 5) 5 := fun j hj => ⟨by rw [h.e c hc j hj]; rfl, h.fz _⟩
theorem Bn.thereN {c : Nat} (hc : c < 8) : w.there g (40 + c * 17) 17 := fun j hj => ⟨by rw [h.n c hc j hj]; rfl, h.fz _⟩
theorem Bn.setE {c : Nat} (hc : c < 8) {z : List Int} (hz : Lim z) : Bn g (upd es c z) ns rv vs (w.setCells g (c * 5) (z.map (Value.int .u64))) := by
  have hl : (z.map (Value.int .u64)).length = 5 := by rw [List.length_map]; exact hz.len
  refine ⟨obj_setCells g _ _ _ _ h.obj, fun i hi j hj => ?_, fun i hi j hj => ?_, ?_, ?_, fun i hi => ?_⟩
  · by_cases e : i = c
    · subst e
      have hjz : j < z.length := by rw [hz.len]; exact hj
      rw [World.cell?_setCells_in g _ _ w (fun k hk => (h.thereE hi k (by omega)).1) j (by omega), upd_same, List.getElem_map, List.getD_eq_getElem?_getD, List.getElem?_eq_getElem hjz]
      rfl
    · rw [World.cell?_setCells_out g _ _ w _ (fun _ _ => by simp only; omega), upd_ne _ _ e]
      exact h.e i hi j hj
  · rw [World.cell?_setCells_out g _ _ w _ (fun _ _ => by simp only; omega)]
    exact h.n i hi j hj
  · rw [World.cell?_setCells_out g _ _ w _ (fun _ _ => by simp only; omega)]; exact h.r
  · rw [World.cell?_setCells_out g _ _ w _ (fun _ _ => by simp only; omega)]; exact h.l
  · by_cases e : i = c
    · subst e; rw [upd_same]; exact hz
    · rw [upd_ne _ _ e]; exact h.lim i hi
theorem Bn.setN {c : Nat} (hc : c < 8) (m : Nat) : Bn g es (upd ns c m) rv vs (w.setCells g (40 + c * 17) ((bts m).map (Value.int .i64))) := by
  have hl : ((bts m).map (Value.int .i64)).length = 17 := by simp
  refine ⟨obj_setCells g _ _ _ _ h.obj, fun i hi j hj => ?_, fun i hi j hj => ?_, ?_, ?_, h.lim⟩
  · rw [World.cell?_setCells_out g _ _ w _ (fun _ _ => by simp only; omega)]
    exact h.e i hi j hj
  · by_cases e : i = c
    · subst e
      have hjz : j < (bts m).length := by simpa using hj
      rw [World.cell?_setCells_in g _ _ w (fun k hk => (h.thereN hi k (by omega)).1) j (by omega), upd_same, List.getElem_map, List.getD_eq_getElem?_getD, List.getElem?_eq_getElem hjz]
      rfl
    · rw [World.cell?_setCells_out g _ _ w _ (fun _ _ => by simp only; omega), upd_ne _ _ e]
      exact h.n i hi j hj
  · rw [World.cell?_setCells_out g _ _ w _ (fun _ _ => by simp only; omega)]; exact h.r
  · rw [World.cell?_setCells_out g _ _ w _ (fun _ _ => by simp only; omega)]; exact h.l
end
end Go.Proofs.Ytfeoamkngnpcmaa
