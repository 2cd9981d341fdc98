import Derived.Test.YtfkbgodfcnmepabDoorDwA
namespace Go.Proofs.YtfkbgodfcnmepabDoor
set_option linter.unusedSimpArgs false
set_option linter.unusedVariables false
open Go.ChangeShapes Go.WideShapes Go.ChangeAt Go.RowKit Go.Pin Go.Str Go.Dig
def oth : List Int := [111, 116, 104, 101, 114]
theorem oth_b : Byt oth := fun x hx => by simp [oth] at hx; rcases hx with rfl | rfl | rfl | rfl | rfl <;> decide
/-- both Hashes beside boxes of which no two are one -/
def OW (q : Nat) (W : World) (gh gg s : Nat) (key D E : List Int) (bs : List (Nat × Obj)) (w' : World) : Prop :=
  ∃ b1 b2, HSb (fil key ++ D) b1 ∧ HSb E b2 ∧ EN q W (.pointer none) [] ((gh, hst (.pointer none) s (h0 s key.length) (fil key ++ D) b1) :: (gg, hst (.pointer none) 32 (h0 32 0) E b2) :: bs) w'
def OwOk (s : Nat) (key D E : List Int) : Prop := (1 ≤ s ∧ s ≤ 32) ∧ key.length ≤ 32 ∧ Byt key ∧ Byt D ∧ D.length ≤ 131072 ∧ E.length ≤ 10
abbrev bxB (p : Nat × List Int) : Nat × Obj := (p.1, .cells (VI .u8 p.2) 5)
theorem en_snoc {q : Nat} {W : World} {bs : List (Nat × Obj)} {w' : World} {g : Nat} {x : Obj} {l : List (Int × Int)} (hne : ∀ p ∈ bs, p.1 ≠ g) (hnd : (bs.map Prod.fst).Nodup) (h : Ev q W (.pointer none) l ((g, x) :: bs) w') : EN q W (.pointer none) [] (bs ++ [(g, x)]) w' := by
  refine ⟨(h.sub (fun p hp => ?_)).nilOf [], ?_⟩
  · rcases List.mem_append.1 hp with hp | hp
    · exact memr1 hp
    · rw [List.mem_singleton.1 hp]; exact mem0
  · rw [List.map_append]
    refine List.nodup_append.2 ⟨hnd, by simp, fun a ha b hb e => ?_⟩
    obtain ⟨r, hr, rfl⟩ := List.mem_map.1 ha
    simp only [List.map_cons, List.map_nil, List.mem_singleton] at hb
    exact hne r hr (e.trans hb)
section
variable {q : Nat} {W : World} {gh gg s : Nat} {key D E : List Int} {bs : List (Nat × Obj)} {w' w2 : World}
theorem OW.hid (h : OW q W gh gg s key D E bs w') : Hid (OW q W gh gg s key D E bs w') := h
theorem OW.old (h : OW q W gh gg s key D E bs w') : Below q W w' := by obtain ⟨_, _, _, _, h⟩ := h; exact h.1.old
theorem OW.le (h : OW q W gh gg s key D E bs w') : q ≤ w'.heap.size := by obtain ⟨_, _, _, _, h⟩ := h; exact h.1.le
theorem OW.row (h : OW q W gh gg s key D E bs w') {g : Nat} {x : Obj} (hm : (g, x) ∈ bs) : w'.heap[g]? = some x := by obtain ⟨_, _, _, _, h⟩ := h; exact h.1.row (memr2 hm)
theorem OW.below (h : OW q W gh gg s key D E bs w') (hb : Below w'.heap.size w' w2) : OW q W gh gg s key D E bs w2 := by
  obtain ⟨b1, b2, h1, h2, h3⟩ := h
  exact ⟨b1, b2, h1, h2, h3.below hb⟩
/-- a box is written -/
theorem OW.set {A C : List (Nat × Obj)} {g : Nat} {x y : Obj} (h : OW q W gh gg s key D E (A ++ (g, x) :: C) w') (hb : Grow (fun k => k = g) w' w2) (hy : w2.heap[g]? = some y) : OW q W gh gg s key D E (A ++ (g, y) :: C) w2 := by
  obtain ⟨b1, b2, h1, h2, h3⟩ := h
  refine ⟨b1, b2, h1, h2, ?_⟩
  rw [← List.cons_append, ← List.cons_append] at h3 ⊢
  exact h3.back (h3.at.1.set rfl h3.at.2 hb hy)
/-- a box more -/
theorem OW.add (h : OW q W gh gg s key D E bs w') {g : Nat} {x : Obj} (hb : Below w'.heap.size w' w2) (hg : w'.heap.size ≤ g) (hx : w2.heap[g]? = some x) : OW q W gh gg s key D E (bs ++ [(g, x)]) w2 := by
  obtain ⟨b1, b2, h1, h2, h3⟩ := h
  refine ⟨b1, b2, h1, h2, ?_⟩
  rw [← List.cons_append, ← List.cons_append]
  exact en_snoc (l := []) (fun p hp => by have := heap_lt (h3.1.at' p hp); omega) h3.2 (h3.1.fresh hb hg hx)
theorem OW.sumH (h : OW q W gh gg s key D E bs w') (ho : OwOk s key D E) (hB : Beg W) (h2 : 2 ≤ q) :
    Calls Tryd.prog 9 #[.pointer (some ⟨gh, 0, none⟩)] w' fun e w2 => ∃ g, e = .returned (.slice (some ⟨g, 0, none⟩) s s) ∧ OW q W gh gg s key D E (bs ++ [bxB (g, dig s key D)]) w2 := by
  obtain ⟨b1, b2, h1, h2', h3⟩ := h
  have hf := fil_len key ho.2.1
  have hl : (fil key ++ D).length ≤ 200000 := by rw [List.length_append, hf]; have := ho.2.2.2.2.1; split <;> omega
  have h4 := EN.at (A := []) h3
  refine (dsum_any h1 h4.1 (h0_s8 ho.1.2 ho.2.1) ho.1.2 (fun hr => absurd rfl hr) h4.2 (by omega) hB h2).mono ?_
  rintro e w2 ⟨g2, rfl, k1, k2⟩
  refine ⟨g2, rfl, b1, b2, h1, h2', ?_⟩
  rw [← List.cons_append, ← List.cons_append]
  exact en_snoc k1 h3.2 k2
theorem OW.sumG (h : OW q W gh gg s key D E bs w') (ho : OwOk s key D E) (hB : Beg W) (h2 : 2 ≤ q) :
    Calls Tryd.prog 9 #[.pointer (some ⟨gg, 0, none⟩)] w' fun e w2 => ∃ g, e = .returned (.slice (some ⟨g, 0, none⟩) 32 32) ∧ OW q W gh gg s key D E (bs ++ [bxB (g, dig 32 [] E)]) w2 := by
  obtain ⟨b1, b2, h1, h2', h3⟩ := h
  have h4 := EN.at (A := [(gh, hst (.pointer none) s (h0 s key.length) (fil key ++ D) b1)]) h3
  refine (dsum_any h2' h4.1 (h0_s8 (by decide) (by decide)) (by decide) (fun hr => absurd rfl hr) h4.2 (by have := ho.2.2.2.2.2; omega) hB h2).mono ?_
  rintro e w2 ⟨g2, rfl, k1, k2⟩
  refine ⟨g2, rfl, b1, b2, h1, h2', ?_⟩
  rw [← List.cons_append, ← List.cons_append]
  refine en_snoc (l := _) (fun p hp => k1 p ?_) h3.2 (k2.sub (fun p hp => ?_))
  · simp only [List.mem_cons, List.singleton_append] at hp ⊢
    rcases hp with hp | hp | hp
    · exact .inr (.inl hp)
    · exact .inl hp
    · exact .inr (.inr hp)
  · simp only [List.mem_cons, List.singleton_append] at hp ⊢
    rcases hp with hp | hp | hp | hp
    · exact .inl hp
    · exact .inr (.inr (.inl hp))
    · exact .inr (.inl hp)
    · exact .inr (.inr (.inr hp))
end
/-- the array of the rows -/
def sl (p : Nat × List Int) : Value := .slice (some ⟨p.1, 0, none⟩) p.2.length p.2.length
def arr8 (K : List (Nat × List Int)) : Obj := .cells (K.map sl ++ List.replicate (8 - K.length) (Value.slice none 0 0)).toArray 31
theorem arr8_set (K : List (Nat × List Int)) (p : Nat × List Int) (hK : K.length < 8) : Obj.cells ((K.map sl ++ List.replicate (8 - K.length) (Value.slice none 0 0)).toArray.setIfInBounds K.length (sl p)) 31 = arr8 (K ++ [p]) := by
  unfold arr8
  congr 1
  apply Array.ext'
  have e : 8 - K.length = (8 - (K.length + 1)) + 1 := by omega
  simp only [List.setIfInBounds_toArray, List.map_append, List.length_append, List.length_cons, List.length_nil]
  rw [List.set_append_right _ _ (by simp), List.length_map, Nat.sub_self, e, List.replicate_succ, List.set_cons_zero]
  simp
/-- a row's slice goes into the array -/
theorem OW.store {q : Nat} {W : World} {gh gg s p11 : Nat} {key D E : List Int} {K : List (Nat × List Int)} {ex : List (Nat × Obj)} {w' : World} {p : Nat × List Int} (hK : K.length < 8) (h : OW q W gh gg s key D E ((p11, arr8 K) :: ex) w') : (∃ v, w'.cell? ⟨p11, K.length, none⟩ = some v) ∧ w'.frozen? ⟨p11, K.length, none⟩ = false ∧ OW q W gh gg s key D E ((p11, arr8 (K ++ [p])) :: ex) (w'.setCell ⟨p11, K.length, none⟩ (sl p)) := by
  have hr := h.row mem0
  unfold arr8 at hr
  refine ⟨⟨.slice none 0 0, ?_⟩, frozen_of_row w' _ _ _ _ hr, ?_⟩
  · rw [cell_of_row w' _ _ _ _ _ hr]
    simp [List.getElem?_append_right, List.getElem?_replicate]
    omega
  · refine OW.set (A := []) h ((Grow.refl (fun k => k = p11) w').setCell (p := ⟨p11, K.length, none⟩) (.inl rfl) _) ?_
    rw [heap_setCell_same w' _ _ _ _ _ hr, arr8_set K p hK]
end Go.Proofs.YtfkbgodfcnmepabDoor
