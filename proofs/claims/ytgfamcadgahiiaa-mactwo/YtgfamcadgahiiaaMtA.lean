import Derived.Test.YtgfamcadgahiiaaMnB
import Derived.Test.YtgfamcadgahiiaaPrmH
namespace Go.Proofs.Ytgfamcadgahiiaa
set_option linter.unusedSimpArgs false
set_option linter.unusedVariables false
open Go.ChangeShapes Go.WideShapes Go.ChangeAt Go.RowKit Go.Pin Go.Prm
/-- one of the two: its Mac at g, its key's box at k, the key, what it has taken, its list -/
structure One where
  g : Nat
  k : Nat
  key : List Int
  M : List Int
  A : List Int
  v : Value
def One.fx (o : One) : List (Nat × Obj) := [(o.g, mst (.pointer none) o.key o.M), (o.k, .cells (VI .u8 o.key) 23)]
/-- both -/
def TS (q : Nat) (W : World) (x y : One) (w' : World) : Prop :=
  ∃ lx ly, Lst 5 1 x.v x.A.length (x.A.map (Value.int .u8)) lx ∧ Lst 5 1 y.v y.A.length (y.A.map (Value.int .u8)) ly ∧ Ev q W (.pointer none) [] (lx ++ (ly ++ (x.fx ++ y.fx))) w' ∧ (∀ p ∈ lx, ∀ r ∈ ly ++ (x.fx ++ y.fx), r.1 ≠ p.1) ∧ (∀ p ∈ ly, ∀ r ∈ x.fx ++ y.fx, r.1 ≠ p.1) ∧ (x.k ≠ x.g ∧ y.g ≠ x.g ∧ y.k ≠ x.g ∧ x.k ≠ y.g ∧ y.k ≠ y.g)
section
variable {q : Nat} {W : World} {x y : One} {w' : World}
theorem perm3 {α : Type} {a b c d : List α} {p : α} (h : p ∈ b ++ (a ++ (d ++ c))) : p ∈ a ++ (b ++ (c ++ d)) := by
  simp only [List.mem_append] at h ⊢
  rcases h with h | h | h | h
  · exact .inr (.inl h)
  · exact .inl h
  · exact .inr (.inr (.inr h))
  · exact .inr (.inr (.inl h))
theorem TS.swap (h : TS q W x y w') : TS q W y x w' := by
  obtain ⟨lx, ly, h1, h2, h3, h4, h5, h6⟩ := h
  refine ⟨ly, lx, h2, h1, h3.sub (fun p hp => perm3 hp), fun p hp r hr => ?_, fun p hp r hr => ?_, ⟨h6.2.2.2.2, fun e => h6.2.1 e.symm, h6.2.2.2.1, h6.2.2.1, h6.1⟩⟩
  · simp only [List.mem_append] at hr
    rcases hr with hr | hr | hr
    · exact fun e => h4 r hr p (List.mem_append_left _ hp) e.symm
    · exact h5 p hp r (List.mem_append_right _ hr)
    · exact h5 p hp r (List.mem_append_left _ hr)
  · simp only [List.mem_append] at hr
    rcases hr with hr | hr
    · exact h4 p hp r (List.mem_append_right _ (List.mem_append_right _ hr))
    · exact h4 p hp r (List.mem_append_right _ (List.mem_append_left _ hr))
theorem TS.old (h : TS q W x y w') : Below q W w' := by
  obtain ⟨lx, ly, _, _, h, _⟩ := h
  exact h.old
theorem TS.slice (h : TS q W x y w') : ∃ a c, x.v = .slice a x.A.length c := by
  obtain ⟨lx, ly, h, _⟩ := h
  exact h.slice
theorem TS.below (h : TS q W x y w') {w2 : World} (hb : Below w'.heap.size w' w2) : TS q W x y w2 := by
  obtain ⟨lx, ly, h1, h2, h3, h4⟩ := h
  exact ⟨lx, ly, h1, h2, h3.below hb, h4⟩
theorem TS.key (h : TS q W x y w') : w'.heap[x.k]? = some (.cells (VI .u8 x.key) 23) := by
  obtain ⟨lx, ly, _, _, h, _⟩ := h
  exact h.row (List.mem_append_right _ (List.mem_append_right _ (List.mem_append_left _ mem1)))
/-- the Mac of one ahead -/
theorem TS.front (h : TS q W x y w') : ∃ lx ly, Lst 5 1 x.v x.A.length (x.A.map (Value.int .u8)) lx ∧ Lst 5 1 y.v y.A.length (y.A.map (Value.int .u8)) ly ∧ Ev q W (.pointer none) [] ((x.g, mst (.pointer none) x.key x.M) :: (lx ++ (ly ++ ([(x.k, .cells (VI .u8 x.key) 23)] ++ y.fx)))) w' ∧ (∀ p ∈ lx ++ (ly ++ ([(x.k, Obj.cells (VI .u8 x.key) 23)] ++ y.fx)), p.1 ≠ x.g) ∧
    (∀ w2 (M' : List Int) l, Ev q W (.pointer none) l ((x.g, mst (.pointer none) x.key M') :: (lx ++ (ly ++ ([(x.k, .cells (VI .u8 x.key) 23)] ++ y.fx)))) w2 → TS q W { x with M := M' } y w2) := by
  obtain ⟨lx, ly, h1, h2, h3, h4, h5, h6⟩ := h
  refine ⟨lx, ly, h1, h2, h3.sub (fun p hp => ?_), fun p hp => ?_, fun w2 M' l h7 => ⟨lx, ly, h1, h2, (h7.nilOf []).sub (fun p hp => ?_), fun p hp r hr => ?_, fun p hp r hr => ?_, h6⟩⟩
  · simp only [One.fx, List.mem_cons, List.mem_append, List.not_mem_nil, or_false] at hp ⊢
    rcases hp with hp | hp | hp | hp | hp | hp
    · exact .inr (.inr (.inl (.inl hp)))
    · exact .inl hp
    · exact .inr (.inl hp)
    · exact .inr (.inr (.inl (.inr hp)))
    · exact .inr (.inr (.inr (.inl hp)))
    · exact .inr (.inr (.inr (.inr hp)))
  · simp only [One.fx, List.mem_cons, List.mem_append, List.not_mem_nil, or_false] at hp
    rcases hp with hp | hp | rfl | rfl | rfl
    · exact fun e => h4 p hp (x.g, mst (.pointer none) x.key x.M) (by simp [One.fx]) e.symm
    · exact fun e => h5 p hp (x.g, mst (.pointer none) x.key x.M) (by simp [One.fx]) e.symm
    · exact h6.1
    · exact h6.2.1
    · exact h6.2.2.1
  · simp only [One.fx, List.mem_cons, List.mem_append, List.not_mem_nil, or_false] at hp ⊢
    rcases hp with hp | hp | (hp | hp) | hp | hp
    · exact .inr (.inl hp)
    · exact .inr (.inr (.inl hp))
    · exact .inl hp
    · exact .inr (.inr (.inr (.inl hp)))
    · exact .inr (.inr (.inr (.inr (.inl hp))))
    · exact .inr (.inr (.inr (.inr (.inr hp))))
  · simp only [One.fx, List.mem_cons, List.mem_append, List.not_mem_nil, or_false] at hr
    rcases hr with hr | (rfl | rfl) | rfl | rfl
    · exact h4 p hp r (List.mem_append_left _ hr)
    · exact h4 p hp (x.g, mst (.pointer none) x.key x.M) (by simp [One.fx])
    · exact h4 p hp (x.k, .cells (VI .u8 x.key) 23) (by simp [One.fx])
    · exact h4 p hp (y.g, mst (.pointer none) y.key y.M) (by simp [One.fx])
    · exact h4 p hp (y.k, .cells (VI .u8 y.key) 23) (by simp [One.fx])
  · simp only [One.fx, List.mem_cons, List.mem_append, List.not_mem_nil, or_false] at hr
    rcases hr with (rfl | rfl) | rfl | rfl
    · exact h5 p hp (x.g, mst (.pointer none) x.key x.M) (by simp [One.fx])
    · exact h5 p hp (x.k, .cells (VI .u8 x.key) 23) (by simp [One.fx])
    · exact h5 p hp (y.g, mst (.pointer none) y.key y.M) (by simp [One.fx])
    · exact h5 p hp (y.k, .cells (VI .u8 y.key) 23) (by simp [One.fx])
theorem TS.write (h : TS q W x y w') (hk : Key32 x.key) (hM : Byt x.M) {u : Value} {D : List Int} (hD : Byt D) (hl : D.length ≤ 600000) (hS : Src q W [] u D) :
    Calls Try.prog 16 #[.pointer (some ⟨x.g, 0, none⟩), u] w' fun e w2 => e = .returned (.tuple #[]) ∧ TS q W { x with M := x.M ++ D } y w2 := by
  obtain ⟨lx, ly, h1, h2, h3, h4, h5⟩ := h.front
  refine (mwrite_any h3 h4 (by simp; omega) hk hM hD (hS.sub (by simp))).mono ?_
  rintro e w2 ⟨rfl, h6⟩
  exact ⟨rfl, h5 _ _ _ h6⟩
theorem TS.tag (h : TS q W x y w') (hk : Key32 x.key) (hM : Byt x.M) :
    Calls Try.prog 13 #[.pointer (some ⟨x.g, 0, none⟩)] w' fun e w2 => e = .returned (.agg (VI .u8 (mtag x.key x.M))) ∧ TS q W x y w2 := by
  obtain ⟨lx, ly, h1, h2, h3, h4, h5⟩ := h.front
  refine (mtag_any h3 (by decide) hk hM).mono ?_
  rintro e w2 ⟨rfl, h6⟩
  exact ⟨rfl, h5 _ _ _ h6⟩
theorem TS.app (h : TS q W x y w') {u : Value} {D : List Int} (hS : Src q W [] u D) (hn : x.A.length + D.length ≤ 1000000) (ty : TypeId) :
    ∃ v' w2, (Builtin.append_ #[30, 30] ty #[x.v, u]).run Try.prog w' = .ok v' w2 ∧ TS q W { x with A := x.A ++ D, v := v' } y w2 := by
  obtain ⟨lx, ly, h1, h2, h3, h4, h5, h6⟩ := h
  obtain ⟨v', w2, hr, lb', hL, he, hd⟩ := h3.appB h1 h4 ty (hS.sub (by simp)) hn
  exact ⟨v', w2, hr, lb', ly, by rw [List.length_append]; exact hL, h2, he, hd, h5, h6⟩
theorem TS.rtag (h : TS q W x y w') (hk : Key32 x.key) (hA : Byt x.A) (hn : x.A.length ≤ 1000000) :
    Calls Try.prog 14 #[.agg (VI .u8 x.key), x.v] w' fun e w2 => e = .returned (.agg (VI .u8 (mtag x.key x.A))) ∧ TS q W x y w2 := by
  obtain ⟨a, c, hv⟩ := h.slice
  have hr : RdB w' (.slice a x.A.length c) x.A := by
    obtain ⟨lx, ly, h1, _, h3, _⟩ := h
    rw [hv] at h1
    exact h1.rdb (fun p hp => h3.at' p (List.mem_append_left _ hp))
  rw [hv]
  exact (rtag_any w' x.key hk x.A hA a x.A.length c hr hn).mono (fun e w2 hh => ⟨hh.1, h.below hh.2⟩)
end
end Go.Proofs.Ytgfamcadgahiiaa
