import Derived.Test.YtgfamcadgahiiaaMmat
import Derived.Test.YtgfamcadgahiiaaMmav
namespace Go.Proofs.Ytgfamcadgahiiaa
set_option linter.unusedSimpArgs false
set_option linter.unusedVariables false
open Go.ChangeShapes Go.WideShapes Go.ChangeAt Go.RowKit Go.Pin Go.Prm
/-- boxes of which no two are one -/
def EN (B : Nat) (w : World) (rv : Value) (l : List (Int × Int)) (bs : List (Nat × Obj)) (W : World) : Prop := Ev B w rv l bs W ∧ (bs.map Prod.fst).Nodup
section
variable {B : Nat} {w : World} {rv rv' : Value} {l l' : List (Int × Int)} {A C lb lb' bs : List (Nat × Obj)} {W W' : World} {g : Nat} {x x' : Obj}
theorem EN.below (h : EN B w rv l bs W) (hb : Below W.heap.size W W') : EN B w rv l bs W' := ⟨h.1.below hb, h.2⟩
theorem EN.at (h : EN B w rv l (A ++ (g, x) :: C) W) : Ev B w rv l ((g, x) :: (A ++ C)) W ∧ ∀ p ∈ A ++ C, p.1 ≠ g := by
  refine ⟨h.1.sub (fun p hp => List.perm_middle.mem_iff.2 hp), fun p hp e => ?_⟩
  have h2 := (List.Perm.nodup_iff (List.Perm.map Prod.fst (List.perm_middle (a := (g, x)) (l₁ := A) (l₂ := C)))).1 h.2
  rw [List.map_cons] at h2
  exact (List.nodup_cons.1 h2).1 (List.mem_map.2 ⟨p, hp, e⟩)
theorem EN.back (h : EN B w rv l (A ++ (g, x) :: C) W) (h' : Ev B w rv' l' ((g, x') :: (A ++ C)) W') : EN B w rv' l' (A ++ (g, x') :: C) W' := by
  refine ⟨h'.sub (fun p hp => List.perm_middle.mem_iff.1 hp), ?_⟩
  have := h.2
  rw [List.map_append, List.map_cons] at this ⊢
  exact this
theorem EN.list (h : EN B w rv l (A ++ (lb ++ C)) W) : Ev B w rv l (lb ++ (A ++ C)) W ∧ ∀ p ∈ lb, ∀ q ∈ A ++ C, q.1 ≠ p.1 := by
  have hp : (A ++ (lb ++ C)).Perm (lb ++ (A ++ C)) := by
    rw [← List.append_assoc, ← List.append_assoc]
    exact List.Perm.append_right C List.perm_append_comm
  refine ⟨h.1.sub (fun p hm => hp.mem_iff.2 hm), fun p hm q hq e => ?_⟩
  have h2 := (List.Perm.nodup_iff (hp.map Prod.fst)).1 h.2
  rw [List.map_append] at h2
  exact (List.nodup_append.1 h2).2.2 p.1 (List.mem_map.2 ⟨p, hm, rfl⟩) q.1 (List.mem_map.2 ⟨q, hq, rfl⟩) e.symm
theorem Lst.nd {T : TypeId} {sz : Nat} {v : Value} {n : Nat} {xs : List Value} (h : Lst T sz v n xs lb) : (lb.map Prod.fst).Nodup := by
  rcases h.2 with ⟨_, _, e⟩ | ⟨g, cap, cur, _, e, _⟩
  · rw [e]; exact List.nodup_nil
  · rw [e]; simp
theorem EN.listBack (h : EN B w rv l (A ++ (lb ++ C)) W) (hn : (lb'.map Prod.fst).Nodup) (h' : Ev B w rv' l' (lb' ++ (A ++ C)) W') (hd : ∀ p ∈ lb', ∀ q ∈ A ++ C, q.1 ≠ p.1) : EN B w rv' l' (A ++ (lb' ++ C)) W' := by
  have hp : ∀ lb : List (Nat × Obj), (A ++ (lb ++ C)).Perm (lb ++ (A ++ C)) := fun lb => by
    rw [← List.append_assoc, ← List.append_assoc]
    exact List.Perm.append_right C List.perm_append_comm
  refine ⟨h'.sub (fun p hm => (hp lb').mem_iff.1 hm), (List.Perm.nodup_iff ((hp lb').map Prod.fst)).2 ?_⟩
  have h2 := (List.Perm.nodup_iff ((hp lb).map Prod.fst)).1 h.2
  rw [List.map_append] at h2 ⊢
  refine List.nodup_append.2 ⟨hn, (List.nodup_append.1 h2).2.1, fun a ha b hb e => ?_⟩
  obtain ⟨p, hp, rfl⟩ := List.mem_map.1 ha
  obtain ⟨q, hq, rfl⟩ := List.mem_map.1 hb
  exact hd p hp q hq e.symm
/-- another box in a box's place -/
theorem EN.swapBox (h : EN B w rv l (A ++ (g, x) :: C) W) (hb : Below W.heap.size W W') {p : Nat} {y : Obj} (hp : W.heap.size ≤ p) (hy : W'.heap[p]? = some y) : EN B w rv l (A ++ (p, y) :: C) W' := by
  have hf := (h.1.fresh hb hp hy)
  refine ⟨hf.sub (fun r hr => ?_), ?_⟩
  · rcases List.mem_append.1 hr with hr | hr
    · exact List.mem_cons_of_mem _ (List.mem_append_left _ hr)
    · rcases List.mem_cons.1 hr with rfl | hr
      · exact List.mem_cons_self ..
      · exact List.mem_cons_of_mem _ (List.mem_append_right _ (List.mem_cons_of_mem _ hr))
  · have h2 := (List.Perm.nodup_iff (List.Perm.map Prod.fst (List.perm_middle (a := (g, x)) (l₁ := A) (l₂ := C)))).1 h.2
    refine (List.Perm.nodup_iff (List.Perm.map Prod.fst (List.perm_middle (a := (p, y)) (l₁ := A) (l₂ := C)))).2 ?_
    rw [List.map_cons] at h2 ⊢
    refine List.nodup_cons.2 ⟨fun hm => ?_, (List.nodup_cons.1 h2).2⟩
    obtain ⟨r, hr, e⟩ := List.mem_map.1 hm
    have : r ∈ A ++ (g, x) :: C := List.perm_middle.mem_iff.2 (List.mem_cons_of_mem _ hr)
    have := heap_lt (h.1.at' r this)
    omega
end
/-- what a script on a Mac has: the Mac, a desk, the key, the list of bytes, the list of events -/
def PS (q : Nat) (W : World) (R g p : Nat) (key M A dk : List Int) (va ve : Value) (L E : List (Int × Int)) (ex : List (Nat × Obj)) (w' : World) : Prop :=
  ∃ la le, Lst 5 1 va A.length (A.map (Value.int .u8)) la ∧ Lst 82 2 ve E.length (evC E) le ∧ EN q W (.pointer (some ⟨R, 0, none⟩)) L (la ++ (le ++ ((g, mst (.pointer (some ⟨R, 0, none⟩)) key M) :: (p, .cells (VI .u8 dk) 5) :: (q, .cells (VI .u8 key) 23) :: ex))) w'
section
variable {q : Nat} {W : World} {R g p : Nat} {key M A dk : List Int} {va ve : Value} {L E : List (Int × Int)} {ex : List (Nat × Obj)} {w' : World}
theorem PS.old (h : PS q W R g p key M A dk va ve L E ex w') : Below q W w' := by obtain ⟨la, le, _, _, h⟩ := h; exact h.1.old
theorem PS.le (h : PS q W R g p key M A dk va ve L E ex w') : q ≤ w'.heap.size := by obtain ⟨la, le, _, _, h⟩ := h; exact h.1.le
theorem PS.below (h : PS q W R g p key M A dk va ve L E ex w') {w2 : World} (hb : Below w'.heap.size w' w2) : PS q W R g p key M A dk va ve L E ex w2 := by
  obtain ⟨la, le, h1, h2, h3⟩ := h
  exact ⟨la, le, h1, h2, h3.below hb⟩
theorem PS.keyR (h : PS q W R g p key M A dk va ve L E ex w') : w'.heap[q]? = some (.cells (VI .u8 key) 23) := by
  obtain ⟨la, le, h1, h2, h3⟩ := h
  exact h3.1.row (List.mem_append_right _ (List.mem_append_right _ mem2))
theorem PS.desk (h : PS q W R g p key M A dk va ve L E ex w') : w'.heap[p]? = some (.cells (VI .u8 dk) 5) := by
  obtain ⟨la, le, h1, h2, h3⟩ := h
  exact h3.1.row (List.mem_append_right _ (List.mem_append_right _ mem1))
theorem PS.slA (h : PS q W R g p key M A dk va ve L E ex w') : ∃ a c, va = .slice a A.length c := by
  obtain ⟨la, le, h1, h2, h3⟩ := h
  exact h1.slice
theorem PS.rec (h : PS q W R g p key M A dk va ve L E ex w') : Ev q W (.pointer (some ⟨R, 0, none⟩)) L [] w' := by
  obtain ⟨la, le, h1, h2, h3⟩ := h
  exact h3.1.sub (fun p hp => nomatch hp)
theorem PS.ownE (h : PS q W R g p key M A dk va ve L E ex w') : w'.ownsRow q 82 2 ve E.length (evC E) := by
  obtain ⟨la, le, h1, h2, h3⟩ := h
  exact h2.own (fun p hp => h3.1.ge p (List.mem_append_right _ (List.mem_append_left _ hp))) (fun p hp => h3.1.at' p (List.mem_append_right _ (List.mem_append_left _ hp)))
theorem PS.tag (h : PS q W R g p key M A dk va ve L E ex w') (hk : Key32 key) (hM : Byt M) (hl : L.length ≤ 800000) :
    Calls Try.prog 13 #[.pointer (some ⟨g, 0, none⟩)] w' fun e w2 => e = .returned (.agg (VI .u8 (mtag key M))) ∧ PS q W R g p key M A dk va ve (L ++ tlog (M.length % 16)) E ex w2 := by
  obtain ⟨la, le, h1, h2, h3⟩ := h
  rw [← List.append_assoc] at h3
  refine (mtag_any h3.at.1 (fun _ => hl) hk hM).mono ?_
  rintro e w2 ⟨rfl, h4⟩
  refine ⟨rfl, la, le, h1, h2, ?_⟩
  rw [← List.append_assoc]
  exact h3.back h4
theorem PS.rtag (h : PS q W R g p key M A dk va ve L E ex w') {k : List Int} (hk : Key32 k) (hA : Byt A) (hn : A.length ≤ 1000000) :
    Calls Try.prog 14 #[.agg (VI .u8 k), va] w' fun e w2 => e = .returned (.agg (VI .u8 (mtag k A))) ∧ PS q W R g p key M A dk va ve L E ex w2 := by
  obtain ⟨a, c, rfl⟩ := h.slA
  have hr : RdB w' (.slice a A.length c) A := by
    obtain ⟨la, le, h1, h2, h3⟩ := h
    exact h1.rdb (fun p hp => h3.1.at' p (List.mem_append_left _ hp))
  exact (rtag_any w' k hk A hA a A.length c hr hn).mono (fun e w2 hh => ⟨hh.1, h.below hh.2⟩)
theorem PS.write (h : PS q W R g p key M A dk va ve L E ex w') (hk : Key32 key) (hM : Byt M) {m N : Nat} {D : List Int} (hD : Byt D) (hd : dk.take m = D) (hm : m ≤ dk.length) (hN : m ≤ N) (hl : L.length + D.length ≤ 700000) :
    Calls Try.prog 16 #[.pointer (some ⟨g, 0, none⟩), .slice (some ⟨p, 0, none⟩) m N] w' fun e w2 => e = .returned (.tuple #[]) ∧ PS q W R g p key (M ++ D) A dk va ve (L ++ wlog (M.length % 16) D.length) E ex w2 := by
  obtain ⟨la, le, h1, h2, h3⟩ := h
  rw [← List.append_assoc] at h3
  have hs : Src q W ((la ++ le) ++ ((p, Obj.cells (VI .u8 dk) 5) :: (q, .cells (VI .u8 key) 23) :: ex)) (.slice (some ⟨p, 0, none⟩) m N) D := by
    have := src_box (B := q) (w := W) (bx := (la ++ le) ++ ((p, Obj.cells (VI .u8 dk) 5) :: (q, .cells (VI .u8 key) 23) :: ex)) (List.mem_append_right _ mem0) 0 m N (by omega) hN
    rw [List.drop_zero, hd] at this
    exact this
  refine (mwrite_any h3.at.1 h3.at.2 (fun _ => hl) hk hM hD hs).mono ?_
  rintro e w2 ⟨rfl, h4⟩
  refine ⟨rfl, la, le, h1, h2, ?_⟩
  rw [← List.append_assoc]
  exact h3.back h4
/-- another desk -/
theorem PS.desk' (h : PS q W R g p key M A dk va ve L E ex w') {w2 : World} (hb : Below w'.heap.size w' w2) {p' : Nat} {dk' : List Int} (hp : w'.heap.size ≤ p') (hy : w2.heap[p']? = some (.cells (VI .u8 dk') 5)) : PS q W R g p' key M A dk' va ve L E ex w2 := by
  obtain ⟨la, le, h1, h2, h3⟩ := h
  refine ⟨la, le, h1, h2, ?_⟩
  have e : ∀ (y : Nat × Obj), la ++ (le ++ ((g, mst (.pointer (some ⟨R, 0, none⟩)) key M) :: y :: (q, .cells (VI .u8 key) 23) :: ex)) = (la ++ (le ++ [(g, mst (.pointer (some ⟨R, 0, none⟩)) key M)])) ++ y :: ((q, .cells (VI .u8 key) 23) :: ex) := fun y => by simp
  rw [e] at h3 ⊢
  exact h3.swapBox hb hp hy
/-- the desk is written -/
theorem PS.put (h : PS q W R g p key M A dk va ve L E ex w') {w2 : World} (hb : Grow (fun k => k = p) w' w2) {dk' : List Int} (hy : w2.heap[p]? = some (.cells (VI .u8 dk') 5)) : PS q W R g p key M A dk' va ve L E ex w2 := by
  obtain ⟨la, le, h1, h2, h3⟩ := h
  refine ⟨la, le, h1, h2, ?_⟩
  have e : ∀ (y : Nat × Obj), la ++ (le ++ ((g, mst (.pointer (some ⟨R, 0, none⟩)) key M) :: y :: (q, .cells (VI .u8 key) 23) :: ex)) = (la ++ (le ++ [(g, mst (.pointer (some ⟨R, 0, none⟩)) key M)])) ++ y :: ((q, .cells (VI .u8 key) 23) :: ex) := fun y => by simp
  rw [e] at h3 ⊢
  exact h3.back (h3.at.1.set rfl h3.at.2 hb hy)
theorem PS.appA (h : PS q W R g p key M A dk va ve L E ex w') {u : Value} {D : List Int} (hS : Src q W [] u D) (hn : A.length + D.length ≤ 1000000) (ty : TypeId) :
    ∃ v2 w2, (Builtin.append_ #[30, 30] ty #[va, u]).run Try.prog w' = .ok v2 w2 ∧ PS q W R g p key M (A ++ D) dk v2 ve L E ex w2 := by
  obtain ⟨la, le, h1, h2, h3⟩ := h
  obtain ⟨k1, k2⟩ := EN.list (A := []) h3
  obtain ⟨v2, w2, hr, lb', j1, j2, j3⟩ := k1.appB h1 k2 ty (hS.sub (fun p hp => nomatch hp)) hn
  refine ⟨v2, w2, hr, lb', le, by rw [List.length_append]; exact j1, h2, ?_⟩
  exact EN.listBack (A := []) h3 j1.nd j2 j3
theorem PS.appE (h : PS q W R g p key M A dk va ve L E ex w') {B' : Nat} {u : Value} {news : List (Int × Int)} (hu : w'.ownsRow B' 82 2 u news.length (evC news)) (h0 : 0 < news.length) (hn : E.length + news.length ≤ 1000000) (ty : TypeId) :
    ∃ v2 w2, (Builtin.append_ #[31, 31] ty #[ve, u]).run Try.prog w' = .ok v2 w2 ∧ PS q W R g p key M A dk va v2 L (E ++ news) ex w2 := by
  obtain ⟨la, le, h1, h2, h3⟩ := h
  obtain ⟨k1, k2⟩ := h3.list
  obtain ⟨i0, hi0, hz0⟩ := Option.map_eq_some_iff.1 info37
  simp only [Prod.mk.injEq] at hz0
  obtain ⟨hz1, hz2, hz3⟩ := hz0
  rcases hu.2 with ⟨_, e⟩ | ⟨b, cap, cur, rfl, _⟩
  · omega
  · have hc := hu.cells (g := b) rfl
    obtain ⟨v2, w2, hr, lb', j1, j2, j3⟩ := k1.app h2 k2 31 ty i0 (.agg #[.int .i64 0, .int .i64 0]) 16 Try.underlying31 hi0 hz1 hz2 hz3 rfl (by decide) ⟨b, 0, none⟩ news.length cap (evC news) (evC_len news) hc (fun u hu => by
      simp only [evC, List.mem_flatMap, List.mem_cons, List.not_mem_nil, or_false] at hu
      obtain ⟨x, _, rfl | rfl⟩ := hu <;> rfl) (by unfold maxLen; omega) (by omega)
    refine ⟨v2, w2, hr, la, lb', h1, by rw [List.length_append, evC_app]; exact j1, ?_⟩
    exact h3.listBack j1.nd j2 j3
/-- one box more; none more -/
theorem PS.add (h : PS q W R g p key M A dk va ve L E [] w') {w2 : World} (hb : Below w'.heap.size w' w2) {px : Nat} {y : Obj} (hp : w'.heap.size ≤ px) (hy : w2.heap[px]? = some y) : PS q W R g p key M A dk va ve L E [(px, y)] w2 := by
  obtain ⟨la, le, h1, h2, h3⟩ := h
  refine ⟨la, le, h1, h2, ?_, ?_⟩
  · refine (h3.1.fresh hb hp hy).sub (fun r hr => ?_)
    simp only [List.mem_append, List.mem_cons, List.not_mem_nil, or_false] at hr ⊢
    rcases hr with hr | hr | hr | hr | hr | hr
    · exact .inr (.inl hr)
    · exact .inr (.inr (.inl hr))
    · exact .inr (.inr (.inr (.inl hr)))
    · exact .inr (.inr (.inr (.inr (.inl hr))))
    · exact .inr (.inr (.inr (.inr (.inr hr))))
    · exact .inl hr
  · have e : la ++ (le ++ [(g, mst (.pointer (some ⟨R, 0, none⟩)) key M), (p, .cells (VI .u8 dk) 5), (q, .cells (VI .u8 key) 23), (px, y)]) = (la ++ (le ++ [(g, mst (.pointer (some ⟨R, 0, none⟩)) key M), (p, .cells (VI .u8 dk) 5), (q, .cells (VI .u8 key) 23)])) ++ [(px, y)] := by simp
    rw [e, List.map_append]
    refine List.nodup_append.2 ⟨h3.2, by simp, fun a ha b hb' e2 => ?_⟩
    obtain ⟨r, hr, rfl⟩ := List.mem_map.1 ha
    simp only [List.map_cons, List.map_nil, List.mem_singleton] at hb'
    have := heap_lt (h3.1.at' r hr)
    omega
theorem PS.drop (h : PS q W R g p key M A dk va ve L E ex w') : PS q W R g p key M A dk va ve L E [] w' := by
  obtain ⟨la, le, h1, h2, h3⟩ := h
  have e : la ++ (le ++ ((g, mst (.pointer (some ⟨R, 0, none⟩)) key M) :: (p, .cells (VI .u8 dk) 5) :: (q, .cells (VI .u8 key) 23) :: ex)) = (la ++ (le ++ [(g, mst (.pointer (some ⟨R, 0, none⟩)) key M), (p, .cells (VI .u8 dk) 5), (q, .cells (VI .u8 key) 23)])) ++ ex := by simp
  rw [e] at h3
  refine ⟨la, le, h1, h2, h3.1.sub (fun r hr => List.mem_append_left _ hr), ?_⟩
  have := h3.2
  rw [List.map_append] at this
  exact (List.nodup_append.1 this).1
theorem PS.exR (h : PS q W R g p key M A dk va ve L E ex w') {px : Nat} {y : Obj} (hm : (px, y) ∈ ex) : w'.heap[px]? = some y := by
  obtain ⟨la, le, h1, h2, h3⟩ := h
  exact h3.1.row (List.mem_append_right _ (List.mem_append_right _ (List.mem_cons_of_mem _ (List.mem_cons_of_mem _ (List.mem_cons_of_mem _ hm)))))
end
/-- the cells from o on are vs -/
def putli : List Int → Nat → List Int → List Int
  | L, _, [] => L
  | L, o, v :: r => putli (L.set o v) (o + 1) r
theorem putli_len : ∀ (vs L : List Int) (o : Nat), (putli L o vs).length = L.length
  | [], _, _ => rfl
  | v :: r, L, o => by rw [putli, putli_len r]; simp
theorem putli_cons : ∀ (vs L : List Int) (x : Int) (o : Nat), putli (x :: L) (o + 1) vs = x :: putli L o vs
  | [], _, _, _ => rfl
  | v :: r, L, x, o => by rw [putli, putli, List.set_cons_succ, putli_cons r]
theorem putli_zero : ∀ (vs L : List Int), vs.length ≤ L.length → putli L 0 vs = vs ++ L.drop vs.length
  | [], L, _ => rfl
  | v :: r, [], h => by simp at h
  | v :: r, x :: L, h => by
    rw [putli, List.set_cons_zero, putli_cons, putli_zero r L (by simpa using h)]
    rfl
theorem setCells_row : ∀ (vs : List Int) {w : World} {p o : Nat} {L : List Int} {T : TypeId}, w.heap[p]? = some (.cells (VI .u8 L) T) → (w.setCells p o (vs.map (Value.int .u8))).heap[p]? = some (.cells (VI .u8 (putli L o vs)) T)
  | [], _, _, _, _, _, h => h
  | v :: r, w, p, o, L, T, h => by
    have h1 : (w.setCell ⟨p, o, none⟩ (.int .u8 v)).heap[p]? = some (.cells (VI .u8 (L.set o v)) T) := by
      rw [heap_setCell_same w _ _ _ _ _ h]
      simp [VI, List.map_set]
    exact setCells_row r h1
theorem setCells_grow : ∀ (cs : List Value) {a w : World} {p o : Nat}, Grow (fun k => k = p) a w → Grow (fun k => k = p) a (w.setCells p o cs)
  | [], _, _, _, _, h => h
  | v :: r, a, w, p, o, h => setCells_grow r (h.setCell (p := ⟨p, o, none⟩) (.inl rfl) v)
/-- bytes of a box are copied to the desk -/
theorem PS.copy {q : Nat} {W : World} {R g p : Nat} {key M A dk : List Int} {va ve : Value} {L E : List (Int × Int)} {ex : List (Nat × Obj)} {w' : World} (h : PS q W R g p key M A dk va ve L E ex w') {gg : Nat} {G : List Int} {T : TypeId} (hg : w'.heap[gg]? = some (.cells (VI .u8 G) T)) {N K : Nat} (hN : dk.length = N) (hK : G.length = K) (hle : K ≤ N) (ty : TypeId) :
    ∃ w2, (Builtin.copy_ #[30, 30] ty #[.slice (some ⟨p, 0, none⟩) N N, .slice (some ⟨gg, 0, none⟩) K K]).run Try.prog w' = .ok (goInt K) w2 ∧ PS q W R g p key M A (G ++ dk.drop K) va ve L E ex w2 := by
  subst hN; subst hK
  refine ⟨w'.setCells p 0 (G.map (Value.int .u8)), ?_, ?_⟩
  · have := run_copy_cells (P := Try.prog) w' 30 30 ty 5 p 0 dk.length dk.length ⟨gg, 0, none⟩ G.length G.length (G.map (Value.int .u8)) Try.underlying30 (by kernel_rfl) (by rw [List.length_map]; exact (Nat.min_eq_left hle).symm)
      (fun j v hv => by
        rw [add_mid, Nat.zero_add, cell_of_row w' _ _ _ _ _ hg]
        simpa [VI] using hv)
      (fun j hj => by
        rw [List.length_map] at hj
        rw [Nat.zero_add, cell_of_row w' _ _ _ _ _ h.desk, VI_at _ _ _ (by omega)]; rfl)
      (fun j hj => frozen_of_row w' _ _ _ _ h.desk)
      (fun v hv => by
        obtain ⟨x, _, rfl⟩ := List.mem_map.1 hv
        rfl)
    rw [List.length_map] at this
    exact this
  · refine h.put (setCells_grow _ (Grow.refl _ _)) ?_
    rw [setCells_row G h.desk, putli_zero G dk hle]
end Go.Proofs.Ytgfamcadgahiiaa
namespace Go.Proofs.Ytgfamcadgahiiaa
set_option linter.unusedSimpArgs false
set_option linter.unusedVariables false
open Go.ChangeShapes Go.WideShapes Go.ChangeAt Go.RowKit Go.Pin Go.Prm
def opIsG (ops : Array Oper) (i : Nat) (gd : Nat × Bool) (op : Op) (d : Option Nat) : Prop := (ops[i]?).map (fun o => (o.guard, o.op, o.dst)) = some (some gd, op, d)
theorem opIsG.get {ops : Array Oper} {i : Nat} {gd : Nat × Bool} {op : Op} {d : Option Nat} (h : opIsG ops i gd op d) : ∃ o, ops[i]? = some o ∧ o.guard = some gd ∧ o.op = op ∧ o.dst = d := by
  obtain ⟨o, h1, h5⟩ := Option.map_eq_some_iff.1 h
  simp only [Prod.mk.injEq] at h5
  exact ⟨o, h1, h5.1, h5.2.1, h5.2.2⟩
/-- the operation on which another one hangs has said yes -/
theorem wanted_g {ops : Array Oper} {j d : Nat} {a : Act} (hd : (ops[j]?).bind (·.dst) = some d) (he : a.eval (.tmp d) = .bool true) (hs : d < a.tmps.size) : yielded ops a.tmps j = some true := by
  unfold yielded
  rw [hd]
  simp only [Act.eval, Array.getD_eq_getD_getElem?] at he
  simp only [Option.bind_some]
  rw [Array.getElem?_eq_getElem hs] at he ⊢
  simp only [Option.getD_some] at he
  rw [he]
section
variable {P : Program} {ops : Array Oper} {Q : Exit → Act → World → Prop} {S : World → Prop} {fuel : Nat} {listed : Array Bool} {a : Act} {w : World}
theorem takeHG {i j : Nat} {op : Op} {d : Nat} {v : Value} (hc : opIsG ops i (j, true) op (some d)) (hs : Region.noSelect ops = true) (hf : Region.free .any ops listed i = true) (hr : (Region.ready .any ops listed).contains i = true) (hy : yielded ops a.tmps j = some true)
    (hQ : ∀ c (a : Act) d v w, Q (.panic c) (a.put d v) w → Q (.panic c) a w) (hrun : ∀ w, S w → ∀ o : Oper, o.op = op → (execOp a.eval o).run P w = .ok (.value v) w) (hS : S w)
    (h : wpAnyH P .any ops Q S fuel (listed.setIfInBounds i true) (a.put (some d) v) w) : wpAnyH P .any ops Q S (fuel + 1) listed a w := by
  obtain ⟨o, h1, h2, h3, h4⟩ := hc.get
  exact wpAnyH_take h1 hs hf hr (fun _ _ _ h => hQ _ _ _ _ _ h) (.inl ⟨by simp [Region.wanted, h2, hy], fun w hw => hrun w hw o h3⟩) hS (by rw [h4]; exact h)
theorem readyHG {i j : Nat} {op : Op} {d : Option Nat} (hc : opIsG ops i (j, true) op d) (hr : Region.ready .any ops listed = [i]) (hy : yielded ops a.tmps j = some true)
    (h : ∀ o : Oper, o.op = op → o.dst = d → Oper.wp P o a w (fun a' w' => S w' ∧ wpAnyH P .any ops Q S fuel (listed.setIfInBounds i true) a' w') Q) : wpAnyH P .any ops Q S (fuel + 1) listed a w := by
  obtain ⟨o, h1, h2, h3, h4⟩ := hc.get
  refine wpAnyH_all hr (by simp) (fun j' hj => ?_)
  obtain rfl : j' = i := by simpa using hj
  unfold wpOp
  simp only [h1]
  rw [if_pos (by simp [Region.wanted, h2, hy])]
  exact .inl (h o h3 h4)
end
section
variable {q : Nat} {W : World} {R g p : Nat} {key M A dk : List Int} {va ve : Value} {L E : List (Int × Int)} {ex : List (Nat × Obj)} {w' : World}
theorem PS.drew' (h : PS q W R g p key M A dk va ve L E ex w') : PS q W R g p key M A dk va ve L E ex w'.drew := h.below ⟨rfl, rfl, rfl, Nat.le_refl _, fun _ _ => rfl⟩
theorem PS.events (h : PS q W R g p key M A dk va ve L E ex w') (hl : L.length ≤ 1000000) : Calls Try.prog 20 #[.pointer (some ⟨R, 0, none⟩)] w' fun e w2 => ∃ u, e = .returned u ∧ PS q W R g p key M A dk va ve L E ex w2 ∧ w2.ownsRow w'.heap.size 82 2 u L.length (evC L) :=
  (v_events h.rec hl).mono (fun e w2 hh => by
    obtain ⟨u, h1, h2, h3⟩ := hh
    exact ⟨u, h1, h.below h3, h2⟩)
theorem PS.same (h : PS q W R g p key M A dk va ve L E ex w') {B' : Nat} {u : Value} (hu : w'.ownsRow B' 82 2 u E.length (evC E)) (hl : E.length ≤ 1000000) : Calls Try.prog 19 #[u, ve] w' fun e w2 => e = .returned (.bool true) ∧ PS q W R g p key M A dk va ve L E ex w2 :=
  (same_own hu h.ownE hl).mono (fun e w2 hh => ⟨hh.1, h.below hh.2⟩)
theorem PS.known (h : PS q W R g p key M A dk va ve L E ex w') : Calls Try.prog 21 #[] w' fun e w2 => e = .returned (.bool true) ∧ PS q W R g p key M A dk va ve L E ex w2 :=
  (known_any w').mono (fun e w2 hh => ⟨hh.1, h.below hh.2⟩)
end
section
variable {a : Act} {o : Oper} {x y z : Operand}
theorem run_neqT {s t : List Int} (hs : s.length = 16) (ht : t.length = 16) (ho : o.op = .binOp .neq 36 x y 36) (hx : a.eval x = .agg (VI .u8 s)) (hy : a.eval y = .agg (VI .u8 t)) (w : World) : (execOp a.eval o).run Try.prog w = .ok (.value (.bool (!(s == t)))) w := by
  have EQ := eqT hs ht w
  unfold execOp
  simp only [ho, hx, hy]
  go_simp
theorem run_eqlT {s t : List Int} (hs : s.length = 16) (ht : t.length = 16) (ho : o.op = .binOp .eql 36 x y 36) (hx : a.eval x = .agg (VI .u8 s)) (hy : a.eval y = .agg (VI .u8 t)) (w : World) : (execOp a.eval o).run Try.prog w = .ok (.value (.bool (s == t))) w := by
  have EQ := eqT hs ht w
  unfold execOp
  simp only [ho, hx, hy]
  go_simp
theorem run_pick {v : Value} (ho : o.op = .pick x y z) (hx : a.eval x = .bool true) (hy : a.eval y = v) (w : World) : (execOp a.eval o).run Try.prog w = .ok (.value v) w := by
  unfold execOp
  simp only [ho, hx, hy]
  go_simp
end
theorem neqS (s : List Int) : (!(s == s)) = false := by simp
theorem eqlS (s : List Int) : (s == s) = true := by simp
noncomputable def rgPl19 : Code := ((Try.f3.body.bind (findReg 19)).getD .skip)
noncomputable def opPl19 : Array Oper := opsOf rgPl19
theorem rgPl19_is : rgPl19 = .region 19 opPl19 true := by kernel_rfl
theorem opPl19_ns : Region.noSelect opPl19 = true := by kernel_rfl
theorem opPl19_0 : opIs opPl19 0 (.move (.tmp 6)) (some 55) := by unfold opIs; kernel_rfl
theorem opPl19_1 : opIs opPl19 1 (.call { callee := .value (.func 13), args := #[.tmp 55], argTypes := #[27] }) (some 56) := by unfold opIs; kernel_rfl
theorem opPl19_2 : opIs opPl19 2 (.load 23 (.tmp 2)) (some 57) := by unfold opIs; kernel_rfl
theorem opPl19_3 : opIs opPl19 3 (.move (.tmp 7)) (some 58) := by unfold opIs; kernel_rfl
theorem opPl19_4 : opIs opPl19 4 (.call { callee := .value (.func 14), args := #[.tmp 57, .tmp 58], argTypes := #[23, 30] }) (some 59) := by unfold opIs; kernel_rfl
theorem opPl19_5 : opIs opPl19 5 (.binOp .neq 36 (.tmp 56) (.tmp 59) 36) (some 60) := by unfold opIs; kernel_rfl
set_option maxRecDepth 100000 in
set_option maxHeartbeats 4000000 in
theorem Pl19 {Q : Exit → Act → World → Prop} {q : Nat} {W W0 : World} {R g p : Nat} {key M dk : List Int} {va ve : Value} {L E : List (Int × Int)} {ex : List (Nat × Obj)} {a0 : Act} (hk : Key32 key) (hM : Byt M) (hl : L.length ≤ 700000) (hMl : M.length ≤ 1000000) (h0 : PS q W R g p key M M dk va ve L E ex W0)
    (sz0 : a0.tmps.size = 139) (e2 : a0.eval (.tmp 2) = (.pointer (some ⟨q, 0, none⟩))) (e6 : a0.eval (.tmp 6) = (.pointer (some ⟨g, 0, none⟩))) (e7 : a0.eval (.tmp 7) = va)
    (HPN : ∀ c (a : Act) d v w, Q (.panic c) (a.put d v) w → Q (.panic c) a w)
    (H : ∀ Y, PS q W R g p key M M dk va ve (L ++ tlog (M.length % 16)) E ex Y → Q .normal ((((((a0.put (some 55) (.pointer (some ⟨g, 0, none⟩))).put (some 57) (.agg (VI .u8 key))).put (some 58) va).put (some 56) (.agg (VI .u8 (mtag key M)))).put (some 59) (.agg (VI .u8 (mtag key M)))).put (some 60) (.bool false)) Y) : Code.wp Try.prog rgPl19 Q a0 W0 := by
  have hS : ∀ L' Y, PS q W R g p key M M dk va ve L' E ex Y → (fun Y : World => Y.rangeAt q 0 (key.map (Value.int .u8))) Y := fun L' Y h => row_range h.keyR
  have ht : (mtag key M).length = 16 := mtag_len _ _
  rw [rgPl19_is]
  refine wp_region_held_drew (S := (fun Y : World => Y.rangeAt q 0 (key.map (Value.int .u8)))) (by kernel_rfl) (hS _ _ h0.drew') (fun hH => ?_)
  refine wpAnyH_as (l' := #[false, false, false, false, false, false]) (by kernel_rfl) ?_
  have h00 := h0.drew'
  refine takeH (v := (.pointer (some ⟨g, 0, none⟩))) opPl19_0 opPl19_ns (by kernel_rfl) (by kernel_rfl) HPN (fun w hw o ho => run_move ho e6 w) hH ?_
  refine wpAnyH_as (l' := #[true, false, false, false, false, false]) (by kernel_rfl) ?_
  obtain ⟨a1, ha1⟩ : ∃ a' : Act, a' = a0.put (some 55) (.pointer (some ⟨g, 0, none⟩)) := ⟨_, rfl⟩
  rw [← ha1]
  have sz1 : a1.tmps.size = 139 := by rw [ha1, size_put]; exact sz0
  have e1_2 : a1.eval (.tmp 2) = (.pointer (some ⟨q, 0, none⟩)) := by rw [ha1, eval_put_ne _ _ _ _ (by decide)]; exact e2
  have e1_7 : a1.eval (.tmp 7) = va := by rw [ha1, eval_put_ne _ _ _ _ (by decide)]; exact e7
  have e1_55 : a1.eval (.tmp 55) = (.pointer (some ⟨g, 0, none⟩)) := by rw [ha1]; exact eval_put_eq _ _ _ (by rw [sz0]; decide)
  refine takeH (v := (.agg (VI .u8 key))) opPl19_2 opPl19_ns (by kernel_rfl) (by kernel_rfl) HPN (fun w hw o ho => run_ldK hk.len ho e1_2 w hw) hH ?_
  refine wpAnyH_as (l' := #[true, false, true, false, false, false]) (by kernel_rfl) ?_
  obtain ⟨a2, ha2⟩ : ∃ a' : Act, a' = a1.put (some 57) (.agg (VI .u8 key)) := ⟨_, rfl⟩
  rw [← ha2]
  have sz2 : a2.tmps.size = 139 := by rw [ha2, size_put]; exact sz1
  have e2_7 : a2.eval (.tmp 7) = va := by rw [ha2, eval_put_ne _ _ _ _ (by decide)]; exact e1_7
  have e2_55 : a2.eval (.tmp 55) = (.pointer (some ⟨g, 0, none⟩)) := by rw [ha2, eval_put_ne _ _ _ _ (by decide)]; exact e1_55
  have e2_57 : a2.eval (.tmp 57) = (.agg (VI .u8 key)) := by rw [ha2]; exact eval_put_eq _ _ _ (by rw [sz1]; decide)
  refine takeH (v := va) opPl19_3 opPl19_ns (by kernel_rfl) (by kernel_rfl) HPN (fun w hw o ho => run_move ho e2_7 w) hH ?_
  refine wpAnyH_as (l' := #[true, false, true, true, false, false]) (by kernel_rfl) ?_
  obtain ⟨a3, ha3⟩ : ∃ a' : Act, a' = a2.put (some 58) va := ⟨_, rfl⟩
  rw [← ha3]
  have sz3 : a3.tmps.size = 139 := by rw [ha3, size_put]; exact sz2
  have e3_55 : a3.eval (.tmp 55) = (.pointer (some ⟨g, 0, none⟩)) := by rw [ha3, eval_put_ne _ _ _ _ (by decide)]; exact e2_55
  have e3_57 : a3.eval (.tmp 57) = (.agg (VI .u8 key)) := by rw [ha3, eval_put_ne _ _ _ _ (by decide)]; exact e2_57
  have e3_58 : a3.eval (.tmp 58) = va := by rw [ha3]; exact eval_put_eq _ _ _ (by rw [sz2]; decide)
  refine readyH opPl19_1 (by kernel_rfl) (fun o ho hd => wpCall (v := (.agg (VI .u8 (mtag key M)))) ho hd (args := #[(.pointer (some ⟨g, 0, none⟩))]) (by simp only [List.map_toArray, List.map_cons, List.map_nil, e3_55]) (fun _ => rfl) (h00.tag hk hM (by omega)) (fun w4 st4 => ⟨hS _ _ (st4), ?_⟩))
  have hH4 : (fun Y : World => Y.rangeAt q 0 (key.map (Value.int .u8))) w4 := hS _ _ (st4)
  refine wpAnyH_as (l' := #[true, true, true, true, false, false]) (by kernel_rfl) ?_
  obtain ⟨a4, ha4⟩ : ∃ a' : Act, a' = a3.put (some 56) (.agg (VI .u8 (mtag key M))) := ⟨_, rfl⟩
  rw [← ha4]
  have sz4 : a4.tmps.size = 139 := by rw [ha4, size_put]; exact sz3
  have e4_57 : a4.eval (.tmp 57) = (.agg (VI .u8 key)) := by rw [ha4, eval_put_ne _ _ _ _ (by decide)]; exact e3_57
  have e4_58 : a4.eval (.tmp 58) = va := by rw [ha4, eval_put_ne _ _ _ _ (by decide)]; exact e3_58
  have e4_56 : a4.eval (.tmp 56) = (.agg (VI .u8 (mtag key M))) := by rw [ha4]; exact eval_put_eq _ _ _ (by rw [sz3]; decide)
  refine readyH opPl19_4 (by kernel_rfl) (fun o ho hd => wpCall (v := (.agg (VI .u8 (mtag key M)))) ho hd (args := #[(.agg (VI .u8 key)), va]) (by simp only [List.map_toArray, List.map_cons, List.map_nil, e4_57, e4_58]) (fun _ => rfl) (st4.rtag hk hM hMl) (fun w5 st5 => ⟨hS _ _ (st5), ?_⟩))
  have hH5 : (fun Y : World => Y.rangeAt q 0 (key.map (Value.int .u8))) w5 := hS _ _ (st5)
  refine wpAnyH_as (l' := #[true, true, true, true, true, false]) (by kernel_rfl) ?_
  obtain ⟨a5, ha5⟩ : ∃ a' : Act, a' = a4.put (some 59) (.agg (VI .u8 (mtag key M))) := ⟨_, rfl⟩
  rw [← ha5]
  have sz5 : a5.tmps.size = 139 := by rw [ha5, size_put]; exact sz4
  have e5_56 : a5.eval (.tmp 56) = (.agg (VI .u8 (mtag key M))) := by rw [ha5, eval_put_ne _ _ _ _ (by decide)]; exact e4_56
  have e5_59 : a5.eval (.tmp 59) = (.agg (VI .u8 (mtag key M))) := by rw [ha5]; exact eval_put_eq _ _ _ (by rw [sz4]; decide)
  refine takeH (v := (.bool false)) opPl19_5 opPl19_ns (by kernel_rfl) (by kernel_rfl) HPN (fun w hw o ho => neqS (mtag key M) ▸ run_neqT ht ht ho e5_56 e5_59 w) hH5 ?_
  refine wpAnyH_as (l' := #[true, true, true, true, true, true]) (by kernel_rfl) ?_
  refine wpAnyH_done (by kernel_rfl) ?_ _
  obtain ⟨a6, ha6⟩ : ∃ a' : Act, a' = a5.put (some 60) (.bool false) := ⟨_, rfl⟩
  rw [← ha6]
  have sz6 : a6.tmps.size = 139 := by rw [ha6, size_put]; exact sz5
  rw [ha6, ha5, ha4, ha3, ha2, ha1]
  exact H _ st5
noncomputable def rgPl37 : Code := ((Try.f3.body.bind (findReg 37)).getD .skip)
noncomputable def opPl37 : Array Oper := opsOf rgPl37
theorem rgPl37_is : rgPl37 = .region 37 opPl37 true := by kernel_rfl
theorem opPl37_ns : Region.noSelect opPl37 = true := by kernel_rfl
theorem opPl37_0 : opIs opPl37 0 (.move (.tmp 6)) (some 124) := by unfold opIs; kernel_rfl
theorem opPl37_1 : opIs opPl37 1 (.call { callee := .value (.func 13), args := #[.tmp 124], argTypes := #[27] }) (some 125) := by unfold opIs; kernel_rfl
theorem opPl37_2 : opIs opPl37 2 (.load 23 (.tmp 2)) (some 126) := by unfold opIs; kernel_rfl
theorem opPl37_3 : opIs opPl37 3 (.move (.tmp 7)) (some 127) := by unfold opIs; kernel_rfl
theorem opPl37_4 : opIs opPl37 4 (.call { callee := .value (.func 14), args := #[.tmp 126, .tmp 127], argTypes := #[23, 30] }) (some 128) := by unfold opIs; kernel_rfl
theorem opPl37_5 : opIs opPl37 5 (.binOp .eql 36 (.tmp 125) (.tmp 128) 36) (some 129) := by unfold opIs; kernel_rfl
theorem opPl37_6 : opIs opPl37 6 (.move (.tmp 129)) (some 130) := by unfold opIs; kernel_rfl
theorem opPl37_7 : opIsG opPl37 7 (6, true) (.move (.tmp 5)) (some 131) := by unfold opIsG; kernel_rfl
theorem opPl37_8 : opIsG opPl37 8 (6, true) (.call { callee := .value (.func 20), args := #[.tmp 131], argTypes := #[25] }) (some 132) := by unfold opIsG; kernel_rfl
theorem opPl37_9 : opIsG opPl37 9 (6, true) (.move (.tmp 8)) (some 133) := by unfold opIsG; kernel_rfl
theorem opPl37_10 : opIsG opPl37 10 (6, true) (.call { callee := .value (.func 19), args := #[.tmp 132, .tmp 133], argTypes := #[31, 31] }) (some 134) := by unfold opIsG; kernel_rfl
theorem opPl37_11 : opIs opPl37 11 (.pick (.tmp 130) (.tmp 134) (.const (.bool false))) (some 135) := by unfold opIs; kernel_rfl
theorem opPl37_12 : opIs opPl37 12 (.move (.tmp 135)) (some 136) := by unfold opIs; kernel_rfl
theorem opPl37_13 : opIsG opPl37 13 (12, true) (.call { callee := .value (.func 21), args := #[], argTypes := #[] }) (some 137) := by unfold opIsG; kernel_rfl
theorem opPl37_14 : opIs opPl37 14 (.pick (.tmp 136) (.tmp 137) (.const (.bool false))) (some 138) := by unfold opIs; kernel_rfl
theorem opPl37_15 : opIs opPl37 15 (.assign (.tmp 138)) (some 4) := by unfold opIs; kernel_rfl
set_option maxRecDepth 100000 in
set_option maxHeartbeats 4000000 in
theorem Pl37 {Q : Exit → Act → World → Prop} {q : Nat} {W W0 : World} {R g p : Nat} {key M dk : List Int} {va ve : Value} {L E : List (Int × Int)} {ex : List (Nat × Obj)} {a0 : Act} (hk : Key32 key) (hM : Byt M) (hl : L.length ≤ 700000) (hMl : M.length ≤ 1000000) (h0 : PS q W R g p key M M dk va ve L E ex W0) (hE : (L ++ tlog (M.length % 16)) = E)
    (sz0 : a0.tmps.size = 139) (e2 : a0.eval (.tmp 2) = (.pointer (some ⟨q, 0, none⟩))) (e6 : a0.eval (.tmp 6) = (.pointer (some ⟨g, 0, none⟩))) (e7 : a0.eval (.tmp 7) = va) (e5 : a0.eval (.tmp 5) = (.pointer (some ⟨R, 0, none⟩))) (e8 : a0.eval (.tmp 8) = ve)
    (HPN : ∀ c (a : Act) d v w, Q (.panic c) (a.put d v) w → Q (.panic c) a w)
    (H : ∀ u Y, PS q W R g p key M M dk va ve (L ++ tlog (M.length % 16)) E ex Y → Q .normal ((((((((((((((((a0.put (some 124) (.pointer (some ⟨g, 0, none⟩))).put (some 126) (.agg (VI .u8 key))).put (some 127) va).put (some 125) (.agg (VI .u8 (mtag key M)))).put (some 128) (.agg (VI .u8 (mtag key M)))).put (some 129) (.bool true)).put (some 130) (.bool true)).put (some 131) (.pointer (some ⟨R, 0, none⟩))).put (some 133) ve).put (some 132) u).put (some 134) (.bool true)).put (some 135) (.bool true)).put (some 136) (.bool true)).put (some 137) (.bool true)).put (some 138) (.bool true)).put (some 4) (.bool true)) Y) : Code.wp Try.prog rgPl37 Q a0 W0 := by
  have hS : ∀ L' Y, PS q W R g p key M M dk va ve L' E ex Y → (fun Y : World => Y.rangeAt q 0 (key.map (Value.int .u8))) Y := fun L' Y h => row_range h.keyR
  have ht : (mtag key M).length = 16 := mtag_len _ _
  have hl2 : (L ++ tlog (M.length % 16)).length ≤ 1000000 := by rw [List.length_append]; have := tlog_len (M.length % 16); omega
  have hl3 : E.length ≤ 1000000 := by rw [← hE]; exact hl2
  rw [rgPl37_is]
  refine wp_region_held_drew (S := (fun Y : World => Y.rangeAt q 0 (key.map (Value.int .u8)))) (by kernel_rfl) (hS _ _ h0.drew') (fun hH => ?_)
  refine wpAnyH_as (l' := #[false, false, false, false, false, false, false, false, false, false, false, false, false, false, false, false]) (by kernel_rfl) ?_
  have h00 := h0.drew'
  refine takeH (v := (.pointer (some ⟨g, 0, none⟩))) opPl37_0 opPl37_ns (by kernel_rfl) (by kernel_rfl) HPN (fun w hw o ho => run_move ho e6 w) hH ?_
  refine wpAnyH_as (l' := #[true, false, false, false, false, false, false, false, false, false, false, false, false, false, false, false]) (by kernel_rfl) ?_
  obtain ⟨a1, ha1⟩ : ∃ a' : Act, a' = a0.put (some 124) (.pointer (some ⟨g, 0, none⟩)) := ⟨_, rfl⟩
  rw [← ha1]
  have sz1 : a1.tmps.size = 139 := by rw [ha1, size_put]; exact sz0
  have e1_2 : a1.eval (.tmp 2) = (.pointer (some ⟨q, 0, none⟩)) := by rw [ha1, eval_put_ne _ _ _ _ (by decide)]; exact e2
  have e1_7 : a1.eval (.tmp 7) = va := by rw [ha1, eval_put_ne _ _ _ _ (by decide)]; exact e7
  have e1_5 : a1.eval (.tmp 5) = (.pointer (some ⟨R, 0, none⟩)) := by rw [ha1, eval_put_ne _ _ _ _ (by decide)]; exact e5
  have e1_8 : a1.eval (.tmp 8) = ve := by rw [ha1, eval_put_ne _ _ _ _ (by decide)]; exact e8
  have e1_124 : a1.eval (.tmp 124) = (.pointer (some ⟨g, 0, none⟩)) := by rw [ha1]; exact eval_put_eq _ _ _ (by rw [sz0]; decide)
  refine takeH (v := (.agg (VI .u8 key))) opPl37_2 opPl37_ns (by kernel_rfl) (by kernel_rfl) HPN (fun w hw o ho => run_ldK hk.len ho e1_2 w hw) hH ?_
  refine wpAnyH_as (l' := #[true, false, true, false, false, false, false, false, false, false, false, false, false, false, false, false]) (by kernel_rfl) ?_
  obtain ⟨a2, ha2⟩ : ∃ a' : Act, a' = a1.put (some 126) (.agg (VI .u8 key)) := ⟨_, rfl⟩
  rw [← ha2]
  have sz2 : a2.tmps.size = 139 := by rw [ha2, size_put]; exact sz1
  have e2_7 : a2.eval (.tmp 7) = va := by rw [ha2, eval_put_ne _ _ _ _ (by decide)]; exact e1_7
  have e2_5 : a2.eval (.tmp 5) = (.pointer (some ⟨R, 0, none⟩)) := by rw [ha2, eval_put_ne _ _ _ _ (by decide)]; exact e1_5
  have e2_8 : a2.eval (.tmp 8) = ve := by rw [ha2, eval_put_ne _ _ _ _ (by decide)]; exact e1_8
  have e2_124 : a2.eval (.tmp 124) = (.pointer (some ⟨g, 0, none⟩)) := by rw [ha2, eval_put_ne _ _ _ _ (by decide)]; exact e1_124
  have e2_126 : a2.eval (.tmp 126) = (.agg (VI .u8 key)) := by rw [ha2]; exact eval_put_eq _ _ _ (by rw [sz1]; decide)
  refine takeH (v := va) opPl37_3 opPl37_ns (by kernel_rfl) (by kernel_rfl) HPN (fun w hw o ho => run_move ho e2_7 w) hH ?_
  refine wpAnyH_as (l' := #[true, false, true, true, false, false, false, false, false, false, false, false, false, false, false, false]) (by kernel_rfl) ?_
  obtain ⟨a3, ha3⟩ : ∃ a' : Act, a' = a2.put (some 127) va := ⟨_, rfl⟩
  rw [← ha3]
  have sz3 : a3.tmps.size = 139 := by rw [ha3, size_put]; exact sz2
  have e3_5 : a3.eval (.tmp 5) = (.pointer (some ⟨R, 0, none⟩)) := by rw [ha3, eval_put_ne _ _ _ _ (by decide)]; exact e2_5
  have e3_8 : a3.eval (.tmp 8) = ve := by rw [ha3, eval_put_ne _ _ _ _ (by decide)]; exact e2_8
  have e3_124 : a3.eval (.tmp 124) = (.pointer (some ⟨g, 0, none⟩)) := by rw [ha3, eval_put_ne _ _ _ _ (by decide)]; exact e2_124
  have e3_126 : a3.eval (.tmp 126) = (.agg (VI .u8 key)) := by rw [ha3, eval_put_ne _ _ _ _ (by decide)]; exact e2_126
  have e3_127 : a3.eval (.tmp 127) = va := by rw [ha3]; exact eval_put_eq _ _ _ (by rw [sz2]; decide)
  refine readyH opPl37_1 (by kernel_rfl) (fun o ho hd => wpCall (v := (.agg (VI .u8 (mtag key M)))) ho hd (args := #[(.pointer (some ⟨g, 0, none⟩))]) (by simp only [List.map_toArray, List.map_cons, List.map_nil, e3_124]) (fun _ => rfl) (h00.tag hk hM (by omega)) (fun w4 st4 => ⟨hS _ _ (st4), ?_⟩))
  have hH4 : (fun Y : World => Y.rangeAt q 0 (key.map (Value.int .u8))) w4 := hS _ _ (st4)
  refine wpAnyH_as (l' := #[true, true, true, true, false, false, false, false, false, false, false, false, false, false, false, false]) (by kernel_rfl) ?_
  obtain ⟨a4, ha4⟩ : ∃ a' : Act, a' = a3.put (some 125) (.agg (VI .u8 (mtag key M))) := ⟨_, rfl⟩
  rw [← ha4]
  have sz4 : a4.tmps.size = 139 := by rw [ha4, size_put]; exact sz3
  have e4_5 : a4.eval (.tmp 5) = (.pointer (some ⟨R, 0, none⟩)) := by rw [ha4, eval_put_ne _ _ _ _ (by decide)]; exact e3_5
  have e4_8 : a4.eval (.tmp 8) = ve := by rw [ha4, eval_put_ne _ _ _ _ (by decide)]; exact e3_8
  have e4_126 : a4.eval (.tmp 126) = (.agg (VI .u8 key)) := by rw [ha4, eval_put_ne _ _ _ _ (by decide)]; exact e3_126
  have e4_127 : a4.eval (.tmp 127) = va := by rw [ha4, eval_put_ne _ _ _ _ (by decide)]; exact e3_127
  have e4_125 : a4.eval (.tmp 125) = (.agg (VI .u8 (mtag key M))) := by rw [ha4]; exact eval_put_eq _ _ _ (by rw [sz3]; decide)
  refine readyH opPl37_4 (by kernel_rfl) (fun o ho hd => wpCall (v := (.agg (VI .u8 (mtag key M)))) ho hd (args := #[(.agg (VI .u8 key)), va]) (by simp only [List.map_toArray, List.map_cons, List.map_nil, e4_126, e4_127]) (fun _ => rfl) (st4.rtag hk hM hMl) (fun w5 st5 => ⟨hS _ _ (st5), ?_⟩))
  have hH5 : (fun Y : World => Y.rangeAt q 0 (key.map (Value.int .u8))) w5 := hS _ _ (st5)
  refine wpAnyH_as (l' := #[true, true, true, true, true, false, false, false, false, false, false, false, false, false, false, false]) (by kernel_rfl) ?_
  obtain ⟨a5, ha5⟩ : ∃ a' : Act, a' = a4.put (some 128) (.agg (VI .u8 (mtag key M))) := ⟨_, rfl⟩
  rw [← ha5]
  have sz5 : a5.tmps.size = 139 := by rw [ha5, size_put]; exact sz4
  have e5_5 : a5.eval (.tmp 5) = (.pointer (some ⟨R, 0, none⟩)) := by rw [ha5, eval_put_ne _ _ _ _ (by decide)]; exact e4_5
  have e5_8 : a5.eval (.tmp 8) = ve := by rw [ha5, eval_put_ne _ _ _ _ (by decide)]; exact e4_8
  have e5_125 : a5.eval (.tmp 125) = (.agg (VI .u8 (mtag key M))) := by rw [ha5, eval_put_ne _ _ _ _ (by decide)]; exact e4_125
  have e5_128 : a5.eval (.tmp 128) = (.agg (VI .u8 (mtag key M))) := by rw [ha5]; exact eval_put_eq _ _ _ (by rw [sz4]; decide)
  refine takeH (v := (.bool true)) opPl37_5 opPl37_ns (by kernel_rfl) (by kernel_rfl) HPN (fun w hw o ho => eqlS (mtag key M) ▸ run_eqlT ht ht ho e5_125 e5_128 w) hH5 ?_
  refine wpAnyH_as (l' := #[true, true, true, true, true, true, false, false, false, false, false, false, false, false, false, false]) (by kernel_rfl) ?_
  obtain ⟨a6, ha6⟩ : ∃ a' : Act, a' = a5.put (some 129) (.bool true) := ⟨_, rfl⟩
  rw [← ha6]
  have sz6 : a6.tmps.size = 139 := by rw [ha6, size_put]; exact sz5
  have e6_5 : a6.eval (.tmp 5) = (.pointer (some ⟨R, 0, none⟩)) := by rw [ha6, eval_put_ne _ _ _ _ (by decide)]; exact e5_5
  have e6_8 : a6.eval (.tmp 8) = ve := by rw [ha6, eval_put_ne _ _ _ _ (by decide)]; exact e5_8
  have e6_129 : a6.eval (.tmp 129) = (.bool true) := by rw [ha6]; exact eval_put_eq _ _ _ (by rw [sz5]; decide)
  refine takeH (v := (.bool true)) opPl37_6 opPl37_ns (by kernel_rfl) (by kernel_rfl) HPN (fun w hw o ho => run_move ho e6_129 w) hH5 ?_
  refine wpAnyH_as (l' := #[true, true, true, true, true, true, true, false, false, false, false, false, false, false, false, false]) (by kernel_rfl) ?_
  obtain ⟨a7, ha7⟩ : ∃ a' : Act, a' = a6.put (some 130) (.bool true) := ⟨_, rfl⟩
  rw [← ha7]
  have sz7 : a7.tmps.size = 139 := by rw [ha7, size_put]; exact sz6
  have e7_5 : a7.eval (.tmp 5) = (.pointer (some ⟨R, 0, none⟩)) := by rw [ha7, eval_put_ne _ _ _ _ (by decide)]; exact e6_5
  have e7_8 : a7.eval (.tmp 8) = ve := by rw [ha7, eval_put_ne _ _ _ _ (by decide)]; exact e6_8
  have e7_130 : a7.eval (.tmp 130) = (.bool true) := by rw [ha7]; exact eval_put_eq _ _ _ (by rw [sz6]; decide)
  refine takeHG (v := (.pointer (some ⟨R, 0, none⟩))) opPl37_7 opPl37_ns (by kernel_rfl) (by kernel_rfl) (wanted_g (ops := opPl37) (j := 6) (d := 130) (by kernel_rfl) e7_130 (by rw [sz7]; decide)) HPN (fun w hw o ho => run_move ho e7_5 w) hH5 ?_
  refine wpAnyH_as (l' := #[true, true, true, true, true, true, true, true, false, false, false, false, false, false, false, false]) (by kernel_rfl) ?_
  obtain ⟨a8, ha8⟩ : ∃ a' : Act, a' = a7.put (some 131) (.pointer (some ⟨R, 0, none⟩)) := ⟨_, rfl⟩
  rw [← ha8]
  have sz8 : a8.tmps.size = 139 := by rw [ha8, size_put]; exact sz7
  have e8_8 : a8.eval (.tmp 8) = ve := by rw [ha8, eval_put_ne _ _ _ _ (by decide)]; exact e7_8
  have e8_130 : a8.eval (.tmp 130) = (.bool true) := by rw [ha8, eval_put_ne _ _ _ _ (by decide)]; exact e7_130
  have e8_131 : a8.eval (.tmp 131) = (.pointer (some ⟨R, 0, none⟩)) := by rw [ha8]; exact eval_put_eq _ _ _ (by rw [sz7]; decide)
  refine takeHG (v := ve) opPl37_9 opPl37_ns (by kernel_rfl) (by kernel_rfl) (wanted_g (ops := opPl37) (j := 6) (d := 130) (by kernel_rfl) e8_130 (by rw [sz8]; decide)) HPN (fun w hw o ho => run_move ho e8_8 w) hH5 ?_
  refine wpAnyH_as (l' := #[true, true, true, true, true, true, true, true, false, true, false, false, false, false, false, false]) (by kernel_rfl) ?_
  obtain ⟨a9, ha9⟩ : ∃ a' : Act, a' = a8.put (some 133) ve := ⟨_, rfl⟩
  rw [← ha9]
  have sz9 : a9.tmps.size = 139 := by rw [ha9, size_put]; exact sz8
  have e9_130 : a9.eval (.tmp 130) = (.bool true) := by rw [ha9, eval_put_ne _ _ _ _ (by decide)]; exact e8_130
  have e9_131 : a9.eval (.tmp 131) = (.pointer (some ⟨R, 0, none⟩)) := by rw [ha9, eval_put_ne _ _ _ _ (by decide)]; exact e8_131
  have e9_133 : a9.eval (.tmp 133) = ve := by rw [ha9]; exact eval_put_eq _ _ _ (by rw [sz8]; decide)
  refine readyHG opPl37_8 (by kernel_rfl) (wanted_g (ops := opPl37) (j := 6) (d := 130) (by kernel_rfl) e9_130 (by rw [sz9]; decide)) (fun o ho hd => wpCallX (v := fun x : Value => x) ho hd (args := #[(.pointer (some ⟨R, 0, none⟩))]) (by simp only [List.map_toArray, List.map_cons, List.map_nil, e9_131]) (fun _ => rfl) (st5.events hl2) (fun u9 w10 st10 => ⟨hS _ _ (st10.1), ?_⟩))
  have hH10 : (fun Y : World => Y.rangeAt q 0 (key.map (Value.int .u8))) w10 := hS _ _ (st10.1)
  refine wpAnyH_as (l' := #[true, true, true, true, true, true, true, true, true, true, false, false, false, false, false, false]) (by kernel_rfl) ?_
  obtain ⟨a10, ha10⟩ : ∃ a' : Act, a' = a9.put (some 132) u9 := ⟨_, rfl⟩
  rw [← ha10]
  have sz10 : a10.tmps.size = 139 := by rw [ha10, size_put]; exact sz9
  have e10_130 : a10.eval (.tmp 130) = (.bool true) := by rw [ha10, eval_put_ne _ _ _ _ (by decide)]; exact e9_130
  have e10_133 : a10.eval (.tmp 133) = ve := by rw [ha10, eval_put_ne _ _ _ _ (by decide)]; exact e9_133
  have e10_132 : a10.eval (.tmp 132) = u9 := by rw [ha10]; exact eval_put_eq _ _ _ (by rw [sz9]; decide)
  refine readyHG opPl37_10 (by kernel_rfl) (wanted_g (ops := opPl37) (j := 6) (d := 130) (by kernel_rfl) e10_130 (by rw [sz10]; decide)) (fun o ho hd => wpCall (v := (.bool true)) ho hd (args := #[u9, ve]) (by simp only [List.map_toArray, List.map_cons, List.map_nil, e10_132, e10_133]) (fun _ => rfl) (st10.1.same (hE ▸ st10.2) hl3) (fun w11 st11 => ⟨hS _ _ (st11), ?_⟩))
  have hH11 : (fun Y : World => Y.rangeAt q 0 (key.map (Value.int .u8))) w11 := hS _ _ (st11)
  refine wpAnyH_as (l' := #[true, true, true, true, true, true, true, true, true, true, true, false, false, false, false, false]) (by kernel_rfl) ?_
  obtain ⟨a11, ha11⟩ : ∃ a' : Act, a' = a10.put (some 134) (.bool true) := ⟨_, rfl⟩
  rw [← ha11]
  have sz11 : a11.tmps.size = 139 := by rw [ha11, size_put]; exact sz10
  have e11_130 : a11.eval (.tmp 130) = (.bool true) := by rw [ha11, eval_put_ne _ _ _ _ (by decide)]; exact e10_130
  have e11_134 : a11.eval (.tmp 134) = (.bool true) := by rw [ha11]; exact eval_put_eq _ _ _ (by rw [sz10]; decide)
  refine takeH (v := (.bool true)) opPl37_11 opPl37_ns (by kernel_rfl) (by kernel_rfl) HPN (fun w hw o ho => run_pick ho e11_130 e11_134 w) hH11 ?_
  refine wpAnyH_as (l' := #[true, true, true, true, true, true, true, true, true, true, true, true, false, false, false, false]) (by kernel_rfl) ?_
  obtain ⟨a12, ha12⟩ : ∃ a' : Act, a' = a11.put (some 135) (.bool true) := ⟨_, rfl⟩
  rw [← ha12]
  have sz12 : a12.tmps.size = 139 := by rw [ha12, size_put]; exact sz11
  have e12_135 : a12.eval (.tmp 135) = (.bool true) := by rw [ha12]; exact eval_put_eq _ _ _ (by rw [sz11]; decide)
  refine takeH (v := (.bool true)) opPl37_12 opPl37_ns (by kernel_rfl) (by kernel_rfl) HPN (fun w hw o ho => run_move ho e12_135 w) hH11 ?_
  refine wpAnyH_as (l' := #[true, true, true, true, true, true, true, true, true, true, true, true, true, false, false, false]) (by kernel_rfl) ?_
  obtain ⟨a13, ha13⟩ : ∃ a' : Act, a' = a12.put (some 136) (.bool true) := ⟨_, rfl⟩
  rw [← ha13]
  have sz13 : a13.tmps.size = 139 := by rw [ha13, size_put]; exact sz12
  have e13_136 : a13.eval (.tmp 136) = (.bool true) := by rw [ha13]; exact eval_put_eq _ _ _ (by rw [sz12]; decide)
  refine readyHG opPl37_13 (by kernel_rfl) (wanted_g (ops := opPl37) (j := 12) (d := 136) (by kernel_rfl) e13_136 (by rw [sz13]; decide)) (fun o ho hd => wpCall (v := (.bool true)) ho hd (args := #[]) (by simp only [List.map_toArray, List.map_nil]) (fun _ => rfl) (st11.known) (fun w14 st14 => ⟨hS _ _ (st14), ?_⟩))
  have hH14 : (fun Y : World => Y.rangeAt q 0 (key.map (Value.int .u8))) w14 := hS _ _ (st14)
  refine wpAnyH_as (l' := #[true, true, true, true, true, true, true, true, true, true, true, true, true, true, false, false]) (by kernel_rfl) ?_
  obtain ⟨a14, ha14⟩ : ∃ a' : Act, a' = a13.put (some 137) (.bool true) := ⟨_, rfl⟩
  rw [← ha14]
  have sz14 : a14.tmps.size = 139 := by rw [ha14, size_put]; exact sz13
  have e14_136 : a14.eval (.tmp 136) = (.bool true) := by rw [ha14, eval_put_ne _ _ _ _ (by decide)]; exact e13_136
  have e14_137 : a14.eval (.tmp 137) = (.bool true) := by rw [ha14]; exact eval_put_eq _ _ _ (by rw [sz13]; decide)
  refine takeH (v := (.bool true)) opPl37_14 opPl37_ns (by kernel_rfl) (by kernel_rfl) HPN (fun w hw o ho => run_pick ho e14_136 e14_137 w) hH14 ?_
  refine wpAnyH_as (l' := #[true, true, true, true, true, true, true, true, true, true, true, true, true, true, true, false]) (by kernel_rfl) ?_
  obtain ⟨a15, ha15⟩ : ∃ a' : Act, a' = a14.put (some 138) (.bool true) := ⟨_, rfl⟩
  rw [← ha15]
  have sz15 : a15.tmps.size = 139 := by rw [ha15, size_put]; exact sz14
  have e15_138 : a15.eval (.tmp 138) = (.bool true) := by rw [ha15]; exact eval_put_eq _ _ _ (by rw [sz14]; decide)
  refine takeH (v := (.bool true)) opPl37_15 opPl37_ns (by kernel_rfl) (by kernel_rfl) HPN (fun w hw o ho => run_assign ho e15_138 w) hH14 ?_
  refine wpAnyH_as (l' := #[true, true, true, true, true, true, true, true, true, true, true, true, true, true, true, true]) (by kernel_rfl) ?_
  refine wpAnyH_done (by kernel_rfl) ?_ _
  obtain ⟨a16, ha16⟩ : ∃ a' : Act, a' = a15.put (some 4) (.bool true) := ⟨_, rfl⟩
  rw [← ha16]
  have sz16 : a16.tmps.size = 139 := by rw [ha16, size_put]; exact sz15
  rw [ha16, ha15, ha14, ha13, ha12, ha11, ha10, ha9, ha8, ha7, ha6, ha5, ha4, ha3, ha2, ha1]
  exact H _ _ st14
end Go.Proofs.Ytgfamcadgahiiaa
