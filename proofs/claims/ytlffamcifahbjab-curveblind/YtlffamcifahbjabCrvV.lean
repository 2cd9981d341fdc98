import Derived.Test.YtlffamcifahbjabFldT
import Derived.Test.YtlffamcifahbjabFldPq
namespace Go.Proofs.Ytlffamcifahbjab
set_option linter.unusedSimpArgs false
set_option linter.unusedSectionVars false
open Go.ChangeShapes Go.WideShapes Go.ChangeAt Go.RowKit Go.Pin Go.Fld
/-- a Recorder, or none, and boxes beside it, all from B on -/
structure Ev (B : Nat) (w : World) (rv : Value) (l : List (Int × Int)) (bx : List (Nat × Obj)) (wr : World) : Prop where
  old : Below B w wr
  le : B ≤ wr.heap.size
  ge : ∀ p ∈ bx, B ≤ p.1
  at' : ∀ p ∈ bx, wr.heap[p.1]? = some p.2
  rc : rv = .pointer none ∨ ∃ R vs, rv = .pointer (some ⟨R, 0, none⟩) ∧ Rec B wr R vs l ∧ ∀ p ∈ bx, ¬ Blk R vs p.1
theorem heap_lt {w : World} {g : Nat} {o : Obj} (h : w.heap[g]? = some o) : g < w.heap.size := (Array.getElem?_eq_some_iff.1 h).1
section
variable {B : Nat} {w : World} {rv : Value} {l : List (Int × Int)} {bx : List (Nat × Obj)} {wr w' : World}
theorem Ev.row (h : Ev B w rv l bx wr) {g : Nat} {x : Obj} (hp : (g, x) ∈ bx) : wr.heap[g]? = some x := h.at' _ hp
theorem Ev.lt (h : Ev B w rv l bx wr) {g : Nat} {x : Obj} (hp : (g, x) ∈ bx) : g < wr.heap.size := heap_lt (h.row hp)
theorem Ev.below (h : Ev B w rv l bx wr) (hb : Below wr.heap.size wr w') : Ev B w rv l bx w' := by
  refine ⟨h.old.trans (hb.mono h.le), Nat.le_trans h.le hb.size, h.ge, fun p hp => (hb.block _ (heap_lt (h.at' p hp))).trans (h.at' p hp), ?_⟩
  rcases h.rc with e | ⟨R, vs, e, h2, h3⟩
  · exact .inl e
  · exact .inr ⟨R, vs, e, h2.below hb, h3⟩
theorem Ev.drew (h : Ev B w rv l bx wr) : Ev B w rv l bx wr.drew := h.below ⟨rfl, rfl, rfl, Nat.le_refl _, fun _ _ => rfl⟩
theorem Ev.sub (h : Ev B w rv l bx wr) {by' : List (Nat × Obj)} (hs : ∀ p ∈ by', p ∈ bx) : Ev B w rv l by' wr := by
  refine ⟨h.old, h.le, fun p hp => h.ge p (hs p hp), fun p hp => h.at' p (hs p hp), ?_⟩
  rcases h.rc with e | ⟨R, vs, e, h2, h3⟩
  · exact .inl e
  · exact .inr ⟨R, vs, e, h2, fun p hp => h3 p (hs p hp)⟩
theorem Ev.new (h : Ev B w rv l bx wr) (x : Obj) : Ev B w rv l ((wr.heap.size, x) :: bx) (wr.alloc x) := by
  have hb : Below wr.heap.size wr (wr.alloc x) := (Below.refl _ _).alloc (Nat.le_refl _) _
  have h' := h.below hb
  refine ⟨h'.old, h'.le, fun p hp => ?_, fun p hp => ?_, ?_⟩
  · rcases List.mem_cons.1 hp with rfl | hp
    · exact h.le
    · exact h.ge p hp
  · rcases List.mem_cons.1 hp with rfl | hp
    · simp only [heap_alloc_any, if_true]
    · exact h'.at' p hp
  · rcases h.rc with e | ⟨R, vs, e, h2, h3⟩
    · exact .inl e
    · refine .inr ⟨R, vs, e, h2.below hb, fun p hp => ?_⟩
      rcases List.mem_cons.1 hp with rfl | hp
      · intro hk; have := h2.lt _ hk; simp at this
      · exact h3 p hp
/-- a box is written -/
theorem Ev.set (h : Ev B w rv l bx wr) {g : Nat} {o y : Obj} {b2 : List (Nat × Obj)} (e : bx = (g, o) :: b2) (hne : ∀ p ∈ b2, p.1 ≠ g) (hb : But (fun k => k = g) wr w') (hy : w'.heap[g]? = some y) : Ev B w rv l ((g, y) :: b2) w' := by
  subst e
  have hg : B ≤ g := h.ge (g, o) (by simp)
  refine ⟨h.old.trans (hb.below (fun k hk => by omega)), by rw [hb.size]; exact h.le, fun p hp => ?_, fun p hp => ?_, ?_⟩
  · rcases List.mem_cons.1 hp with rfl | hp
    · exact hg
    · exact h.ge p (by simp [hp])
  · rcases List.mem_cons.1 hp with rfl | hp
    · exact hy
    · exact (hb.block _ (hne p hp)).trans (h.at' p (by simp [hp]))
  · rcases h.rc with e | ⟨R, vs, e, h2, h3⟩
    · exact .inl e
    · have hgr : Grow (fun k => k = g) wr w' := ⟨hb.os, hb.tape, hb.output, by rw [hb.size]; exact Nat.le_refl _, fun k _ hk => hb.block k hk⟩
      refine .inr ⟨R, vs, e, h2.grow hgr (fun k hk hn => by subst hn; exact h3 (k, o) (by simp) hk), fun p hp => ?_⟩
      rcases List.mem_cons.1 hp with rfl | hp
      · exact h3 (g, o) (by simp)
      · exact h3 p (by simp [hp])
/-- one operation is logged -/
theorem Ev.op (h : Ev B w rv l bx wr) (hl : l.length ≤ 1000000) (v : Int) : ∃ Q, Opc rv v wr Q ∧ ∀ w', Opd Q wr w' → Ev B w rv (l ++ [(3, v)]) bx w' := by
  rcases h.rc with e | ⟨R, vs, e, h2, h3⟩
  · subst e
    exact ⟨_, opc_nil v wr, fun w' ho => by
      have := h.below ho.nil
      exact ⟨this.old, this.le, this.ge, this.at', .inl rfl⟩⟩
  · subst e
    refine ⟨_, opc_rec v h2 hl, fun w' ho => ?_⟩
    obtain ⟨vs', g1, g2, g3⟩ := Opd.rec h2 ho
    have hR := h2.lt R (.inl rfl)
    refine ⟨h.old.trans (g2.below h2.ge h.le), Nat.le_trans h.le g2.size, h.ge, fun p hp => (g2.block _ (heap_lt (h.at' p hp)) (h3 p hp)).trans (h.at' p hp), .inr ⟨R, vs', rfl, g1, fun p hp hk => ?_⟩⟩
    have hlt : p.1 < wr.heap.size := heap_lt (h.at' p hp)
    rcases hk with hk | hk
    · exact h3 p hp (.inl hk)
    · rcases g3 with g3 | ⟨g, g3, hge⟩
      · exact h3 p hp (.inr (g3 ▸ hk))
      · rw [g3] at hk; injection hk with hk; omega
/-- Op itself -/
theorem v_op (h : Ev B w rv l bx wr) (hl : l.length ≤ 1000000) (v : Int) : Calls Try.prog 29 #[rv, .int .i64 v] wr fun e w' => e = .returned (.tuple #[]) ∧ Ev B w rv (l ++ [(3, v)]) bx w' := by
  obtain ⟨Q, h1, h2⟩ := h.op hl v
  exact (h1.call wr (Below.refl _ _)).mono fun e w' hh => ⟨hh.1, h2 w' ⟨wr, w', Below.refl _ _, hh.2, ⟨rfl, rfl, rfl, Nat.le_refl _, fun _ _ _ => rfl⟩⟩⟩
theorem ev_nil (w : World) (bx : List (Nat × Obj)) (h : ∀ p ∈ bx, w.heap[p.1]? = some p.2) (l : List (Int × Int)) : Ev 0 w (.pointer none) l bx w :=
  ⟨Below.refl _ _, Nat.zero_le _, fun _ _ => Nat.zero_le _, h, .inl rfl⟩
theorem ev_nil' (w : World) : Ev w.heap.size w (.pointer none) [] [] w :=
  ⟨Below.refl _ _, Nat.le_refl _, by simp, by simp, .inl rfl⟩
theorem ev_new (w : World) : Ev w.heap.size w (.pointer (some ⟨w.heap.size, 0, none⟩)) [] [] (w.alloc (.cells #[.slice none 0 0, .int .i64 0] 55)) :=
  ⟨(Below.refl _ _).alloc (Nat.le_refl _) _, by simp, by simp, by simp, .inr ⟨_, _, rfl, rec_new w, by simp⟩⟩
end
theorem o_add {a b : List Int} (ha : Lim a) (hb : Lim b) : ∃ x, Lim x ∧ num x = (num a + num b) % P ∧
    Hid (∀ B w rv l bx wr, Ev B w rv l bx wr → l.length ≤ 1000000 → Calls Try.prog 25 #[rv, .agg (VI .u64 a), .agg (VI .u64 b)] wr fun e w' => e = .returned (.agg (VI .u64 x)) ∧ Ev B w rv (l ++ [(3, 1)]) bx w') := by
  refine ⟨_, add_lim ha hb, num_add ha hb, fun B w rv l bx wr h hl => ?_⟩
  obtain ⟨Q, h1, h2⟩ := h.op hl 1
  exact (add_any _ _ _ ha hb wr Q h1).mono fun er w' hh => ⟨hh.1, h2 w' hh.2⟩
theorem o_sub {a b : List Int} (ha : Lim a) (hb : Lim b) : ∃ x, Lim x ∧ num x = (num a + (P - num b)) % P ∧
    Hid (∀ B w rv l bx wr, Ev B w rv l bx wr → l.length ≤ 1000000 → Calls Try.prog 27 #[rv, .agg (VI .u64 a), .agg (VI .u64 b)] wr fun e w' => e = .returned (.agg (VI .u64 x)) ∧ Ev B w rv (l ++ [(3, 2)]) bx w') := by
  refine ⟨_, subs_lim ha hb, num_sub ha hb, fun B w rv l bx wr h hl => ?_⟩
  obtain ⟨Q, h1, h2⟩ := h.op hl 2
  exact (sub_any _ _ _ ha hb wr Q h1).mono fun er w' hh => ⟨hh.1, h2 w' hh.2⟩
theorem o_mul {a b : List Int} (ha : Lim a) (hb : Lim b) : ∃ x, Lim x ∧ num x = num a * num b % P ∧
    Hid (∀ B w rv l bx wr, Ev B w rv l bx wr → l.length ≤ 1000000 → Calls Try.prog 16 #[rv, .agg (VI .u64 a), .agg (VI .u64 b)] wr fun e w' => e = .returned (.agg (VI .u64 x)) ∧ Ev B w rv (l ++ [(3, 3)]) bx w') := by
  refine ⟨_, prod_lim ha hb, num_prod ha hb, fun B w rv l bx wr h hl => ?_⟩
  obtain ⟨Q, h1, h2⟩ := h.op hl 3
  exact (mul_any _ _ _ ha hb wr Q h1).mono fun er w' hh => ⟨hh.1, h2 w' hh.2⟩
theorem o_square {a : List Int} (ha : Lim a) : ∃ x, Lim x ∧ num x = num a * num a % P ∧
    Hid (∀ B w rv l bx wr, Ev B w rv l bx wr → l.length ≤ 1000000 → Calls Try.prog 26 #[rv, .agg (VI .u64 a)] wr fun e w' => e = .returned (.agg (VI .u64 x)) ∧ Ev B w rv (l ++ [(3, 4)]) bx w') := by
  refine ⟨_, prod_lim ha ha, num_prod ha ha, fun B w rv l bx wr h hl => ?_⟩
  obtain ⟨Q, h1, h2⟩ := h.op hl 4
  exact (square_any _ _ ha wr Q h1).mono fun er w' hh => ⟨hh.1, h2 w' hh.2⟩
theorem o_scale {a : List Int} (ha : Lim a) : ∃ x, Lim x ∧ num x = num a * 121665 % P ∧
    Hid (∀ B w rv l bx wr, Ev B w rv l bx wr → l.length ≤ 1000000 → Calls Try.prog 28 #[rv, .agg (VI .u64 a), .int .u32 121665] wr fun e w' => e = .returned (.agg (VI .u64 x)) ∧ Ev B w rv (l ++ [(3, 5)]) bx w') := by
  have hs : Lim [121665, 0, 0, 0, 0] := lim_small 121665 (by decide) (by decide)
  have hn : num (prod a [121665, 0, 0, 0, 0]) = num a * 121665 % P := by
    rw [num_prod ha hs]
    have := num_small 121665 (by decide)
    rw [show ([121665, 0, 0, 0, 0] : List Int) = [((121665 : Nat) : Int), 0, 0, 0, 0] from rfl, this]
  refine ⟨_, prod_lim ha hs, hn, fun B w rv l bx wr h hl => ?_⟩
  obtain ⟨Q, h1, h2⟩ := h.op hl 5
  exact (scale_any _ _ 121665 (by decide) (by decide) ha wr Q h1).mono fun er w' hh => ⟨hh.1, h2 w' hh.2⟩
theorem o_invert {a : List Int} (ha : Lim a) : ∃ x, Lim x ∧ num x = qwn (num a) 5 ∧
    Hid (∀ B w rv l bx wr, Ev B w rv l bx wr → l.length ≤ 1000000 → Calls Try.prog 17 #[rv, .agg (VI .u64 a)] wr fun e w' => e = .returned (.agg (VI .u64 x)) ∧ Ev B w rv (l ++ [(3, 6)]) bx w') := by
  refine ⟨_, qw_lim ha 5, num_qw ha 5, fun B w rv l bx wr h hl => ?_⟩
  obtain ⟨Q, h1, h2⟩ := h.op hl 6
  exact (invert_any _ _ ha wr Q h1).mono fun er w' hh => ⟨hh.1, h2 w' hh.2⟩
/-! a row in a block -/
theorem heap_setCells_other (b : Nat) : ∀ (vs : List Value) (o : Nat) (w : World) (k : Nat), k ≠ b → (w.setCells b o vs).heap[k]? = w.heap[k]?
  | [], _, _, _, _ => rfl
  | v :: r, o, w, k, h => by rw [World.setCells, heap_setCells_other b r _ _ k h, heap_setCell_other _ _ _ _ h]
theorem but_setCells (b : Nat) : ∀ (vs : List Value) (o : Nat) (w : World), But (fun k => k = b) w (w.setCells b o vs)
  | [], _, _ => But.refl _ _
  | v :: r, o, w => by
    rw [World.setCells]
    exact But.trans ((But.refl (fun k => k = b) w).setCell (p := ⟨b, o, none⟩) rfl v) (but_setCells b r _ _)
theorem VI_set (k : IntKind) (pre post : List Int) (y x : Int) : (VI k (pre ++ y :: post)).setIfInBounds pre.length (.int k x) = VI k (pre ++ x :: post) := by
  unfold VI
  rw [List.setIfInBounds_toArray]
  simp [List.set_append_right]
theorem heap_setCells_mid (b : Nat) {T : TypeId} : ∀ (x old pre post : List Int) (w : World), old.length = x.length → w.heap[b]? = some (.cells (VI .u64 (pre ++ (old ++ post))) T (0, 0)) →
    (w.setCells b pre.length (x.map (Value.int .u64))).heap[b]? = some (.cells (VI .u64 (pre ++ (x ++ post))) T (0, 0))
  | [], old, pre, post, w, hl, h => by
    have : old = [] := List.length_eq_zero_iff.1 (by simpa using hl)
    subst this
    exact h
  | z :: x, [], pre, post, w, hl, h => by simp at hl
  | z :: x, y :: old, pre, post, w, hl, h => by
    rw [List.map_cons, World.setCells]
    have h1 := heap_setCell_same w b pre.length _ _ (Value.int .u64 z) h
    rw [List.cons_append, VI_set] at h1
    have h2 := heap_setCells_mid (T := T) b x old (pre ++ [z]) post _ (by simpa using hl) (by rw [h1]; simp)
    rw [List.length_append] at h2
    simpa using h2
theorem range_mid {w : World} {b : Nat} {T : TypeId} {pre a post : List Int} (h : w.heap[b]? = some (.cells (VI .u64 (pre ++ (a ++ post))) T (0, 0))) : w.rangeAt b pre.length (a.map (Value.int .u64)) := by
  intro j v hv
  rw [cell_of_row w b (pre.length + j) _ T (0, 0) h]
  rw [List.getElem?_map] at hv
  cases hj : a[j]? with
  | none => rw [hj] at hv; cases hv
  | some x =>
    rw [hj] at hv
    have hlt : j < a.length := (List.getElem?_eq_some_iff.1 hj).1
    simp only [VI, List.getElem?_toArray, List.getElem?_map]
    rw [List.getElem?_append_right (by omega), Nat.add_sub_cancel_left, List.getElem?_append_left hlt, hj]
    exact hv
theorem there_mid {w : World} {b : Nat} {T : TypeId} {cs : Array Value} (h : w.heap[b]? = some (.cells cs T (0, 0))) (o n : Nat) (hn : o + n ≤ cs.size) : w.there b o n := by
  intro j hj
  refine ⟨?_, by simp [World.frozen?, h]⟩
  rw [cell_of_row w b (o + j) _ T (0, 0) h]
  simp; omega
/-- an Element's box; the four of the ladder -/
abbrev bxE (x : List Int) : Obj := .cells (VI .u64 x) 39
abbrev bxK (x : List Int) : Obj := .cells (VI .u8 x) 23
def ro (a b c d : List Int) : Obj := .cells (VI .u64 (a ++ (b ++ (c ++ d)))) 42
theorem infoE5 {x : List Int} (h : x.length = 5) : (Try.prog.info? 39).map (·.size) = some x.length := by rw [h]; kernel_rfl
theorem infoE5' {x : List Int} (h : x.length = 5) : (Try.prog.info? 39).map (·.size) = some (VI .u64 x).size := by rw [VI_size, h]; kernel_rfl
section
variable {w : World} {T : Nat} {a b c d : List Int} (ha : a.length = 5) (hb : b.length = 5) (hc : c.length = 5) (hd : d.length = 5) (h : w.heap[T]? = some (ro a b c d))
include ha hb hc hd h
theorem ro_0 : w.rangeAt T 0 (a.map (Value.int .u64)) := range_mid (pre := []) h
theorem ro_5 : w.rangeAt T 5 (b.map (Value.int .u64)) := by have := range_mid (pre := a) h; rwa [ha] at this
theorem ro_10 : w.rangeAt T 10 (c.map (Value.int .u64)) := by
  have := range_mid (pre := a ++ b) (a := c) (post := d) (by unfold ro at h; simpa using h); rwa [List.length_append, ha, hb] at this
theorem ro_15 : w.rangeAt T 15 (d.map (Value.int .u64)) := by
  have := range_mid (pre := a ++ (b ++ c)) (a := d) (post := []) (by unfold ro at h; simpa using h); rwa [List.length_append, List.length_append, ha, hb, hc] at this
theorem ro_th (o : Nat) (ho : o ≤ 15) : w.there T o 5 := there_mid h o 5 (by rw [VI_size]; simp [ha, hb, hc, hd]; omega)
variable {x : List Int} (hx : x.length = 5)
include hx
theorem ro_s0 : (w.setCells T 0 (x.map (Value.int .u64))).heap[T]? = some (ro x b c d) := heap_setCells_mid T x a [] (b ++ (c ++ d)) w (ha.trans hx.symm) h
theorem ro_s5 : (w.setCells T 5 (x.map (Value.int .u64))).heap[T]? = some (ro a x c d) := by have := heap_setCells_mid T x b a (c ++ d) w (hb.trans hx.symm) h; rwa [ha] at this
theorem ro_s10 : (w.setCells T 10 (x.map (Value.int .u64))).heap[T]? = some (ro a b x d) := by
  have := heap_setCells_mid T x c (a ++ b) d w (hc.trans hx.symm) (by unfold ro at h; simpa using h)
  rw [List.length_append, ha, hb] at this
  unfold ro; simpa using this
theorem ro_s15 : (w.setCells T 15 (x.map (Value.int .u64))).heap[T]? = some (ro a b c x) := by
  have := heap_setCells_mid T x d (a ++ (b ++ c)) [] w (hd.trans hx.symm) (by unfold ro at h; simpa using h)
  rw [List.length_append, List.length_append, ha, hb, hc] at this
  unfold ro; simpa using this
end
theorem whole_set {w : World} {g : Nat} {z x : List Int} (h : w.heap[g]? = some (bxE z)) (hl : z.length = x.length) : (w.setCells g 0 (x.map (Value.int .u64))).heap[g]? = some (bxE x) := by
  have := heap_setCells_mid g x z [] [] w hl (by simpa using h)
  simpa using this
theorem zeroE : VI .u64 [0, 0, 0, 0, 0] = #[.int .u64 0, .int .u64 0, .int .u64 0, .int .u64 0, .int .u64 0] := rfl
end Go.Proofs.Ytlffamcifahbjab
