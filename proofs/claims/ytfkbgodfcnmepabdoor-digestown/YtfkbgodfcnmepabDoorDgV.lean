import Derived.Test.YtfkbgodfcnmepabDoorDigI
import Derived.Test.YtfkbgodfcnmepabDoorTrD
import Derived.Laws.IdiomCopy
import Derived.Lib.SliceRun
import Derived.Laws.Cover3
namespace Go.Proofs.YtfkbgodfcnmepabDoor
set_option linter.unusedSimpArgs false
set_option linter.unusedVariables false
open Go.ChangeShapes Go.WideShapes Go.ChangeAt Go.RowKit Go.Pin Go.Str Go.Dig
abbrev Byt (b : List Int) : Prop := Byb b
section
variable {α : Type} {a b c d e f : α} {l : List α}
theorem mem0 : a ∈ a :: l := List.mem_cons_self ..
theorem mem1 : b ∈ a :: b :: l := List.mem_cons_of_mem _ mem0
theorem mem2 : c ∈ a :: b :: c :: l := List.mem_cons_of_mem _ mem1
theorem mem3 : d ∈ a :: b :: c :: d :: l := List.mem_cons_of_mem _ mem2
theorem mem4 : e ∈ a :: b :: c :: d :: e :: l := List.mem_cons_of_mem _ mem3
theorem mem5 : f ∈ a :: b :: c :: d :: e :: f :: l := List.mem_cons_of_mem _ mem4
theorem memr1 (h : b ∈ l) : b ∈ a :: l := List.mem_cons_of_mem _ h
theorem memr2 (h : c ∈ l) : c ∈ a :: b :: l := List.mem_cons_of_mem _ (memr1 h)
theorem memr3 (h : d ∈ l) : d ∈ a :: b :: c :: l := List.mem_cons_of_mem _ (memr2 h)
theorem memr4 (h : e ∈ l) : e ∈ a :: b :: c :: d :: l := List.mem_cons_of_mem _ (memr3 h)
end
theorem heap_lt {w : World} {g : Nat} {o : Obj} (h : w.heap[g]? = some o) : g < w.heap.size := (Array.getElem?_eq_some_iff.1 h).1
theorem Grow.but {S : Nat → Prop} {a w w' : World} (h : Grow S a w) {T : Nat → Prop} (hb : But T w w') (hT : ∀ k, T k → S k ∨ a.heap.size ≤ k) : Grow S a w' :=
  ⟨hb.os.trans h.os, hb.tape.trans h.tape, hb.output.trans h.output, by rw [hb.size]; exact h.size, fun k hk hn => (hb.block k (fun ht => by rcases hT k ht with h1 | h1; exact hn h1; omega)).trans (h.block k hk hn)⟩
theorem Grow.bel {S : Nat → Prop} {a w w' : World} (h : Grow S a w) (hb : Below w.heap.size w w') : Grow S a w' := h.trans (Grow.of_below hb)
/-- a Recorder, or none, and boxes beside it, all from B on -/
structure Ev (B : Nat) (w : World) (rv : Value) (l : List (Int × Int)) (bx : List (Nat × Obj)) (wr : World) : Prop where
  old : Below B w wr
  le : B ≤ wr.heap.size
  ge : ∀ p ∈ bx, B ≤ p.1
  at' : ∀ p ∈ bx, wr.heap[p.1]? = some p.2
  rc : rv = .pointer none ∨ ∃ R vs, rv = .pointer (some ⟨R, 0, none⟩) ∧ Rec B wr R vs l ∧ ∀ p ∈ bx, ¬ Blk R vs p.1
section
variable {B : Nat} {w : World} {rv : Value} {l : List (Int × Int)} {bx : List (Nat × Obj)} {wr w' : World}
theorem Ev.row (h : Ev B w rv l bx wr) {g : Nat} {x : Obj} (hp : (g, x) ∈ bx) : wr.heap[g]? = some x := h.at' _ hp
theorem Ev.lt (h : Ev B w rv l bx wr) {g : Nat} {x : Obj} (hp : (g, x) ∈ bx) : g < wr.heap.size := heap_lt (h.row hp)
theorem Ev.below (h : Ev B w rv l bx wr) (hb : Below wr.heap.size wr w') : Ev B w rv l bx w' := by
  refine ⟨h.old.trans (hb.mono h.le), Nat.le_trans h.le hb.size, h.ge, fun p hp => (hb.block _ (heap_lt (h.at' p hp))).trans (h.at' p hp), ?_⟩
  rcases h.rc with e | ⟨R, vs, e, h2, h3⟩
  · exact .inl e
  · exact .inr ⟨R, vs, e, h2.below hb, h3⟩
theorem Ev.drew (h : Ev B w rv l bx wr) : Ev B w rv l bx wr.drew := h.below ⟨rfl, rfl, rfl, Nat.le_refl _, fun _ _ => rfl⟩
theorem Ev.sub (h : Ev B w rv l bx wr) {by' : List (Nat × Obj)} (hs : ∀ p ∈ by', p ∈ bx) : Ev B w rv l by' wr := by
  refine ⟨h.old, h.le, fun p hp => h.ge p (hs p hp), fun p hp => h.at' p (hs p hp), ?_⟩
  rcases h.rc with e | ⟨R, vs, e, h2, h3⟩
  · exact .inl e
  · exact .inr ⟨R, vs, e, h2, fun p hp => h3 p (hs p hp)⟩
theorem Ev.new (h : Ev B w rv l bx wr) (x : Obj) : Ev B w rv l ((wr.heap.size, x) :: bx) (wr.alloc x) := by
  have hb : Below wr.heap.size wr (wr.alloc x) := (Below.refl _ _).alloc (Nat.le_refl _) _
  have h' := h.below hb
  refine ⟨h'.old, h'.le, fun p hp => ?_, fun p hp => ?_, ?_⟩
  · rcases List.mem_cons.1 hp with rfl | hp
    · exact h.le
    · exact h.ge p hp
  · rcases List.mem_cons.1 hp with rfl | hp
    · simp only [heap_alloc_any, if_true]
    · exact h'.at' p hp
  · rcases h.rc with e | ⟨R, vs, e, h2, h3⟩
    · exact .inl e
    · refine .inr ⟨R, vs, e, h2.below hb, fun p hp => ?_⟩
      rcases List.mem_cons.1 hp with rfl | hp
      · intro hk; have := h2.lt _ hk; simp at this
      · exact h3 p hp
/-- a box is written, memory may be made -/
theorem Ev.set (h : Ev B w rv l bx wr) {g : Nat} {o y : Obj} {b2 : List (Nat × Obj)} (e : bx = (g, o) :: b2) (hne : ∀ p ∈ b2, p.1 ≠ g) (hb : Grow (fun k => k = g) wr w') (hy : w'.heap[g]? = some y) : Ev B w rv l ((g, y) :: b2) w' := by
  subst e
  have hg : B ≤ g := h.ge (g, o) (by simp)
  refine ⟨h.old.trans (hb.below (fun k hk => by omega) h.le), Nat.le_trans h.le hb.size, fun p hp => ?_, fun p hp => ?_, ?_⟩
  · rcases List.mem_cons.1 hp with rfl | hp
    · exact hg
    · exact h.ge p (by simp [hp])
  · rcases List.mem_cons.1 hp with rfl | hp
    · exact hy
    · exact (hb.block _ (heap_lt (h.at' p (by simp [hp]))) (hne p hp)).trans (h.at' p (by simp [hp]))
  · rcases h.rc with e | ⟨R, vs, e, h2, h3⟩
    · exact .inl e
    · refine .inr ⟨R, vs, e, h2.grow hb (fun k hk hn => by subst hn; exact h3 (k, o) (by simp) hk), fun p hp => ?_⟩
      rcases List.mem_cons.1 hp with rfl | hp
      · exact h3 (g, o) (by simp)
      · exact h3 p (by simp [hp])
end
set_option maxRecDepth 100000 in
theorem rAt_any (B R : Nat) (vs : Value) (l : List (Int × Int)) (v : Int) (w : World) (h : Rec B w R vs l) (hl : l.length ≤ 1000000) :
    Calls Tryd.prog 19 #[.pointer (some ⟨R, 0, none⟩), .int .i64 v] w fun e w' => e = .returned (.int .i64 v) ∧ Logged B R vs l (2, v) w w' := by
  have HR : Hid _ := h
  have HL : Hid _ := hl
  clear h hl
  go_enter Tryd.func19, Tryd.ntmps19
  go_wp2_with (first | (go_at_call 24; refine (rlog_any B R vs l _ _ _ HR.out HL.out).mono ?_; rintro e w' ⟨rfl, hw⟩))
  go_ret
  exact ⟨rfl, hw⟩
set_option maxRecDepth 100000 in
theorem rIf_any (B R : Nat) (vs : Value) (l : List (Int × Int)) (b : Bool) (w : World) (h : Rec B w R vs l) (hl : l.length ≤ 1000000) :
    Calls Tryd.prog 16 #[.pointer (some ⟨R, 0, none⟩), .bool b] w fun e w' => e = .returned (.bool b) ∧ Logged B R vs l (1, if b then 1 else 0) w w' := by
  have HR : Hid _ := h
  have HL : Hid _ := hl
  clear h hl
  cases b
  all_goals
    go_enter Tryd.func16, Tryd.ntmps16
    go_wp2_with (first | (go_at_call 24; refine (rlog_any B R vs l _ _ _ HR.out HL.out).mono ?_; rintro e w' ⟨rfl, hw⟩))
    go_ret
    exact ⟨rfl, hw⟩
set_option maxRecDepth 100000 in
theorem rIf_nil (b : Bool) (w : World) : Calls Tryd.prog 16 #[.pointer none, .bool b] w fun e w' => e = .returned (.bool b) ∧ w' = w := by
  cases b
  all_goals
    go_enter Tryd.func16, Tryd.ntmps16
    go_wp2_with (first | (go_at_call 24; refine (rlog_nil _ _ _).mono ?_; rintro e w' ⟨rfl, rfl⟩))
    go_ret
    exact ⟨rfl, rfl⟩
set_option maxRecDepth 100000 in
theorem rAt_nil (v : Int) (w : World) : Calls Tryd.prog 19 #[.pointer none, .int .i64 v] w fun e w' => e = .returned (.int .i64 v) ∧ w' = w := by
  go_enter Tryd.func19, Tryd.ntmps19
  go_wp2_with (first | (go_at_call 24; refine (rlog_nil _ _ _).mono ?_; rintro e w' ⟨rfl, rfl⟩))
  go_ret
  exact ⟨rfl, rfl⟩
section
variable {B : Nat} {w : World} {rv : Value} {l : List (Int × Int)} {bx : List (Nat × Obj)} {wr : World}
/-- what logs an event if there is a Recorder, and does nothing if there is none -/
theorem Ev.logs (h : Ev B w rv l bx wr) (f : Nat) (x : Value) (ret : Value) (ev : Int × Int)
    (h0 : rv = .pointer none → Calls Tryd.prog f #[.pointer none, x] wr fun e w' => e = .returned ret ∧ w' = wr)
    (h1 : ∀ R vs, rv = .pointer (some ⟨R, 0, none⟩) → Rec B wr R vs l → Calls Tryd.prog f #[.pointer (some ⟨R, 0, none⟩), x] wr fun e w' => e = .returned ret ∧ Logged B R vs l ev wr w') :
    Calls Tryd.prog f #[rv, x] wr fun e w' => e = .returned ret ∧ Ev B w rv (l ++ [ev]) bx w' := by
  rcases h.rc with e | ⟨R, vs, e, h2, h3⟩
  · rw [e]
    refine (h0 e).mono ?_
    rintro _ w' ⟨rfl, rfl⟩
    exact ⟨rfl, h.old, h.le, h.ge, h.at', .inl rfl⟩
  · rw [e]
    refine (h1 R vs e h2).mono ?_
    rintro _ w' ⟨rfl, vs', g1, g2, g3⟩
    refine ⟨rfl, h.old.trans (g2.below h2.ge h.le), Nat.le_trans h.le g2.size, h.ge, fun p hp => (g2.block _ (heap_lt (h.at' p hp)) (h3 p hp)).trans (h.at' p hp), .inr ⟨R, vs', rfl, g1, fun p hp hk => ?_⟩⟩
    have hlt : p.1 < wr.heap.size := heap_lt (h.at' p hp)
    rcases hk with hk | hk
    · exact h3 p hp (.inl hk)
    · rcases g3 with g3 | ⟨g, g3, hge⟩
      · exact h3 p hp (.inr (g3 ▸ hk))
      · rw [g3] at hk; injection hk with hk; omega
theorem v_op (h : Ev B w rv l bx wr) (hl : rv ≠ .pointer none → l.length ≤ 1000000) (v : Int) : Calls Tryd.prog 17 #[rv, .int .i64 v] wr fun e w' => e = .returned (.tuple #[]) ∧ Ev B w rv (l ++ [(3, v)]) bx w' :=
  h.logs _ _ _ _ (fun _ => rOp_nil v wr) (fun R vs e hr => rOp_any B R vs l v wr hr (hl (by rw [e]; intro k; cases k)))
theorem v_at (h : Ev B w rv l bx wr) (hl : rv ≠ .pointer none → l.length ≤ 1000000) (v : Int) : Calls Tryd.prog 19 #[rv, .int .i64 v] wr fun e w' => e = .returned (.int .i64 v) ∧ Ev B w rv (l ++ [(2, v)]) bx w' :=
  h.logs _ _ _ _ (fun _ => rAt_nil v wr) (fun R vs e hr => rAt_any B R vs l v wr hr (hl (by rw [e]; intro k; cases k)))
theorem v_if (h : Ev B w rv l bx wr) (hl : rv ≠ .pointer none → l.length ≤ 1000000) (b : Bool) : Calls Tryd.prog 16 #[rv, .bool b] wr fun e w' => e = .returned (.bool b) ∧ Ev B w rv (l ++ [(1, if b then 1 else 0)]) bx w' :=
  h.logs _ _ _ _ (fun _ => rIf_nil b wr) (fun R vs e hr => rIf_any B R vs l b wr hr (hl (by rw [e]; intro k; cases k)))
theorem ev_nil (w : World) (bx : List (Nat × Obj)) (h : ∀ p ∈ bx, w.heap[p.1]? = some p.2) (l : List (Int × Int)) : Ev 0 w (.pointer none) l bx w :=
  ⟨Below.refl _ _, Nat.zero_le _, fun _ _ => Nat.zero_le _, h, .inl rfl⟩
theorem ev_nil' (w : World) : Ev w.heap.size w (.pointer none) [] [] w :=
  ⟨Below.refl _ _, Nat.le_refl _, by simp, by simp, .inl rfl⟩
theorem ev_new (w : World) : Ev w.heap.size w (.pointer (some ⟨w.heap.size, 0, none⟩)) [] [] (w.alloc (.cells #[.slice none 0 0, .int .i64 0] 65)) :=
  ⟨(Below.refl _ _).alloc (Nat.le_refl _) _, by simp, by simp, by simp, .inr ⟨_, _, rfl, rec_new w, by simp⟩⟩
/-- without a Recorder the log is any one; the boxes another Recorder's -/
theorem Ev.nilOf (h : Ev B w rv l bx wr) (m : List (Int × Int)) : Ev B w (.pointer none) m bx wr := ⟨h.old, h.le, h.ge, h.at', .inl rfl⟩
end

section
variable {B : Nat} {w : World} {rv : Value} {l : List (Int × Int)} {bx : List (Nat × Obj)} {wr : World}
theorem Ev.cast (h : Ev B w rv l bx wr) {l' : List (Int × Int)} (e : l = l') : Ev B w rv l' bx wr := e ▸ h
theorem Ev.fresh (h : Ev B w rv l bx wr) {W' : World} (hb : Below wr.heap.size wr W') {g : Nat} (hg : wr.heap.size ≤ g) {x : Obj} (hx : W'.heap[g]? = some x) : Ev B w rv l ((g, x) :: bx) W' := by
  have h' := h.below hb
  refine ⟨h'.old, h'.le, fun p hp => ?_, fun p hp => ?_, ?_⟩
  · rcases List.mem_cons.1 hp with rfl | hp
    · exact Nat.le_trans h.le hg
    · exact h.ge p hp
  · rcases List.mem_cons.1 hp with rfl | hp
    · exact hx
    · exact h'.at' p hp
  · rcases h.rc with e | ⟨R, vs, e, h2, h3⟩
    · exact .inl e
    · refine .inr ⟨R, vs, e, h2.below hb, fun p hp => ?_⟩
      rcases List.mem_cons.1 hp with rfl | hp
      · intro hk; have := h2.lt _ hk; simp only at this; omega
      · exact h3 p hp
end
/-! rows of any cells -/
theorem heap_setCells_row (g : Nat) {T : TypeId} : ∀ (q' q p t : List Value) (w : World), q'.length = q.length → w.heap[g]? = some (.cells (p ++ (q ++ t)).toArray T) → (w.setCells g p.length q').heap[g]? = some (.cells (p ++ (q' ++ t)).toArray T)
  | [], q, p, t, w, hl, h => by
    have : q = [] := List.length_eq_zero_iff.1 hl.symm
    subst this
    exact h
  | v :: r, [], p, t, w, hl, h => by simp at hl
  | v :: r, u :: q, p, t, w, hl, h => by
    have h1 : (w.setCell ⟨g, p.length, none⟩ v).heap[g]? = some (.cells ((p ++ [v]) ++ (q ++ t)).toArray T) := by
      rw [heap_setCell_same w _ _ _ _ _ h]
      congr 2
      simp [List.set_append]
    have := heap_setCells_row g r q (p ++ [v]) t _ (by simpa using hl) h1
    rw [World.setCells]
    simpa using this
theorem range_in {w : World} {g : Nat} {T : TypeId} {fr : Nat × Nat} {p q t : List Value} (h : w.heap[g]? = some (.cells (p ++ (q ++ t)).toArray T fr)) : w.rangeAt g p.length q := fun j v hv => by
  rw [cell_of_row w _ _ _ _ _ h]
  have hj := (List.getElem?_eq_some_iff.1 hv).1
  have e : (p ++ (q ++ t)).toArray[p.length + j]? = q[j]? := by simp [List.getElem?_append, hj, Nat.add_sub_cancel_left]
  rw [e, hv]
theorem there_in {w : World} {g : Nat} {T : TypeId} {p q t : List Value} (h : w.heap[g]? = some (.cells (p ++ (q ++ t)).toArray T (0, 0))) : w.there g p.length q.length := fun j hj => by
  refine ⟨?_, frozen_of_row w _ _ _ _ h⟩
  rw [range_in h j _ (List.getElem?_eq_getElem hj)]
  rfl
theorem but_setCells' (b : Nat) : ∀ (vs : List Value) (o : Nat) (w : World), But (fun k => k = b) w (w.setCells b o vs)
  | [], _, w => But.refl _ _
  | v :: r, o, w => by
    rw [World.setCells]
    exact but_trans ((But.refl (fun k => k = b) w).setCell (p := ⟨b, o, none⟩) rfl v) (but_setCells' b r _ _)
theorem grow_setCells (b : Nat) (vs : List Value) (o : Nat) (w : World) : Grow (fun k => k = b) w (w.setCells b o vs) := (Grow.refl _ w).but (but_setCells' b vs o w) (fun k hk => .inl hk)
/-! the Mac -/
def RdB (w : World) (v : Value) (D : List Int) : Prop :=
  ∃ a cap, v = .slice a D.length cap ∧ D.length ≤ cap ∧ (D = [] ∨ ∃ b o, a = some ⟨b, o, none⟩ ∧ w.rangeAt b o (D.map (Value.int .u8)))
/-- they are read in every world that has this memory -/
def Src (B : Nat) (w : World) (bx : List (Nat × Obj)) (v : Value) (D : List Int) : Prop :=
  ∃ a cap, v = .slice a D.length cap ∧ D.length ≤ cap ∧ (D = [] ∨ ∃ b o, a = some ⟨b, o, none⟩ ∧ ∀ W, Below B w W → (∀ q ∈ bx, W.heap[q.1]? = some q.2) → W.rangeAt b o (D.map (Value.int .u8)))
theorem Src.sub {B : Nat} {w : World} {bx by' : List (Nat × Obj)} {v : Value} {D : List Int} (h : Src B w bx v D) (hs : ∀ p ∈ bx, p ∈ by') : Src B w by' v D := by
  obtain ⟨a, cap, h1, h2, h3⟩ := h
  refine ⟨a, cap, h1, h2, ?_⟩
  rcases h3 with h3 | ⟨b, o, h3, h4⟩
  · exact .inl h3
  · exact .inr ⟨b, o, h3, fun W hW hq => h4 W hW (fun q hm => hq q (hs q hm))⟩
theorem rangeAt_block {w w' : World} {b o : Nat} {cs : List Value} (h : w.rangeAt b o cs) (hb : w'.heap[b]? = w.heap[b]?) : w'.rangeAt b o cs := fun j v hv => by
  rw [World.cell?_of_block (a := ⟨b, o + j, none⟩) hb]; exact h j v hv
theorem range_lt {w : World} {b o : Nat} {cs : List Value} (h : w.rangeAt b o cs) (h0 : 0 < cs.length) : b < w.heap.size := World.block_lt_of_cell? w _ (h 0 _ (List.getElem?_eq_getElem h0))
theorem RdB.src {w : World} {v : Value} {D : List Int} (h : RdB w v D) (bx : List (Nat × Obj)) : Src w.heap.size w bx v D := by
  obtain ⟨a, cap, h1, h2, h3⟩ := h
  refine ⟨a, cap, h1, h2, ?_⟩
  rcases h3 with h3 | ⟨b, o, h3, h4⟩
  · exact .inl h3
  · by_cases h0 : D = []
    · exact .inl h0
    · have hl := range_lt h4 (by rw [List.length_map]; exact List.length_pos_iff.2 h0)
      exact .inr ⟨b, o, h3, fun W hW _ => rangeAt_block h4 (hW.block b hl)⟩
theorem range_row' {W : World} {g : Nat} {L : List Int} {T : TypeId} {fr : Nat × Nat} (h : W.heap[g]? = some (.cells (VI .u8 L) T fr)) (o n : Nat) (ho : o + n ≤ L.length) : W.rangeAt g o (((L.drop o).take n).map (Value.int .u8)) := fun j v hv => by
  have hj : j < n := by have := (List.getElem?_eq_some_iff.1 hv).1; simp at this; omega
  rw [cell_of_row W _ _ _ _ _ h, VI_at _ _ _ (by omega), ← hv]
  simp [List.getElem?_take, hj, List.getElem?_drop, show o + j < L.length by omega]
/-- out of a box -/
theorem src_box {B : Nat} {w : World} {bx : List (Nat × Obj)} {g : Nat} {L : List Int} {T : TypeId} {fr : Nat × Nat} (hm : (g, Obj.cells (VI .u8 L) T fr) ∈ bx) (o n cap : Nat) (ho : o + n ≤ L.length) (hc : n ≤ cap) : Src B w bx (.slice (some ⟨g, o, none⟩) n cap) ((L.drop o).take n) := by
  have hl : ((L.drop o).take n).length = n := by simp; omega
  refine ⟨some ⟨g, o, none⟩, cap, by rw [hl], by rw [hl]; exact hc, .inr ⟨g, o, rfl, fun W _ hq => ?_⟩⟩
  exact range_row' (hq _ hm) o n ho
end Go.Proofs.YtfkbgodfcnmepabDoor
