import Derived.Test.YtefnlaookmpbhaaStrM
import Derived.Test.YtefnlaookmpbhaaTrC
namespace Go.Proofs.Ytefnlaookmpbhaa
set_option linter.unusedSimpArgs false
set_option linter.unusedVariables false
open Go.ChangeShapes Go.WideShapes Go.ChangeAt Go.RowKit Go.Pin Go.Str
/-- a Recorder, or none, and boxes beside it, all from B on -/
structure Ev (B : Nat) (w : World) (rv : Value) (l : List (Int × Int)) (bx : List (Nat × Obj)) (wr : World) : Prop where
  old : Below B w wr
  le : B ≤ wr.heap.size
  ge : ∀ p ∈ bx, B ≤ p.1
  at' : ∀ p ∈ bx, wr.heap[p.1]? = some p.2
  rc : rv = .pointer none ∨ ∃ R vs, rv = .pointer (some ⟨R, 0, none⟩) ∧ Rec B wr R vs l ∧ ∀ p ∈ bx, ¬ Blk R vs p.1
theorem heap_lt {w : World} {g : Nat} {o : Obj} (h : w.heap[g]? = some o) : g < w.heap.size := (Array.getElem?_eq_some_iff.1 h).1
section
variable {B : Nat} {w : World} {rv : Value} {l : List (Int × Int)} {bx : List (Nat × Obj)} {wr w' : World}
theorem Ev.row (h : Ev B w rv l bx wr) {g : Nat} {x : Obj} (hp : (g, x) ∈ bx) : wr.heap[g]? = some x := h.at' _ hp
theorem Ev.lt (h : Ev B w rv l bx wr) {g : Nat} {x : Obj} (hp : (g, x) ∈ bx) : g < wr.heap.size := heap_lt (h.row hp)
theorem Ev.below (h : Ev B w rv l bx wr) (hb : Below wr.heap.size wr w') : Ev B w rv l bx w' := by
  refine ⟨h.old.trans (hb.mono h.le), Nat.le_trans h.le hb.size, h.ge, fun p hp => (hb.block _ (heap_lt (h.at' p hp))).trans (h.at' p hp), ?_⟩
  rcases h.rc with e | ⟨R, vs, e, h2, h3⟩
  · exact .inl e
  · exact .inr ⟨R, vs, e, h2.below hb, h3⟩
theorem Ev.drew (h : Ev B w rv l bx wr) : Ev B w rv l bx wr.drew := h.below ⟨rfl, rfl, rfl, Nat.le_refl _, fun _ _ => rfl⟩
theorem Ev.sub (h : Ev B w rv l bx wr) {by' : List (Nat × Obj)} (hs : ∀ p ∈ by', p ∈ bx) : Ev B w rv l by' wr := by
  refine ⟨h.old, h.le, fun p hp => h.ge p (hs p hp), fun p hp => h.at' p (hs p hp), ?_⟩
  rcases h.rc with e | ⟨R, vs, e, h2, h3⟩
  · exact .inl e
  · exact .inr ⟨R, vs, e, h2, fun p hp => h3 p (hs p hp)⟩
theorem Ev.new (h : Ev B w rv l bx wr) (x : Obj) : Ev B w rv l ((wr.heap.size, x) :: bx) (wr.alloc x) := by
  have hb : Below wr.heap.size wr (wr.alloc x) := (Below.refl _ _).alloc (Nat.le_refl _) _
  have h' := h.below hb
  refine ⟨h'.old, h'.le, fun p hp => ?_, fun p hp => ?_, ?_⟩
  · rcases List.mem_cons.1 hp with rfl | hp
    · exact h.le
    · exact h.ge p hp
  · rcases List.mem_cons.1 hp with rfl | hp
    · simp only [heap_alloc_any, if_true]
    · exact h'.at' p hp
  · rcases h.rc with e | ⟨R, vs, e, h2, h3⟩
    · exact .inl e
    · refine .inr ⟨R, vs, e, h2.below hb, fun p hp => ?_⟩
      rcases List.mem_cons.1 hp with rfl | hp
      · intro hk; have := h2.lt _ hk; simp at this
      · exact h3 p hp
/-- a box is written, memory may be made -/
theorem Ev.set (h : Ev B w rv l bx wr) {g : Nat} {o y : Obj} {b2 : List (Nat × Obj)} (e : bx = (g, o) :: b2) (hne : ∀ p ∈ b2, p.1 ≠ g) (hb : Grow (fun k => k = g) wr w') (hy : w'.heap[g]? = some y) : Ev B w rv l ((g, y) :: b2) w' := by
  subst e
  have hg : B ≤ g := h.ge (g, o) (by simp)
  refine ⟨h.old.trans (hb.below (fun k hk => by omega) h.le), Nat.le_trans h.le hb.size, fun p hp => ?_, fun p hp => ?_, ?_⟩
  · rcases List.mem_cons.1 hp with rfl | hp
    · exact hg
    · exact h.ge p (by simp [hp])
  · rcases List.mem_cons.1 hp with rfl | hp
    · exact hy
    · exact (hb.block _ (heap_lt (h.at' p (by simp [hp]))) (hne p hp)).trans (h.at' p (by simp [hp]))
  · rcases h.rc with e | ⟨R, vs, e, h2, h3⟩
    · exact .inl e
    · refine .inr ⟨R, vs, e, h2.grow hb (fun k hk hn => by subst hn; exact h3 (k, o) (by simp) hk), fun p hp => ?_⟩
      rcases List.mem_cons.1 hp with rfl | hp
      · exact h3 (g, o) (by simp)
      · exact h3 p (by simp [hp])
end
set_option maxRecDepth 100000 in
theorem rAt_any (B R : Nat) (vs : Value) (l : List (Int × Int)) (v : Int) (w : World) (h : Rec B w R vs l) (hl : l.length ≤ 1000000) :
    Calls Try.prog 31 #[.pointer (some ⟨R, 0, none⟩), .int .i64 v] w fun e w' => e = .returned (.int .i64 v) ∧ Logged B R vs l (2, v) w w' := by
  have HR : Hid _ := h
  have HL : Hid _ := hl
  clear h hl
  go_enter Try.func31, Try.ntmps31
  go_wp2_with (first | (go_at_call 39; refine (rlog_any B R vs l _ _ _ HR.out HL.out).mono ?_; rintro e w' ⟨rfl, hw⟩))
  go_ret
  exact ⟨rfl, hw⟩
set_option maxRecDepth 100000 in
theorem rIf_any (B R : Nat) (vs : Value) (l : List (Int × Int)) (b : Bool) (w : World) (h : Rec B w R vs l) (hl : l.length ≤ 1000000) :
    Calls Try.prog 30 #[.pointer (some ⟨R, 0, none⟩), .bool b] w fun e w' => e = .returned (.bool b) ∧ Logged B R vs l (1, if b then 1 else 0) w w' := by
  have HR : Hid _ := h
  have HL : Hid _ := hl
  clear h hl
  cases b
  all_goals
    go_enter Try.func30, Try.ntmps30
    go_wp2_with (first | (go_at_call 39; refine (rlog_any B R vs l _ _ _ HR.out HL.out).mono ?_; rintro e w' ⟨rfl, hw⟩))
    go_ret
    exact ⟨rfl, hw⟩
set_option maxRecDepth 100000 in
theorem rIf_nil (b : Bool) (w : World) : Calls Try.prog 30 #[.pointer none, .bool b] w fun e w' => e = .returned (.bool b) ∧ w' = w := by
  cases b
  all_goals
    go_enter Try.func30, Try.ntmps30
    go_wp2_with (first | (go_at_call 39; refine (rlog_nil _ _ _).mono ?_; rintro e w' ⟨rfl, rfl⟩))
    go_ret
    exact ⟨rfl, rfl⟩
set_option maxRecDepth 100000 in
theorem rAt_nil (v : Int) (w : World) : Calls Try.prog 31 #[.pointer none, .int .i64 v] w fun e w' => e = .returned (.int .i64 v) ∧ w' = w := by
  go_enter Try.func31, Try.ntmps31
  go_wp2_with (first | (go_at_call 39; refine (rlog_nil _ _ _).mono ?_; rintro e w' ⟨rfl, rfl⟩))
  go_ret
  exact ⟨rfl, rfl⟩
section
variable {B : Nat} {w : World} {rv : Value} {l : List (Int × Int)} {bx : List (Nat × Obj)} {wr : World}
/-- what logs an event if there is a Recorder, and does nothing if there is none -/
theorem Ev.logs (h : Ev B w rv l bx wr) (f : Nat) (x : Value) (ret : Value) (ev : Int × Int)
    (h0 : rv = .pointer none → Calls Try.prog f #[.pointer none, x] wr fun e w' => e = .returned ret ∧ w' = wr)
    (h1 : ∀ R vs, rv = .pointer (some ⟨R, 0, none⟩) → Rec B wr R vs l → Calls Try.prog f #[.pointer (some ⟨R, 0, none⟩), x] wr fun e w' => e = .returned ret ∧ Logged B R vs l ev wr w') :
    Calls Try.prog f #[rv, x] wr fun e w' => e = .returned ret ∧ Ev B w rv (l ++ [ev]) bx w' := by
  rcases h.rc with e | ⟨R, vs, e, h2, h3⟩
  · rw [e]
    refine (h0 e).mono ?_
    rintro _ w' ⟨rfl, rfl⟩
    exact ⟨rfl, h.old, h.le, h.ge, h.at', .inl rfl⟩
  · rw [e]
    refine (h1 R vs e h2).mono ?_
    rintro _ w' ⟨rfl, vs', g1, g2, g3⟩
    refine ⟨rfl, h.old.trans (g2.below h2.ge h.le), Nat.le_trans h.le g2.size, h.ge, fun p hp => (g2.block _ (heap_lt (h.at' p hp)) (h3 p hp)).trans (h.at' p hp), .inr ⟨R, vs', rfl, g1, fun p hp hk => ?_⟩⟩
    have hlt : p.1 < wr.heap.size := heap_lt (h.at' p hp)
    rcases hk with hk | hk
    · exact h3 p hp (.inl hk)
    · rcases g3 with g3 | ⟨g, g3, hge⟩
      · exact h3 p hp (.inr (g3 ▸ hk))
      · rw [g3] at hk; injection hk with hk; omega
theorem v_op (h : Ev B w rv l bx wr) (hl : l.length ≤ 1000000) (v : Int) : Calls Try.prog 26 #[rv, .int .i64 v] wr fun e w' => e = .returned (.tuple #[]) ∧ Ev B w rv (l ++ [(3, v)]) bx w' :=
  h.logs _ _ _ _ (fun _ => rOp_nil v wr) (fun R vs _ hr => rOp_any B R vs l v wr hr hl)
theorem v_at (h : Ev B w rv l bx wr) (hl : l.length ≤ 1000000) (v : Int) : Calls Try.prog 31 #[rv, .int .i64 v] wr fun e w' => e = .returned (.int .i64 v) ∧ Ev B w rv (l ++ [(2, v)]) bx w' :=
  h.logs _ _ _ _ (fun _ => rAt_nil v wr) (fun R vs _ hr => rAt_any B R vs l v wr hr hl)
theorem v_if (h : Ev B w rv l bx wr) (hl : l.length ≤ 1000000) (b : Bool) : Calls Try.prog 30 #[rv, .bool b] wr fun e w' => e = .returned (.bool b) ∧ Ev B w rv (l ++ [(1, if b then 1 else 0)]) bx w' :=
  h.logs _ _ _ _ (fun _ => rIf_nil b wr) (fun R vs _ hr => rIf_any B R vs l b wr hr hl)
theorem ev_nil (w : World) (bx : List (Nat × Obj)) (h : ∀ p ∈ bx, w.heap[p.1]? = some p.2) (l : List (Int × Int)) : Ev 0 w (.pointer none) l bx w :=
  ⟨Below.refl _ _, Nat.zero_le _, fun _ _ => Nat.zero_le _, h, .inl rfl⟩
theorem ev_nil' (w : World) : Ev w.heap.size w (.pointer none) [] [] w :=
  ⟨Below.refl _ _, Nat.le_refl _, by simp, by simp, .inl rfl⟩
theorem ev_new (w : World) : Ev w.heap.size w (.pointer (some ⟨w.heap.size, 0, none⟩)) [] [] (w.alloc (.cells #[.slice none 0 0, .int .i64 0] 60)) :=
  ⟨(Below.refl _ _).alloc (Nat.le_refl _) _, by simp, by simp, by simp, .inr ⟨_, _, rfl, rec_new w, by simp⟩⟩
/-- without a Recorder the log is any one; the boxes another Recorder's -/
theorem Ev.nilOf (h : Ev B w rv l bx wr) (m : List (Int × Int)) : Ev B w (.pointer none) m bx wr := ⟨h.old, h.le, h.ge, h.at', .inl rfl⟩
end
end Go.Proofs.Ytefnlaookmpbhaa
