import Derived.Test.YtgfamcadgahiiabPrmV
import Derived.Test.YtgfamcadgahiiabTrC
import Derived.Test.YtgfamcadgahiiabMacA
import Derived.Laws.IdiomCopy
import Derived.Lib.SliceRun
import Derived.Laws.Cover3
namespace Go.Proofs.Ytgfamcadgahiiab
set_option linter.unusedSimpArgs false
set_option linter.unusedVariables false
open Go.ChangeShapes Go.WideShapes Go.ChangeAt Go.RowKit Go.Pin Go.Prm
/-- a Recorder, or none, and boxes beside it, all from B on -/
structure Ev (B : Nat) (w : World) (rv : Value) (l : List (Int × Int)) (bx : List (Nat × Obj)) (wr : World) : Prop where
  old : Below B w wr
  le : B ≤ wr.heap.size
  ge : ∀ p ∈ bx, B ≤ p.1
  at' : ∀ p ∈ bx, wr.heap[p.1]? = some p.2
  rc : rv = .pointer none ∨ ∃ R vs, rv = .pointer (some ⟨R, 0, none⟩) ∧ Rec B wr R vs l ∧ ∀ p ∈ bx, ¬ Blk R vs p.1
section
variable {B : Nat} {w : World} {rv : Value} {l : List (Int × Int)} {bx : List (Nat × Obj)} {wr w' : World}
theorem Ev.row (h : Ev B w rv l bx wr) {g : Nat} {x : Obj} (hp : (g, x) ∈ bx) : wr.heap[g]? = some x := h.at' _ hp
theorem Ev.lt (h : Ev B w rv l bx wr) {g : Nat} {x : Obj} (hp : (g, x) ∈ bx) : g < wr.heap.size := heap_lt (h.row hp)
theorem Ev.below (h : Ev B w rv l bx wr) (hb : Below wr.heap.size wr w') : Ev B w rv l bx w' := by
  refine ⟨h.old.trans (hb.mono h.le), Nat.le_trans h.le hb.size, h.ge, fun p hp => (hb.block _ (heap_lt (h.at' p hp))).trans (h.at' p hp), ?_⟩
  rcases h.rc with e | ⟨R, vs, e, h2, h3⟩
  · exact .inl e
  · exact .inr ⟨R, vs, e, h2.below hb, h3⟩
theorem Ev.drew (h : Ev B w rv l bx wr) : Ev B w rv l bx wr.drew := h.below ⟨rfl, rfl, rfl, Nat.le_refl _, fun _ _ => rfl⟩
theorem Ev.sub (h : Ev B w rv l bx wr) {by' : List (Nat × Obj)} (hs : ∀ p ∈ by', p ∈ bx) : Ev B w rv l by' wr := by
  refine ⟨h.old, h.le, fun p hp => h.ge p (hs p hp), fun p hp => h.at' p (hs p hp), ?_⟩
  rcases h.rc with e | ⟨R, vs, e, h2, h3⟩
  · exact .inl e
  · exact .inr ⟨R, vs, e, h2, fun p hp => h3 p (hs p hp)⟩
theorem Ev.new (h : Ev B w rv l bx wr) (x : Obj) : Ev B w rv l ((wr.heap.size, x) :: bx) (wr.alloc x) := by
  have hb : Below wr.heap.size wr (wr.alloc x) := (Below.refl _ _).alloc (Nat.le_refl _) _
  have h' := h.below hb
  refine ⟨h'.old, h'.le, fun p hp => ?_, fun p hp => ?_, ?_⟩
  · rcases List.mem_cons.1 hp with rfl | hp
    · exact h.le
    · exact h.ge p hp
  · rcases List.mem_cons.1 hp with rfl | hp
    · simp only [heap_alloc_any, if_true]
    · exact h'.at' p hp
  · rcases h.rc with e | ⟨R, vs, e, h2, h3⟩
    · exact .inl e
    · refine .inr ⟨R, vs, e, h2.below hb, fun p hp => ?_⟩
      rcases List.mem_cons.1 hp with rfl | hp
      · intro hk; have := h2.lt _ hk; simp at this
      · exact h3 p hp
/-- a box is written, memory may be made -/
theorem Ev.set (h : Ev B w rv l bx wr) {g : Nat} {o y : Obj} {b2 : List (Nat × Obj)} (e : bx = (g, o) :: b2) (hne : ∀ p ∈ b2, p.1 ≠ g) (hb : Grow (fun k => k = g) wr w') (hy : w'.heap[g]? = some y) : Ev B w rv l ((g, y) :: b2) w' := by
  subst e
  have hg : B ≤ g := h.ge (g, o) (by simp)
  refine ⟨h.old.trans (hb.below (fun k hk => by omega) h.le), Nat.le_trans h.le hb.size, fun p hp => ?_, fun p hp => ?_, ?_⟩
  · rcases List.mem_cons.1 hp with rfl | hp
    · exact hg
    · exact h.ge p (by simp [hp])
  · rcases List.mem_cons.1 hp with rfl | hp
    · exact hy
    · exact (hb.block _ (heap_lt (h.at' p (by simp [hp]))) (hne p hp)).trans (h.at' p (by simp [hp]))
  · rcases h.rc with e | ⟨R, vs, e, h2, h3⟩
    · exact .inl e
    · refine .inr ⟨R, vs, e, h2.grow hb (fun k hk hn => by subst hn; exact h3 (k, o) (by simp) hk), fun p hp => ?_⟩
      rcases List.mem_cons.1 hp with rfl | hp
      · exact h3 (g, o) (by simp)
      · exact h3 p (by simp [hp])
end
set_option maxRecDepth 100000 in
theorem rAt_any (B R : Nat) (vs : Value) (l : List (Int × Int)) (v : Int) (w : World) (h : Rec B w R vs l) (hl : l.length ≤ 1000000) :
    Calls Try.prog 16 #[.pointer (some ⟨R, 0, none⟩), .int .i64 v] w fun e w' => e = .returned (.int .i64 v) ∧ Logged B R vs l (2, v) w w' := by
  have HR : Hid _ := h
  have HL : Hid _ := hl
  clear h hl
  go_enter Try.func16, Try.ntmps16
  go_wp2_with (first | (go_at_call 25; refine (rlog_any B R vs l _ _ _ HR.out HL.out).mono ?_; rintro e w' ⟨rfl, hw⟩))
  go_ret
  exact ⟨rfl, hw⟩
set_option maxRecDepth 100000 in
theorem rIf_any (B R : Nat) (vs : Value) (l : List (Int × Int)) (b : Bool) (w : World) (h : Rec B w R vs l) (hl : l.length ≤ 1000000) :
    Calls Try.prog 14 #[.pointer (some ⟨R, 0, none⟩), .bool b] w fun e w' => e = .returned (.bool b) ∧ Logged B R vs l (1, if b then 1 else 0) w w' := by
  have HR : Hid _ := h
  have HL : Hid _ := hl
  clear h hl
  cases b
  all_goals
    go_enter Try.func14, Try.ntmps14
    go_wp2_with (first | (go_at_call 25; refine (rlog_any B R vs l _ _ _ HR.out HL.out).mono ?_; rintro e w' ⟨rfl, hw⟩))
    go_ret
    exact ⟨rfl, hw⟩
set_option maxRecDepth 100000 in
theorem rIf_nil (b : Bool) (w : World) : Calls Try.prog 14 #[.pointer none, .bool b] w fun e w' => e = .returned (.bool b) ∧ w' = w := by
  cases b
  all_goals
    go_enter Try.func14, Try.ntmps14
    go_wp2_with (first | (go_at_call 25; refine (rlog_nil _ _ _).mono ?_; rintro e w' ⟨rfl, rfl⟩))
    go_ret
    exact ⟨rfl, rfl⟩
set_option maxRecDepth 100000 in
theorem rAt_nil (v : Int) (w : World) : Calls Try.prog 16 #[.pointer none, .int .i64 v] w fun e w' => e = .returned (.int .i64 v) ∧ w' = w := by
  go_enter Try.func16, Try.ntmps16
  go_wp2_with (first | (go_at_call 25; refine (rlog_nil _ _ _).mono ?_; rintro e w' ⟨rfl, rfl⟩))
  go_ret
  exact ⟨rfl, rfl⟩
section
variable {B : Nat} {w : World} {rv : Value} {l : List (Int × Int)} {bx : List (Nat × Obj)} {wr : World}
/-- what logs an event if there is a Recorder, and does nothing if there is none -/
theorem Ev.logs (h : Ev B w rv l bx wr) (f : Nat) (x : Value) (ret : Value) (ev : Int × Int)
    (h0 : rv = .pointer none → Calls Try.prog f #[.pointer none, x] wr fun e w' => e = .returned ret ∧ w' = wr)
    (h1 : ∀ R vs, rv = .pointer (some ⟨R, 0, none⟩) → Rec B wr R vs l → Calls Try.prog f #[.pointer (some ⟨R, 0, none⟩), x] wr fun e w' => e = .returned ret ∧ Logged B R vs l ev wr w') :
    Calls Try.prog f #[rv, x] wr fun e w' => e = .returned ret ∧ Ev B w rv (l ++ [ev]) bx w' := by
  rcases h.rc with e | ⟨R, vs, e, h2, h3⟩
  · rw [e]
    refine (h0 e).mono ?_
    rintro _ w' ⟨rfl, rfl⟩
    exact ⟨rfl, h.old, h.le, h.ge, h.at', .inl rfl⟩
  · rw [e]
    refine (h1 R vs e h2).mono ?_
    rintro _ w' ⟨rfl, vs', g1, g2, g3⟩
    refine ⟨rfl, h.old.trans (g2.below h2.ge h.le), Nat.le_trans h.le g2.size, h.ge, fun p hp => (g2.block _ (heap_lt (h.at' p hp)) (h3 p hp)).trans (h.at' p hp), .inr ⟨R, vs', rfl, g1, fun p hp hk => ?_⟩⟩
    have hlt : p.1 < wr.heap.size := heap_lt (h.at' p hp)
    rcases hk with hk | hk
    · exact h3 p hp (.inl hk)
    · rcases g3 with g3 | ⟨g, g3, hge⟩
      · exact h3 p hp (.inr (g3 ▸ hk))
      · rw [g3] at hk; injection hk with hk; omega
theorem v_op (h : Ev B w rv l bx wr) (hl : rv ≠ .pointer none → l.length ≤ 1000000) (v : Int) : Calls Try.prog 39 #[rv, .int .i64 v] wr fun e w' => e = .returned (.tuple #[]) ∧ Ev B w rv (l ++ [(3, v)]) bx w' :=
  h.logs _ _ _ _ (fun _ => rOp_nil v wr) (fun R vs e hr => rOp_any B R vs l v wr hr (hl (by rw [e]; intro k; cases k)))
theorem v_at (h : Ev B w rv l bx wr) (hl : rv ≠ .pointer none → l.length ≤ 1000000) (v : Int) : Calls Try.prog 16 #[rv, .int .i64 v] wr fun e w' => e = .returned (.int .i64 v) ∧ Ev B w rv (l ++ [(2, v)]) bx w' :=
  h.logs _ _ _ _ (fun _ => rAt_nil v wr) (fun R vs e hr => rAt_any B R vs l v wr hr (hl (by rw [e]; intro k; cases k)))
theorem v_if (h : Ev B w rv l bx wr) (hl : rv ≠ .pointer none → l.length ≤ 1000000) (b : Bool) : Calls Try.prog 14 #[rv, .bool b] wr fun e w' => e = .returned (.bool b) ∧ Ev B w rv (l ++ [(1, if b then 1 else 0)]) bx w' :=
  h.logs _ _ _ _ (fun _ => rIf_nil b wr) (fun R vs e hr => rIf_any B R vs l b wr hr (hl (by rw [e]; intro k; cases k)))
theorem ev_nil (w : World) (bx : List (Nat × Obj)) (h : ∀ p ∈ bx, w.heap[p.1]? = some p.2) (l : List (Int × Int)) : Ev 0 w (.pointer none) l bx w :=
  ⟨Below.refl _ _, Nat.zero_le _, fun _ _ => Nat.zero_le _, h, .inl rfl⟩
theorem ev_nil' (w : World) : Ev w.heap.size w (.pointer none) [] [] w :=
  ⟨Below.refl _ _, Nat.le_refl _, by simp, by simp, .inl rfl⟩
theorem ev_new (w : World) : Ev w.heap.size w (.pointer (some ⟨w.heap.size, 0, none⟩)) [] [] (w.alloc (.cells #[.slice none 0 0, .int .i64 0] 56)) :=
  ⟨(Below.refl _ _).alloc (Nat.le_refl _) _, by simp, by simp, by simp, .inr ⟨_, _, rfl, rec_new w, by simp⟩⟩
/-- without a Recorder the log is any one; the boxes another Recorder's -/
theorem Ev.nilOf (h : Ev B w rv l bx wr) (m : List (Int × Int)) : Ev B w (.pointer none) m bx wr := ⟨h.old, h.le, h.ge, h.at', .inl rfl⟩
end

section
variable {B : Nat} {w : World} {rv : Value} {l : List (Int × Int)} {bx : List (Nat × Obj)} {wr : World}
theorem Ev.op (h : Ev B w rv l bx wr) (hl : rv ≠ .pointer none → l.length ≤ 1000000) (v : Int) : ∃ Q, Opc rv v wr Q ∧ ∀ w', Opd Q wr w' → Ev B w rv (l ++ [(3, v)]) bx w' := by
  rcases h.rc with e | ⟨R, vs, e, h2, h3⟩
  · subst e
    refine ⟨_, opc_nil v wr, fun w' ho => ?_⟩
    have h' := h.below ho.nil
    exact ⟨h'.old, h'.le, h'.ge, h'.at', .inl rfl⟩
  · subst e
    refine ⟨_, opc_rec v h2 (hl (by intro k; cases k)), fun w' ho => ?_⟩
    obtain ⟨vs', g1, g2, g3⟩ := Opd.rec h2 ho
    refine ⟨h.old.trans (g2.below h2.ge h.le), Nat.le_trans h.le g2.size, h.ge, fun p hp => (g2.block _ (heap_lt (h.at' p hp)) (h3 p hp)).trans (h.at' p hp), .inr ⟨R, vs', rfl, g1, fun p hp hk => ?_⟩⟩
    have hlt : p.1 < wr.heap.size := heap_lt (h.at' p hp)
    rcases hk with hk | hk
    · exact h3 p hp (.inl hk)
    · rcases g3 with g3 | ⟨g, g3, hge⟩
      · exact h3 p hp (.inr (g3 ▸ hk))
      · rw [g3] at hk; injection hk with hk; omega
theorem v_add (h : Ev B w rv l bx wr) (hl : rv ≠ .pointer none → l.length ≤ 1000000) {a b : List Int} (ha : Lim a) (hb : Lim b) : Calls Try.prog 35 #[rv, .agg (VI .u64 a), .agg (VI .u64 b)] wr fun e w' => e = .returned (.agg (VI .u64 (stl (List.zipWith (· + ·) a b)))) ∧ Ev B w rv (l ++ [(3, 11)]) bx w' := by
  obtain ⟨Q, h1, h2⟩ := h.op hl 11
  exact (add_any _ a b ha hb wr Q h1).mono fun e w' hh => ⟨hh.1, h2 w' hh.2⟩
theorem v_mul (h : Ev B w rv l bx wr) (hl : rv ≠ .pointer none → l.length ≤ 1000000) {a b : List Int} (ha : Lim a) (hb : Lim b) : Calls Try.prog 34 #[rv, .agg (VI .u64 a), .agg (VI .u64 b)] wr fun e w' => e = .returned (.agg (VI .u64 (prod a b))) ∧ Ev B w rv (l ++ [(3, 12)]) bx w' := by
  obtain ⟨Q, h1, h2⟩ := h.op hl 12
  exact (mul_any _ a b ha hb wr Q h1).mono fun e w' hh => ⟨hh.1, h2 w' hh.2⟩
theorem Ev.cast (h : Ev B w rv l bx wr) {l' : List (Int × Int)} (e : l = l') : Ev B w rv l' bx wr := e ▸ h
theorem Ev.fresh (h : Ev B w rv l bx wr) {W' : World} (hb : Below wr.heap.size wr W') {g : Nat} (hg : wr.heap.size ≤ g) {x : Obj} (hx : W'.heap[g]? = some x) : Ev B w rv l ((g, x) :: bx) W' := by
  have h' := h.below hb
  refine ⟨h'.old, h'.le, fun p hp => ?_, fun p hp => ?_, ?_⟩
  · rcases List.mem_cons.1 hp with rfl | hp
    · exact Nat.le_trans h.le hg
    · exact h.ge p hp
  · rcases List.mem_cons.1 hp with rfl | hp
    · exact hx
    · exact h'.at' p hp
  · rcases h.rc with e | ⟨R, vs, e, h2, h3⟩
    · exact .inl e
    · refine .inr ⟨R, vs, e, h2.below hb, fun p hp => ?_⟩
      rcases List.mem_cons.1 hp with rfl | hp
      · intro hk; have := h2.lt _ hk; simp only at this; omega
      · exact h3 p hp
end
/-! rows of any cells -/
theorem heap_setCells_row (g : Nat) {T : TypeId} : ∀ (q' q p t : List Value) (w : World), q'.length = q.length → w.heap[g]? = some (.cells (p ++ (q ++ t)).toArray T) → (w.setCells g p.length q').heap[g]? = some (.cells (p ++ (q' ++ t)).toArray T)
  | [], q, p, t, w, hl, h => by
    have : q = [] := List.length_eq_zero_iff.1 hl.symm
    subst this
    exact h
  | v :: r, [], p, t, w, hl, h => by simp at hl
  | v :: r, u :: q, p, t, w, hl, h => by
    have h1 : (w.setCell ⟨g, p.length, none⟩ v).heap[g]? = some (.cells ((p ++ [v]) ++ (q ++ t)).toArray T) := by
      rw [heap_setCell_same w _ _ _ _ _ h]
      congr 2
      simp [List.set_append]
    have := heap_setCells_row g r q (p ++ [v]) t _ (by simpa using hl) h1
    rw [World.setCells]
    simpa using this
theorem range_in {w : World} {g : Nat} {T : TypeId} {fr : Nat × Nat} {p q t : List Value} (h : w.heap[g]? = some (.cells (p ++ (q ++ t)).toArray T fr)) : w.rangeAt g p.length q := fun j v hv => by
  rw [cell_of_row w _ _ _ _ _ h]
  have hj := (List.getElem?_eq_some_iff.1 hv).1
  have e : (p ++ (q ++ t)).toArray[p.length + j]? = q[j]? := by simp [List.getElem?_append, hj, Nat.add_sub_cancel_left]
  rw [e, hv]
theorem there_in {w : World} {g : Nat} {T : TypeId} {p q t : List Value} (h : w.heap[g]? = some (.cells (p ++ (q ++ t)).toArray T (0, 0))) : w.there g p.length q.length := fun j hj => by
  refine ⟨?_, frozen_of_row w _ _ _ _ h⟩
  rw [range_in h j _ (List.getElem?_eq_getElem hj)]
  rfl
theorem but_setCells' (b : Nat) : ∀ (vs : List Value) (o : Nat) (w : World), But (fun k => k = b) w (w.setCells b o vs)
  | [], _, w => But.refl _ _
  | v :: r, o, w => by
    rw [World.setCells]
    exact But.trans ((But.refl (fun k => k = b) w).setCell (p := ⟨b, o, none⟩) rfl v) (but_setCells' b r _ _)
theorem grow_setCells (b : Nat) (vs : List Value) (o : Nat) (w : World) : Grow (fun k => k = b) w (w.setCells b o vs) := (Grow.refl _ w).but (but_setCells' b vs o w) (fun k hk => .inl hk)
/-! the Mac -/
def macL (rv : Value) (r m s b : List Int) (h : Nat) : List Value := rv :: (r.map (Value.int .u64) ++ (m.map (Value.int .u8) ++ (s.map (Value.int .u64) ++ (b.map (Value.int .u8) ++ [.int .i64 (h : Int)]))))
def macO (rv : Value) (r m s b : List Int) (h : Nat) : Obj := .cells (macL rv r m s b h).toArray 73
structure MS (r m s b : List Int) : Prop where
  r : Lim r
  m : Key16 m
  s : Lim s
  b : Key17 b
section
variable {w : World} {g : Nat} {rv : Value} {r m s b : List Int} {h : Nat}
theorem mac_r (hg : w.heap[g]? = some (macO rv r m s b h)) : w.cell? ⟨g, 0, none⟩ = some rv := by rw [cell_of_row w _ _ _ _ _ hg]; rfl
theorem mac_mul (hg : w.heap[g]? = some (macO rv r m s b h)) : w.rangeAt g 1 (r.map (Value.int .u64)) :=
  range_in (p := [rv]) (q := r.map (Value.int .u64)) (t := m.map (Value.int .u8) ++ (s.map (Value.int .u64) ++ (b.map (Value.int .u8) ++ [Value.int .i64 (h : Int)]))) (T := 73) (fr := (0, 0)) hg
theorem mac_cut2 (hr : r.length = 5) : macL rv r m s b h = (rv :: r.map (Value.int .u64)) ++ (m.map (Value.int .u8) ++ (s.map (Value.int .u64) ++ (b.map (Value.int .u8) ++ [.int .i64 (h : Int)]))) := rfl
theorem mac_mask (hr : r.length = 5) (hg : w.heap[g]? = some (macO rv r m s b h)) : w.rangeAt g 6 (m.map (Value.int .u8)) := by
  have := range_in (p := rv :: r.map (Value.int .u64)) (q := m.map (Value.int .u8)) (t := s.map (Value.int .u64) ++ (b.map (Value.int .u8) ++ [.int .i64 (h : Int)])) hg
  simpa [hr] using this
theorem mac_cut3 : macL rv r m s b h = (rv :: (r.map (Value.int .u64) ++ m.map (Value.int .u8))) ++ (s.map (Value.int .u64) ++ (b.map (Value.int .u8) ++ [.int .i64 (h : Int)])) := by simp [macL]
theorem mac_cut4 : macL rv r m s b h = (rv :: (r.map (Value.int .u64) ++ (m.map (Value.int .u8) ++ s.map (Value.int .u64)))) ++ (b.map (Value.int .u8) ++ [.int .i64 (h : Int)]) := by simp [macL]
theorem mac_cut5 : macL rv r m s b h = (rv :: (r.map (Value.int .u64) ++ (m.map (Value.int .u8) ++ (s.map (Value.int .u64) ++ b.map (Value.int .u8))))) ++ ([.int .i64 (h : Int)] ++ []) := by simp [macL]
theorem mac_sum (hr : r.length = 5) (hm : m.length = 16) (hg : w.heap[g]? = some (macO rv r m s b h)) : w.rangeAt g 22 (s.map (Value.int .u64)) := by
  have hg' := hg
  rw [macO, mac_cut3] at hg'
  have := range_in hg'
  simpa [hr, hm] using this
theorem mac_begun (hr : r.length = 5) (hm : m.length = 16) (hs : s.length = 5) (hg : w.heap[g]? = some (macO rv r m s b h)) : w.rangeAt g 27 (b.map (Value.int .u8)) := by
  have hg' := hg
  rw [macO, mac_cut4] at hg'
  have := range_in hg'
  simpa [hr, hm, hs] using this
theorem mac_held (hr : r.length = 5) (hm : m.length = 16) (hs : s.length = 5) (hb : b.length = 17) (hg : w.heap[g]? = some (macO rv r m s b h)) : w.cell? ⟨g, 44, none⟩ = some (.int .i64 (h : Int)) := by
  have hg' := hg
  rw [macO, mac_cut5] at hg'
  have := range_in hg' 0 (.int .i64 (h : Int)) rfl
  simpa [hr, hm, hs, hb] using this
theorem mac_froz (hg : w.heap[g]? = some (macO rv r m s b h)) (j : Nat) : w.frozen? ⟨g, j, none⟩ = false := frozen_of_row w _ _ _ _ hg
theorem mac_setS (hr : r.length = 5) (hm : m.length = 16) {s' : List Int} (hs : s'.length = s.length) (hg : w.heap[g]? = some (macO rv r m s b h)) : (w.setCells g 22 (s'.map (Value.int .u64))).heap[g]? = some (macO rv r m s' b h) := by
  have hg' := hg
  rw [macO, mac_cut3] at hg'
  have := heap_setCells_row g (s'.map (Value.int .u64)) _ _ _ w (by simpa using hs) hg'
  rw [← mac_cut3] at this
  have e : (rv :: (r.map (Value.int .u64) ++ m.map (Value.int .u8))).length = 22 := by simp [hr, hm]
  rw [e] at this
  exact this
theorem mac_setH (hr : r.length = 5) (hm : m.length = 16) (hs : s.length = 5) (hb : b.length = 17) (h' : Nat) (hg : w.heap[g]? = some (macO rv r m s b h)) : (w.setCell ⟨g, 44, none⟩ (.int .i64 (h' : Int))).heap[g]? = some (macO rv r m s b h') := by
  have hg' := hg
  rw [macO, mac_cut5] at hg'
  have := heap_setCells_row g [.int .i64 (h' : Int)] [.int .i64 (h : Int)] _ _ w rfl hg'
  rw [← mac_cut5] at this
  have e : (rv :: (r.map (Value.int .u64) ++ (m.map (Value.int .u8) ++ (s.map (Value.int .u64) ++ b.map (Value.int .u8))))).length = 44 := by simp [hr, hm, hs, hb]
  rw [e] at this
  exact this
/-- a piece of the bytes held is written -/
theorem mac_setB (hr : r.length = 5) (hm : m.length = 16) (hs : s.length = 5) {b0 b1 b2 b1' : List Int} (hb1 : b1'.length = b1.length) (hg : w.heap[g]? = some (macO rv r m s (b0 ++ (b1 ++ b2)) h)) : (w.setCells g (27 + b0.length) (b1'.map (Value.int .u8))).heap[g]? = some (macO rv r m s (b0 ++ (b1' ++ b2)) h) := by
  have cut : ∀ x : List Int, macL rv r m s (b0 ++ (x ++ b2)) h = ((rv :: (r.map (Value.int .u64) ++ (m.map (Value.int .u8) ++ s.map (Value.int .u64)))) ++ b0.map (Value.int .u8)) ++ (x.map (Value.int .u8) ++ (b2.map (Value.int .u8) ++ [.int .i64 (h : Int)])) := fun x => by simp [macL]
  have hg' := hg
  rw [macO, cut] at hg'
  have := heap_setCells_row g (b1'.map (Value.int .u8)) _ _ _ w (by simpa using hb1) hg'
  rw [← cut] at this
  have e : ((rv :: (r.map (Value.int .u64) ++ (m.map (Value.int .u8) ++ s.map (Value.int .u64)))) ++ b0.map (Value.int .u8)).length = 27 + b0.length := by simp [hr, hm, hs]; omega
  rw [e] at this
  exact this
end
/-! bytes that are read -/
def RdB (w : World) (v : Value) (D : List Int) : Prop :=
  ∃ a cap, v = .slice a D.length cap ∧ D.length ≤ cap ∧ (D = [] ∨ ∃ b o, a = some ⟨b, o, none⟩ ∧ w.rangeAt b o (D.map (Value.int .u8)))
/-- they are read in every world that has this memory -/
def Src (B : Nat) (w : World) (bx : List (Nat × Obj)) (v : Value) (D : List Int) : Prop :=
  ∃ a cap, v = .slice a D.length cap ∧ D.length ≤ cap ∧ (D = [] ∨ ∃ b o, a = some ⟨b, o, none⟩ ∧ ∀ W, Below B w W → (∀ q ∈ bx, W.heap[q.1]? = some q.2) → W.rangeAt b o (D.map (Value.int .u8)))
theorem Src.sub {B : Nat} {w : World} {bx by' : List (Nat × Obj)} {v : Value} {D : List Int} (h : Src B w bx v D) (hs : ∀ p ∈ bx, p ∈ by') : Src B w by' v D := by
  obtain ⟨a, cap, h1, h2, h3⟩ := h
  refine ⟨a, cap, h1, h2, ?_⟩
  rcases h3 with h3 | ⟨b, o, h3, h4⟩
  · exact .inl h3
  · exact .inr ⟨b, o, h3, fun W hW hq => h4 W hW (fun q hm => hq q (hs q hm))⟩
theorem rangeAt_block {w w' : World} {b o : Nat} {cs : List Value} (h : w.rangeAt b o cs) (hb : w'.heap[b]? = w.heap[b]?) : w'.rangeAt b o cs := fun j v hv => by
  rw [World.cell?_of_block (a := ⟨b, o + j, none⟩) hb]; exact h j v hv
theorem range_lt {w : World} {b o : Nat} {cs : List Value} (h : w.rangeAt b o cs) (h0 : 0 < cs.length) : b < w.heap.size := World.block_lt_of_cell? w _ (h 0 _ (List.getElem?_eq_getElem h0))
theorem RdB.src {w : World} {v : Value} {D : List Int} (h : RdB w v D) (bx : List (Nat × Obj)) : Src w.heap.size w bx v D := by
  obtain ⟨a, cap, h1, h2, h3⟩ := h
  refine ⟨a, cap, h1, h2, ?_⟩
  rcases h3 with h3 | ⟨b, o, h3, h4⟩
  · exact .inl h3
  · by_cases h0 : D = []
    · exact .inl h0
    · have hl := range_lt h4 (by rw [List.length_map]; exact List.length_pos_iff.2 h0)
      exact .inr ⟨b, o, h3, fun W hW _ => rangeAt_block h4 (hW.block b hl)⟩
theorem range_row' {W : World} {g : Nat} {L : List Int} {T : TypeId} {fr : Nat × Nat} (h : W.heap[g]? = some (.cells (VI .u8 L) T fr)) (o n : Nat) (ho : o + n ≤ L.length) : W.rangeAt g o (((L.drop o).take n).map (Value.int .u8)) := fun j v hv => by
  have hj : j < n := by have := (List.getElem?_eq_some_iff.1 hv).1; simp at this; omega
  rw [cell_of_row W _ _ _ _ _ h, VI_at _ _ _ (by omega), ← hv]
  simp [List.getElem?_take, hj, List.getElem?_drop, show o + j < L.length by omega]
/-- out of a box -/
theorem src_box {B : Nat} {w : World} {bx : List (Nat × Obj)} {g : Nat} {L : List Int} {T : TypeId} {fr : Nat × Nat} (hm : (g, Obj.cells (VI .u8 L) T fr) ∈ bx) (o n cap : Nat) (ho : o + n ≤ L.length) (hc : n ≤ cap) : Src B w bx (.slice (some ⟨g, o, none⟩) n cap) ((L.drop o).take n) := by
  have hl : ((L.drop o).take n).length = n := by simp; omega
  refine ⟨some ⟨g, o, none⟩, cap, by rw [hl], by rw [hl]; exact hc, .inr ⟨g, o, rfl, fun W _ hq => ?_⟩⟩
  exact range_row' (hq _ hm) o n ho
end Go.Proofs.Ytgfamcadgahiiab
