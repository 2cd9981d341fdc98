import Derived.Test.YtgfamcadgahiiabPrmI
import Derived.Test.YtgfamcadgahiiabPrmM
namespace Go.Proofs.Ytgfamcadgahiiab
set_option linter.unusedSimpArgs false
open Go.ChangeShapes Go.WideShapes Go.ChangeAt Go.RowKit Go.Pin Go.Prm
/-- a Recorder and boxes beside it, all from B on -/
structure Env (B : Nat) (w : World) (R : Nat) (l : List (Int × Int)) (bx : List (Nat × Obj)) (wr : World) : Prop where
  old : Below B w wr
  ex : ∃ vs, Rec B wr R vs l ∧ ∀ p ∈ bx, wr.heap[p.1]? = some p.2 ∧ ¬ Blk R vs p.1
  ge : ∀ p ∈ bx, B ≤ p.1
theorem heap_lt {w : World} {g : Nat} {o : Obj} (h : w.heap[g]? = some o) : g < w.heap.size := (Array.getElem?_eq_some_iff.1 h).1
theorem Env.below {B : Nat} {w : World} {R : Nat} {l : List (Int × Int)} {bx : List (Nat × Obj)} {wr w' : World} (h : Env B w R l bx wr) (hb : Below wr.heap.size wr w') : Env B w R l bx w' := by
  obtain ⟨h1, ⟨vs, h2, h3⟩, h4⟩ := h
  exact ⟨h1.trans (hb.mono (by have := h2.1; have := h2.lt R (.inl rfl); omega)), ⟨vs, h2.below hb, fun p hp => ⟨(hb.block _ (heap_lt (h3 p hp).1)).trans (h3 p hp).1, (h3 p hp).2⟩⟩, h4⟩
theorem Env.new {B : Nat} {w : World} {R : Nat} {l : List (Int × Int)} {bx : List (Nat × Obj)} {wr : World} (h : Env B w R l bx wr) (x : Obj) : Env B w R l ((wr.heap.size, x) :: bx) (wr.alloc x) := by
  have hb : Below wr.heap.size wr (wr.alloc x) := (Below.refl _ _).alloc (Nat.le_refl _) _
  obtain ⟨h1, ⟨vs, h2, h3⟩, h4⟩ := h.below hb
  obtain ⟨g1, ⟨us, g2, g3⟩, g4⟩ := h
  refine ⟨h1, ⟨us, g2.below hb, fun p hp => ?_⟩, fun p hp => ?_⟩
  · rcases List.mem_cons.1 hp with rfl | hp
    · exact ⟨by simp only [heap_alloc_any, if_true], fun hk => by have := g2.lt _ hk; simp at this⟩
    · exact ⟨(hb.block _ (heap_lt (g3 p hp).1)).trans (g3 p hp).1, (g3 p hp).2⟩
  · rcases List.mem_cons.1 hp with rfl | hp
    · have := g2.1; have := g2.lt R (.inl rfl); show B ≤ wr.heap.size; omega
    · exact h4 p hp
theorem Env.row {B : Nat} {w : World} {R : Nat} {l : List (Int × Int)} {bx : List (Nat × Obj)} {wr : World} (h : Env B w R l bx wr) {g : Nat} {x : Obj} (hp : (g, x) ∈ bx) : wr.heap[g]? = some x := by
  obtain ⟨_, h3⟩ := h.ex
  exact (h3.2 _ hp).1
theorem Env.lt {B : Nat} {w : World} {R : Nat} {l : List (Int × Int)} {bx : List (Nat × Obj)} {wr : World} (h : Env B w R l bx wr) {g : Nat} {x : Obj} (hp : (g, x) ∈ bx) : g < wr.heap.size := heap_lt (h.row hp)
theorem Env.logged {B : Nat} {w : World} {R : Nat} {vs : Value} {l : List (Int × Int)} {bx : List (Nat × Obj)} {x : Int × Int} {wr w' : World} (hr : Rec B wr R vs l) (hbx : ∀ p ∈ bx, wr.heap[p.1]? = some p.2 ∧ ¬ Blk R vs p.1) (h1 : Below B w wr) (h4 : ∀ p ∈ bx, B ≤ p.1) (hg : Logged B R vs l x wr w') : Env B w R (l ++ [x]) bx w' := by
  obtain ⟨vs', g1, g2, g3⟩ := hg
  refine ⟨h1.trans (g2.below hr.ge (by have := hr.1; have := hr.lt R (.inl rfl); omega)), ⟨vs', g1, fun p hp => ⟨(g2.block _ (heap_lt (hbx p hp).1) (hbx p hp).2).trans (hbx p hp).1, fun hk => ?_⟩⟩, h4⟩
  have hlt : p.1 < wr.heap.size := heap_lt (hbx p hp).1
  rcases hk with hk | hk
  · exact (hbx p hp).2 (.inl hk)
  · rcases g3 with g3 | ⟨g, g3, hge⟩
    · exact (hbx p hp).2 (.inr (g3 ▸ hk))
    · rw [g3] at hk; injection hk with hk; omega
theorem Env.op {B : Nat} {w : World} {R : Nat} {l : List (Int × Int)} {bx : List (Nat × Obj)} {wr : World} (h : Env B w R l bx wr) (hl : l.length ≤ 1000000) (v : Int) : ∃ Q, Opc (.pointer (some ⟨R, 0, none⟩)) v wr Q ∧ ∀ w', Opd Q wr w' → Env B w R (l ++ [(3, v)]) bx w' := by
  obtain ⟨h1, ⟨vs, h2, h3⟩, h4⟩ := h
  exact ⟨_, opc_rec v h2 hl, fun w' ho => Env.logged h2 h3 h1 h4 (Opd.rec h2 ho)⟩
section
variable {B : Nat} {w : World} {R : Nat} {l : List (Int × Int)} {bx : List (Nat × Obj)} {wr : World} (h : Env B w R l bx wr) (hl : l.length ≤ 1000000) {a b : List Int} (ha : Lim a) (hb : Lim b)
include h hl ha hb
theorem e_add : Calls Try.prog 35 #[.pointer (some ⟨R, 0, none⟩), .agg (VI .u64 a), .agg (VI .u64 b)] wr fun e w' => e = .returned (.agg (VI .u64 (stl (List.zipWith (· + ·) a b)))) ∧ Env B w R (l ++ [(3, 11)]) bx w' := by
  obtain ⟨Q, h1, h2⟩ := h.op hl 11
  exact (add_any _ a b ha hb wr Q h1).mono fun e w' hh => ⟨hh.1, h2 w' hh.2⟩
theorem e_mul : Calls Try.prog 34 #[.pointer (some ⟨R, 0, none⟩), .agg (VI .u64 a), .agg (VI .u64 b)] wr fun e w' => e = .returned (.agg (VI .u64 (prod a b))) ∧ Env B w R (l ++ [(3, 12)]) bx w' := by
  obtain ⟨Q, h1, h2⟩ := h.op hl 12
  exact (mul_any _ a b ha hb wr Q h1).mono fun e w' hh => ⟨hh.1, h2 w' hh.2⟩
end
theorem e_total {B : Nat} {w : World} {R : Nat} {l : List (Int × Int)} {bx : List (Nat × Obj)} {wr : World} (h : Env B w R l bx wr) : Calls Try.prog 11 #[.pointer (some ⟨R, 0, none⟩)] wr fun e w' => e = .returned (.int .i64 l.length) ∧ w' = wr := by
  obtain ⟨vs, h2, _⟩ := h.ex
  exact total_any _ vs l wr h2.opt
theorem e_new (w : World) : Env w.heap.size w w.heap.size [] [] (w.alloc (.cells #[.slice none 0 0, .int .i64 0] 56)) :=
  ⟨(Below.refl _ _).alloc (Nat.le_refl _) _, ⟨_, rec_new w, by simp⟩, by simp⟩
theorem lim_of (x0 x1 x2 x3 x4 : Int) (h : decide (0 ≤ x0 ∧ x0 < 134217728 ∧ 0 ≤ x1 ∧ x1 < 134217728 ∧ 0 ≤ x2 ∧ x2 < 134217728 ∧ 0 ≤ x3 ∧ x3 < 134217728 ∧ 0 ≤ x4 ∧ x4 < 134217728) = true) : Lim [x0, x1, x2, x3, x4] := by
  have := of_decide_eq_true h
  refine ⟨rfl, ?_⟩
  simp only [List.mem_cons, List.not_mem_nil, or_false, forall_eq_or_imp, forall_eq]
  omega
theorem block_is {f a l : Int} {x : List Int} (hk : Key17 (rw17 f a l)) (h : blk (rw17 f a l) = x) (w : World) : Calls Try.prog 32 #[.agg (VI .u8 (rw17 f a l))] w fun e w' => e = .returned (.agg (VI .u64 x)) ∧ Below w.heap.size w w' := by
  have := block_any _ hk w
  rw [h] at this
  exact this
theorem bytes_is {x b : List Int} (hx : Lim x) (hn : bts (num x) = b) (w : World) : Calls Try.prog 36 #[.agg (VI .u64 x)] w fun e w' => e = .returned (.agg (VI .u8 b)) ∧ Below w.heap.size w w' := by
  have := bytes_any x hx w
  rw [hn] at this
  exact this
theorem sum_is {x s b : List Int} (hx : Lim x) (hs : Key16 s) (hn : smt (bts (num x)) s = b) (w : World) : Calls Try.prog 28 #[.agg (VI .u64 x), .agg (VI .u8 s)] w fun e w' => e = .returned (.agg (VI .u8 b)) ∧ Below w.heap.size w w' := by
  have := sum_any x s hx hs w
  rw [hn] at this
  exact this
theorem clamp_is {k x : List Int} (hk : Key16 k) (h : blk (clp k ++ [0]) = x) (w : World) : Calls Try.prog 24 #[.agg (VI .u8 k)] w fun e w' => e = .returned (.agg (VI .u64 x)) ∧ Below w.heap.size w w' := by
  have := clamp_any k hk w
  rw [h] at this
  exact this
theorem eq17 {a b : List Int} (ha : a.length = 17) (hb : b.length = 17) (w : World) : (Op.equalIn 10000 71 (.agg (VI .u8 a)) (.agg (VI .u8 b))).run Try.prog w = .ok (a == b) w :=
  run_equalIn_row w 9998 71 5 .u8 17 a b ha hb Try.underlying71 Try.underlying5 size5
end Go.Proofs.Ytgfamcadgahiiab
