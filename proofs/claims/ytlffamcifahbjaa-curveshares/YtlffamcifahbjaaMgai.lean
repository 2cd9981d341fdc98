import Derived.Test.YtlffamcifahbjaaMgah
import Derived.Test.YtlffamcifahbjaaMgag
namespace Go.Proofs.Ytlffamcifahbjaa
set_option linter.unusedSimpArgs false
open Go.ChangeShapes Go.WideShapes Go.ChangeAt Go.RowKit Go.Pin Go.Fld
/-- a Recorder and boxes of Elements beside it, all from B on -/
structure Env (B : Nat) (w : World) (R : Nat) (l : List (Int × Int)) (bx : List (Nat × List Int)) (wr : World) : Prop where
  old : Below B w wr
  ex : ∃ vs, Rec B wr R vs l ∧ ∀ p ∈ bx, rowAt wr p.1 p.2 51 ∧ ¬ Blk R vs p.1
  ge : ∀ p ∈ bx, B ≤ p.1
theorem Env.below {B : Nat} {w : World} {R : Nat} {l : List (Int × Int)} {bx : List (Nat × List Int)} {wr w' : World} (h : Env B w R l bx wr) (hb : Below wr.heap.size wr w') : Env B w R l bx w' := by
  obtain ⟨h1, ⟨vs, h2, h3⟩, h4⟩ := h
  exact ⟨h1.trans (hb.mono (by have := h2.1; have := h2.lt R (.inl rfl); omega)), ⟨vs, h2.below hb, fun p hp => ⟨row_below (h3 p hp).1 hb, (h3 p hp).2⟩⟩, h4⟩
theorem Env.new {B : Nat} {w : World} {R : Nat} {l : List (Int × Int)} {bx : List (Nat × List Int)} {wr : World} (h : Env B w R l bx wr) (x : List Int) : Env B w R l ((wr.heap.size, x) :: bx) (wr.alloc (.cells (VI .u64 x) 51)) := by
  have hb : Below wr.heap.size wr (wr.alloc (.cells (VI .u64 x) 51)) := (Below.refl _ _).alloc (Nat.le_refl _) _
  obtain ⟨h1, ⟨vs, h2, h3⟩, h4⟩ := h.below hb
  obtain ⟨g1, ⟨us, g2, g3⟩, g4⟩ := h
  refine ⟨h1, ⟨us, g2.below hb, fun p hp => ?_⟩, fun p hp => ?_⟩
  · rcases List.mem_cons.1 hp with rfl | hp
    · exact ⟨by simp only [rowAt, heap_alloc_any, if_true], fun hk => by have := g2.lt _ hk; simp at this⟩
    · exact ⟨row_below (g3 p hp).1 hb, (g3 p hp).2⟩
  · rcases List.mem_cons.1 hp with rfl | hp
    · have := g2.1; have := g2.lt R (.inl rfl); show B ≤ wr.heap.size; omega
    · exact h4 p hp
theorem Env.row {B : Nat} {w : World} {R : Nat} {l : List (Int × Int)} {bx : List (Nat × List Int)} {wr : World} (h : Env B w R l bx wr) {g : Nat} {x : List Int} (hp : (g, x) ∈ bx) : rowAt wr g x 51 := by
  obtain ⟨_, h3⟩ := h.ex
  exact (h3.2 _ hp).1
theorem Env.lt {B : Nat} {w : World} {R : Nat} {l : List (Int × Int)} {bx : List (Nat × List Int)} {wr : World} (h : Env B w R l bx wr) {g : Nat} {x : List Int} (hp : (g, x) ∈ bx) : g < wr.heap.size := (Array.getElem?_eq_some_iff.1 (h.row hp)).1
theorem Env.logged {B : Nat} {w : World} {R : Nat} {vs : Value} {l : List (Int × Int)} {bx : List (Nat × List Int)} {x : Int × Int} {wr w' : World} (hr : Rec B wr R vs l) (hbx : ∀ p ∈ bx, rowAt wr p.1 p.2 51 ∧ ¬ Blk R vs p.1) (h1 : Below B w wr) (h4 : ∀ p ∈ bx, B ≤ p.1) (hg : Logged B R vs l x wr w') : Env B w R (l ++ [x]) bx w' := by
  obtain ⟨vs', g1, g2, g3⟩ := hg
  refine ⟨h1.trans (g2.below hr.ge (by have := hr.1; have := hr.lt R (.inl rfl); omega)), ⟨vs', g1, fun p hp => ⟨row_grow (hbx p hp).1 g2 (hbx p hp).2, fun hk => ?_⟩⟩, h4⟩
  have hlt : p.1 < wr.heap.size := (Array.getElem?_eq_some_iff.1 (hbx p hp).1).1
  rcases hk with hk | hk
  · exact (hbx p hp).2 (.inl hk)
  · rcases g3 with g3 | ⟨g, g3, hge⟩
    · exact (hbx p hp).2 (.inr (g3 ▸ hk))
    · rw [g3] at hk; injection hk with hk; omega
theorem Env.op {B : Nat} {w : World} {R : Nat} {l : List (Int × Int)} {bx : List (Nat × List Int)} {wr : World} (h : Env B w R l bx wr) (hl : l.length ≤ 1000000) (v : Int) : ∃ Q, Opc (.pointer (some ⟨R, 0, none⟩)) v wr Q ∧ ∀ w', Opd Q wr w' → Env B w R (l ++ [(3, v)]) bx w' := by
  obtain ⟨h1, ⟨vs, h2, h3⟩, h4⟩ := h
  exact ⟨_, opc_rec v h2 hl, fun w' ho => Env.logged h2 h3 h1 h4 (Opd.rec h2 ho)⟩
section
variable {B : Nat} {w : World} {R : Nat} {l : List (Int × Int)} {bx : List (Nat × List Int)} {wr : World} (h : Env B w R l bx wr) (hl : l.length ≤ 1000000) {a b : List Int} (ha : Lim a) (hb : Lim b)
include h hl ha
include hb in
theorem e_add : Calls Try.prog 40 #[.pointer (some ⟨R, 0, none⟩), .agg (VI .u64 a), .agg (VI .u64 b)] wr fun e w' => e = .returned (.agg (VI .u64 (stl (List.zipWith (· + ·) a b)))) ∧ Env B w R (l ++ [(3, 1)]) bx w' := by
  obtain ⟨Q, h1, h2⟩ := h.op hl 1
  exact (add_any _ a b ha hb wr Q h1).mono fun e w' hh => ⟨hh.1, h2 w' hh.2⟩
include hb in
theorem e_sub : Calls Try.prog 42 #[.pointer (some ⟨R, 0, none⟩), .agg (VI .u64 a), .agg (VI .u64 b)] wr fun e w' => e = .returned (.agg (VI .u64 (stl (subL a b)))) ∧ Env B w R (l ++ [(3, 2)]) bx w' := by
  obtain ⟨Q, h1, h2⟩ := h.op hl 2
  exact (sub_any _ a b ha hb wr Q h1).mono fun e w' hh => ⟨hh.1, h2 w' hh.2⟩
include hb in
theorem e_mul : Calls Try.prog 25 #[.pointer (some ⟨R, 0, none⟩), .agg (VI .u64 a), .agg (VI .u64 b)] wr fun e w' => e = .returned (.agg (VI .u64 (prod a b))) ∧ Env B w R (l ++ [(3, 3)]) bx w' := by
  obtain ⟨Q, h1, h2⟩ := h.op hl 3
  exact (mul_any _ a b ha hb wr Q h1).mono fun e w' hh => ⟨hh.1, h2 w' hh.2⟩
theorem e_square : Calls Try.prog 41 #[.pointer (some ⟨R, 0, none⟩), .agg (VI .u64 a)] wr fun e w' => e = .returned (.agg (VI .u64 (prod a a))) ∧ Env B w R (l ++ [(3, 4)]) bx w' := by
  obtain ⟨Q, h1, h2⟩ := h.op hl 4
  exact (square_any _ a ha wr Q h1).mono fun e w' hh => ⟨hh.1, h2 w' hh.2⟩
theorem e_scale (n : Int) (n0 : 0 ≤ n) (n1 : n < 4294967296) : Calls Try.prog 43 #[.pointer (some ⟨R, 0, none⟩), .agg (VI .u64 a), .int .u32 n] wr fun e w' => e = .returned (.agg (VI .u64 (prod a [n, 0, 0, 0, 0]))) ∧ Env B w R (l ++ [(3, 5)]) bx w' := by
  obtain ⟨Q, h1, h2⟩ := h.op hl 5
  exact (scale_any _ a n n0 n1 ha wr Q h1).mono fun e w' hh => ⟨hh.1, h2 w' hh.2⟩
theorem e_invert : Calls Try.prog 26 #[.pointer (some ⟨R, 0, none⟩), .agg (VI .u64 a)] wr fun e w' => e = .returned (.agg (VI .u64 (qw a 5))) ∧ Env B w R (l ++ [(3, 6)]) bx w' := by
  obtain ⟨Q, h1, h2⟩ := h.op hl 6
  exact (invert_any _ a ha wr Q h1).mono fun e w' hh => ⟨hh.1, h2 w' hh.2⟩
end
theorem swI_rows {w : World} {ga gb : Nat} {a b x y : List Int} {T : TypeId} (ha : rowAt w ga a T) (hb : rowAt w gb b T) (la : a.length = 5) (lb : b.length = 5) : SwI ga 0 gb 0 w a b x y 0 w :=
  ⟨CW.refl _ _, fun j hj => by rw [Nat.zero_add, if_neg (by omega)]; exact row_cell ha (by omega), fun j hj => by rw [Nat.zero_add, if_neg (by omega)]; exact row_cell hb (by omega), fun j => frozen_of_row w _ _ _ _ ha, fun j => frozen_of_row w _ _ _ _ hb⟩
theorem swI_done {W1 w' : World} {ga gb : Nat} {a b x y : List Int} {T : TypeId} (h : SwI ga 0 gb 0 W1 a b x y 5 w') (ha : rowAt W1 ga a T) (hb : rowAt W1 gb b T) (la : a.length = 5) (lb : b.length = 5) (lx : x.length = 5) (ly : y.length = 5) : rowAt w' ga x T ∧ rowAt w' gb y T ∧ But (fun k => k = ga ∨ k = gb) W1 w' := by
  refine ⟨h.cw.row ha (lx.trans la.symm) (fun j hj => ?_), h.cw.row hb (ly.trans lb.symm) (fun j hj => ?_), ⟨h.cw.os, h.cw.tape, h.cw.output, h.cw.size, fun k hk => h.cw.other k (fun j hs => ?_)⟩⟩
  · have := h.ca j (by omega); rw [Nat.zero_add, if_pos (by omega)] at this; exact this
  · have := h.cb j (by omega); rw [Nat.zero_add, if_pos (by omega)] at this; exact this
  · rcases hs with hs | hs
    · exact hk (.inl hs.1)
    · exact hk (.inr hs.1)
/-- Swap of two boxes -/
theorem e_swap {B : Nat} {w : World} {R : Nat} {l : List (Int × Int)} {bx : List (Nat × List Int)} {wr : World} {ga gb : Nat} {a b : List Int} (h : Env B w R l ((ga, a) :: (gb, b) :: bx) wr) (hl : l.length ≤ 1000000) (ha : Lim a) (hb : Lim b) (hab : ga ≠ gb) (hbx : ∀ p ∈ bx, p.1 ≠ ga ∧ p.1 ≠ gb) (s : Int) (s0 : 0 ≤ s) (s1 : s < 18446744073709551616) :
    Calls Try.prog 39 #[.pointer (some ⟨R, 0, none⟩), .int .u64 s, .pointer (some ⟨ga, 0, none⟩), .pointer (some ⟨gb, 0, none⟩)] wr fun e w' => e = .returned (.tuple #[]) ∧ Env B w R (l ++ [(3, 7)]) ((ga, swp s a b) :: (gb, swp s b a) :: bx) w' := by
  obtain ⟨h1, ⟨vs, h2, h3⟩, h4⟩ := h
  have hla : (swp s a b).length = 5 := by unfold swp; split; exact hb.len; exact ha.len
  have hlb : (swp s b a).length = 5 := by unfold swp; split; exact ha.len; exact hb.len
  refine (fswap_any _ s s0 s1 ga 0 gb 0 a b ha hb wr (fun W1 => Env B w R (l ++ [(3, 7)]) ((ga, a) :: (gb, b) :: bx) W1) ?_ (fun W1 hq => swI_rows (hq.row (by simp)) (hq.row (by simp)) ha.len hb.len) (.inl fun i j _ _ e => hab (congrArg Addr.block e))).mono ?_
  · exact (rOp_any B R vs l 7 wr h2 hl).mono fun e W1 hh => ⟨hh.1, Env.logged h2 h3 h1 h4 hh.2⟩
  · rintro e w' ⟨he, W1, hq, hs⟩
    refine ⟨he, ?_⟩
    obtain ⟨q1, q2, q3⟩ := swI_done hs (hq.row (by simp)) (hq.row (by simp)) ha.len hb.len hla hlb
    obtain ⟨k1, ⟨us, k2, k3⟩, k4⟩ := hq
    have nA := (k3 (ga, a) (by simp)).2
    have nB := (k3 (gb, b) (by simp)).2
    have gA := k4 (ga, a) (by simp)
    have gB := k4 (gb, b) (by simp)
    have hg : Grow (fun k => k = ga ∨ k = gb) W1 w' := ⟨q3.os, q3.tape, q3.output, by rw [q3.size]; exact Nat.le_refl _, fun k _ hk => q3.block k hk⟩
    refine ⟨k1.trans (q3.below (fun k hk => by rcases hk with rfl | rfl; exact gA; exact gB)), ⟨us, k2.grow hg (fun k hk hn => by rcases hn with rfl | rfl; exact nA hk; exact nB hk), fun p hp => ?_⟩, fun p hp => ?_⟩
    · simp only [List.mem_cons] at hp
      rcases hp with rfl | rfl | hp
      · exact ⟨q1, nA⟩
      · exact ⟨q2, nB⟩
      · have hn := hbx p hp
        exact ⟨(q3.block p.1 (by omega)).trans (k3 p (by simp [hp])).1, (k3 p (by simp [hp])).2⟩
    · simp only [List.mem_cons] at hp
      rcases hp with rfl | rfl | hp
      · exact gA
      · exact gB
      · exact k4 p (by simp [hp])
theorem e_total {B : Nat} {w : World} {R : Nat} {l : List (Int × Int)} {bx : List (Nat × List Int)} {wr : World} (h : Env B w R l bx wr) : Calls Try.prog 28 #[.pointer (some ⟨R, 0, none⟩)] wr fun e w' => e = .returned (.int .i64 l.length) ∧ w' = wr := by
  obtain ⟨vs, h2, _⟩ := h.ex
  exact total_any _ vs l wr h2.opt
theorem e_new (w : World) : Env w.heap.size w w.heap.size [] [] (w.alloc (.cells #[.slice none 0 0, .int .i64 0] 46)) :=
  ⟨(Below.refl _ _).alloc (Nat.le_refl _) _, ⟨_, rec_new w, by simp⟩, by simp⟩
theorem Env.sub {B : Nat} {w : World} {R : Nat} {l : List (Int × Int)} {bx by' : List (Nat × List Int)} {wr : World} (h : Env B w R l bx wr) (hs : ∀ p ∈ by', p ∈ bx) : Env B w R l by' wr := by
  obtain ⟨h1, ⟨vs, h2, h3⟩, h4⟩ := h
  exact ⟨h1, ⟨vs, h2, fun p hp => h3 p (hs p hp)⟩, fun p hp => h4 p (hs p hp)⟩
/-- bytes of a small number -/
def kk (n : Int) : List Int := [n, 0, 0, 0, 0, 0, 0, 0, 0, 0, 0, 0, 0, 0, 0, 0, 0, 0, 0, 0, 0, 0, 0, 0, 0, 0, 0, 0, 0, 0, 0, 0]
theorem kk_key (n : Int) (h0 : 0 ≤ n) (h1 : n < 256) : Key32 (kk n) := ⟨rfl, by simp [kk]; omega⟩
theorem lim_small (n : Int) (h0 : 0 ≤ n) (h1 : n < 4503599627370496) : Lim [n, 0, 0, 0, 0] := ⟨rfl, by simp; omega⟩
theorem enc_is {x : List Int} {n : Int} (hx : Lim x) (hn : bts (num x) = kk n) (w : World) : Calls Try.prog 27 #[.agg (VI .u64 x)] w fun e w' => e = .returned (.agg (VI .u8 (kk n))) ∧ Below w.heap.size w w' := by
  have := enc_any x hx w
  rw [hn] at this
  exact this
theorem dec_is {n : Int} (h0 : 0 ≤ n) (h1 : n < 256) (hd : dec (kk n) = [n, 0, 0, 0, 0]) (w : World) : Calls Try.prog 22 #[.agg (VI .u8 (kk n))] w fun e w' => e = .returned (.agg (VI .u64 [n, 0, 0, 0, 0])) ∧ Below w.heap.size w w' := by
  have := decode_any (kk n) (kk_key n h0 h1) w
  rw [hd] at this
  exact this
end Go.Proofs.Ytlffamcifahbjaa
namespace Go.Proofs.Ytlffamcifahbjaa
set_option linter.unusedSimpArgs false
open Go.ChangeShapes Go.WideShapes Go.ChangeAt Go.RowKit Go.Pin Go.Fld
theorem wp_region_quiet_in {P : Program} {C : World → Prop} {id : Nat} {Q : Exit → Act → World → Prop} {a : Act} {w : World} {l : List Oper} (hm : P.follows .mixedOrders = true) (hB : Region.lexB .any l.toArray = true) (hC : C w.drew)
    (h : wpQuiet P l.toArray C (fun a' => ∀ w', C w' → Q .normal a' w') l a) : (Code.region id l.toArray true).wp P Q a w :=
  wp_region_quiet (C := C) hm hB hC (by simpa using h)
theorem if_pos_mpr {c : Prop} [Decidable c] {a b : Prop} (hc : c) (h : a) : if c then a else b := by rw [if_pos hc]; exact h
theorem alloc2r (w : World) (a b : List Int) : rowAt ((w.alloc (.cells (VI .u64 a) 51)).alloc (.cells (VI .u64 b) 51)) w.heap.size a 51 ∧
    rowAt ((w.alloc (.cells (VI .u64 a) 51)).alloc (.cells (VI .u64 b) 51)) (w.heap.size + 1) b 51 ∧
    Below w.heap.size w ((w.alloc (.cells (VI .u64 a) 51)).alloc (.cells (VI .u64 b) 51)) := by
  refine ⟨?_, ?_, ((Below.refl _ _).alloc (Nat.le_refl _) _).alloc (by simp) _⟩
  all_goals simp only [rowAt, heap_alloc_any, size_alloc]
  · rw [if_neg (by omega), if_pos trivial]
  · rw [if_pos trivial]
theorem add_f {a0 a1 a2 a3 a4 b0 b1 b2 b3 b4 : Int} (ha : Lim [a0, a1, a2, a3, a4]) (hb : Lim [b0, b1, b2, b3, b4]) : ∃ x0 x1 x2 x3 x4, Lim [x0, x1, x2, x3, x4] ∧ num [x0, x1, x2, x3, x4] = (num [a0, a1, a2, a3, a4] + num [b0, b1, b2, b3, b4]) % P ∧ Hid (∀ w, Calls Try.prog 40 #[.pointer none, .agg #[.int .u64 a0, .int .u64 a1, .int .u64 a2, .int .u64 a3, .int .u64 a4], .agg #[.int .u64 b0, .int .u64 b1, .int .u64 b2, .int .u64 b3, .int .u64 b4]] w fun e w' => e = .returned (.agg #[.int .u64 x0, .int .u64 x1, .int .u64 x2, .int .u64 x3, .int .u64 x4]) ∧ Below w.heap.size w w') := by
  have hl := add_lim ha hb
  have hn := num_add ha hb
  have hc := fun w => (add_any (.pointer none) [a0, a1, a2, a3, a4] [b0, b1, b2, b3, b4] ha hb w _ (opc_nil _ w)).mono fun e w' hh => (⟨hh.1, hh.2.nil⟩ : _ ∧ Below w.heap.size w w')
  obtain ⟨x0, x1, x2, x3, x4, e⟩ := five hl.len
  rw [e] at hl hn hc
  exact ⟨x0, x1, x2, x3, x4, hl, hn, hc⟩
theorem sub_f {a0 a1 a2 a3 a4 b0 b1 b2 b3 b4 : Int} (ha : Lim [a0, a1, a2, a3, a4]) (hb : Lim [b0, b1, b2, b3, b4]) : ∃ x0 x1 x2 x3 x4, Lim [x0, x1, x2, x3, x4] ∧ num [x0, x1, x2, x3, x4] = (num [a0, a1, a2, a3, a4] + (P - num [b0, b1, b2, b3, b4])) % P ∧ Hid (∀ w, Calls Try.prog 42 #[.pointer none, .agg #[.int .u64 a0, .int .u64 a1, .int .u64 a2, .int .u64 a3, .int .u64 a4], .agg #[.int .u64 b0, .int .u64 b1, .int .u64 b2, .int .u64 b3, .int .u64 b4]] w fun e w' => e = .returned (.agg #[.int .u64 x0, .int .u64 x1, .int .u64 x2, .int .u64 x3, .int .u64 x4]) ∧ Below w.heap.size w w') := by
  have hl := subs_lim ha hb
  have hn := num_sub ha hb
  have hc := fun w => (sub_any (.pointer none) [a0, a1, a2, a3, a4] [b0, b1, b2, b3, b4] ha hb w _ (opc_nil _ w)).mono fun e w' hh => (⟨hh.1, hh.2.nil⟩ : _ ∧ Below w.heap.size w w')
  obtain ⟨x0, x1, x2, x3, x4, e⟩ := five hl.len
  rw [e] at hl hn hc
  exact ⟨x0, x1, x2, x3, x4, hl, hn, hc⟩
theorem mul_f {a0 a1 a2 a3 a4 b0 b1 b2 b3 b4 : Int} (ha : Lim [a0, a1, a2, a3, a4]) (hb : Lim [b0, b1, b2, b3, b4]) : ∃ x0 x1 x2 x3 x4, Lim [x0, x1, x2, x3, x4] ∧ num [x0, x1, x2, x3, x4] = num [a0, a1, a2, a3, a4] * num [b0, b1, b2, b3, b4] % P ∧ Hid (∀ w, Calls Try.prog 25 #[.pointer none, .agg #[.int .u64 a0, .int .u64 a1, .int .u64 a2, .int .u64 a3, .int .u64 a4], .agg #[.int .u64 b0, .int .u64 b1, .int .u64 b2, .int .u64 b3, .int .u64 b4]] w fun e w' => e = .returned (.agg #[.int .u64 x0, .int .u64 x1, .int .u64 x2, .int .u64 x3, .int .u64 x4]) ∧ Below w.heap.size w w') := by
  have hl := prod_lim ha hb
  have hn := num_prod ha hb
  have hc := fun w => (mul_any (.pointer none) [a0, a1, a2, a3, a4] [b0, b1, b2, b3, b4] ha hb w _ (opc_nil _ w)).mono fun e w' hh => (⟨hh.1, hh.2.nil⟩ : _ ∧ Below w.heap.size w w')
  obtain ⟨x0, x1, x2, x3, x4, e⟩ := five hl.len
  rw [e] at hl hn hc
  exact ⟨x0, x1, x2, x3, x4, hl, hn, hc⟩
theorem square_f {a0 a1 a2 a3 a4 : Int} (ha : Lim [a0, a1, a2, a3, a4]) : ∃ x0 x1 x2 x3 x4, Lim [x0, x1, x2, x3, x4] ∧ num [x0, x1, x2, x3, x4] = num [a0, a1, a2, a3, a4] * num [a0, a1, a2, a3, a4] % P ∧ Hid (∀ w, Calls Try.prog 41 #[.pointer none, .agg #[.int .u64 a0, .int .u64 a1, .int .u64 a2, .int .u64 a3, .int .u64 a4]] w fun e w' => e = .returned (.agg #[.int .u64 x0, .int .u64 x1, .int .u64 x2, .int .u64 x3, .int .u64 x4]) ∧ Below w.heap.size w w') := by
  have hl := prod_lim ha ha
  have hn := num_prod ha ha
  have hc := fun w => (square_any (.pointer none) [a0, a1, a2, a3, a4] ha w _ (opc_nil _ w)).mono fun e w' hh => (⟨hh.1, hh.2.nil⟩ : _ ∧ Below w.heap.size w w')
  obtain ⟨x0, x1, x2, x3, x4, e⟩ := five hl.len
  rw [e] at hl hn hc
  exact ⟨x0, x1, x2, x3, x4, hl, hn, hc⟩
theorem invert_f {a0 a1 a2 a3 a4 : Int} (ha : Lim [a0, a1, a2, a3, a4]) : ∃ x0 x1 x2 x3 x4, Lim [x0, x1, x2, x3, x4] ∧ num [x0, x1, x2, x3, x4] = qwn (num [a0, a1, a2, a3, a4]) 5 ∧ Hid (∀ w, Calls Try.prog 26 #[.pointer none, .agg #[.int .u64 a0, .int .u64 a1, .int .u64 a2, .int .u64 a3, .int .u64 a4]] w fun e w' => e = .returned (.agg #[.int .u64 x0, .int .u64 x1, .int .u64 x2, .int .u64 x3, .int .u64 x4]) ∧ Below w.heap.size w w') := by
  have hl := qw_lim ha 5
  have hn := num_qw ha 5
  have hc := fun w => (invert_any (.pointer none) [a0, a1, a2, a3, a4] ha w _ (opc_nil _ w)).mono fun e w' hh => (⟨hh.1, hh.2.nil⟩ : _ ∧ Below w.heap.size w w')
  obtain ⟨x0, x1, x2, x3, x4, e⟩ := five hl.len
  rw [e] at hl hn hc
  exact ⟨x0, x1, x2, x3, x4, hl, hn, hc⟩
theorem scale_f {a0 a1 a2 a3 a4 : Int} (ha : Lim [a0, a1, a2, a3, a4]) (n : Nat) (hn' : n < 4294967296) : ∃ x0 x1 x2 x3 x4, Lim [x0, x1, x2, x3, x4] ∧ num [x0, x1, x2, x3, x4] = num [a0, a1, a2, a3, a4] * n % P ∧ Hid (∀ w, Calls Try.prog 43 #[.pointer none, .agg #[.int .u64 a0, .int .u64 a1, .int .u64 a2, .int .u64 a3, .int .u64 a4], .int .u32 (n : Int)] w fun e w' => e = .returned (.agg #[.int .u64 x0, .int .u64 x1, .int .u64 x2, .int .u64 x3, .int .u64 x4]) ∧ Below w.heap.size w w') := by
  have hls : Lim [(n : Int), 0, 0, 0, 0] := lim_small n (by omega) (by omega)
  have hl := prod_lim ha hls
  have hn := num_prod ha hls
  rw [num_small n hn'] at hn
  have hc := fun w => (scale_any (.pointer none) [a0, a1, a2, a3, a4] n (by omega) (by omega) ha w _ (opc_nil _ w)).mono fun e w' hh => (⟨hh.1, hh.2.nil⟩ : _ ∧ Below w.heap.size w w')
  obtain ⟨x0, x1, x2, x3, x4, e⟩ := five hl.len
  rw [e] at hl hn hc
  exact ⟨x0, x1, x2, x3, x4, hl, hn, hc⟩
theorem dec_f {b : List Int} (hb : Key32 b) : ∃ x0 x1 x2 x3 x4, Lim [x0, x1, x2, x3, x4] ∧ num [x0, x1, x2, x3, x4] = nb b % 2 ^ 255 % P ∧ Hid (∀ w, Calls Try.prog 22 #[.agg (VI .u8 b)] w fun e w' => e = .returned (.agg #[.int .u64 x0, .int .u64 x1, .int .u64 x2, .int .u64 x3, .int .u64 x4]) ∧ Below w.heap.size w w') := by
  have hl := dec_lim b
  have hn := num_dec b
  have hc := fun w => decode_any b hb w
  obtain ⟨x0, x1, x2, x3, x4, e⟩ := five hl.len
  rw [e] at hl hn hc
  exact ⟨x0, x1, x2, x3, x4, hl, hn, hc⟩
end Go.Proofs.Ytlffamcifahbjaa
namespace Go.Proofs.Ytlffamcifahbjaa
set_option linter.unusedSimpArgs false
open Go.ChangeShapes Go.WideShapes Go.ChangeAt Go.RowKit Go.Pin Go.Fld
/-- boxes of keys and of Elements -/
structure Bs (w0 : World) (ks bx : List (Nat × List Int)) (W : World) : Prop where
  old : Below w0.heap.size w0 W
  keys : ∀ p ∈ ks, rowB W p.1 p.2 23
  rows : ∀ p ∈ bx, rowAt W p.1 p.2 51
theorem Bs.refl (w : World) : Bs w [] [] w := ⟨Below.refl _ _, by simp, by simp⟩
theorem Bs.below {w0 W W' : World} {ks bx : List (Nat × List Int)} (h : Bs w0 ks bx W) (hb : Below W.heap.size W W') : Bs w0 ks bx W' :=
  ⟨h.old.trans (hb.mono h.old.size), fun p hp => (hb.block _ (Array.getElem?_eq_some_iff.1 (h.keys p hp)).1).trans (h.keys p hp), fun p hp => row_below (h.rows p hp) hb⟩
theorem Bs.new {w0 W : World} {ks bx : List (Nat × List Int)} (h : Bs w0 ks bx W) (x : List Int) : Bs w0 ks ((W.heap.size, x) :: bx) (W.alloc (.cells (VI .u64 x) 51)) := by
  have hb := h.below ((Below.refl _ _).alloc (Nat.le_refl _) (.cells (VI .u64 x) 51))
  refine ⟨hb.old, hb.keys, fun p hp => ?_⟩
  rcases List.mem_cons.1 hp with rfl | hp
  · simp only [rowAt, heap_alloc_any, if_true]
  · exact hb.rows p hp
theorem Bs.newk {w0 W : World} {ks bx : List (Nat × List Int)} (h : Bs w0 ks bx W) (x : List Int) : Bs w0 ((W.heap.size, x) :: ks) bx (W.alloc (.cells (VI .u8 x) 23)) := by
  have hb := h.below ((Below.refl _ _).alloc (Nat.le_refl _) (.cells (VI .u8 x) 23))
  refine ⟨hb.old, fun p hp => ?_, hb.rows⟩
  rcases List.mem_cons.1 hp with rfl | hp
  · simp only [rowB, heap_alloc_any, if_true]
  · exact hb.keys p hp
theorem Bs.row {w0 W : World} {ks bx : List (Nat × List Int)} (h : Bs w0 ks bx W) {g : Nat} {x : List Int} (hp : (g, x) ∈ bx) : rowAt W g x 51 := h.rows _ hp
theorem Bs.key {w0 W : World} {ks bx : List (Nat × List Int)} (h : Bs w0 ks bx W) {g : Nat} {x : List Int} (hp : (g, x) ∈ ks) : rowB W g x 23 := h.keys _ hp
theorem Bs.lt {w0 W : World} {ks bx : List (Nat × List Int)} (h : Bs w0 ks bx W) {g : Nat} {x : List Int} (hp : (g, x) ∈ bx) : g < W.heap.size := (Array.getElem?_eq_some_iff.1 (h.row hp)).1
theorem Bs.ltk {w0 W : World} {ks bx : List (Nat × List Int)} (h : Bs w0 ks bx W) {g : Nat} {x : List Int} (hp : (g, x) ∈ ks) : g < W.heap.size := (Array.getElem?_eq_some_iff.1 (h.key hp)).1
theorem bs_start2 (w : World) (x y : List Int) : Bs w [(w.heap.size + 1, y), (w.heap.size, x)] [] ((w.alloc (.cells (VI .u8 x) 23)).alloc (.cells (VI .u8 y) 23)) := by
  have := ((Bs.refl w).newk x).newk y
  rw [size_alloc] at this
  exact this
theorem bs_start3 (w : World) (x y z : List Int) : Bs w [(w.heap.size + 2, z), (w.heap.size + 1, y), (w.heap.size, x)] [] (((w.alloc (.cells (VI .u8 x) 23)).alloc (.cells (VI .u8 y) 23)).alloc (.cells (VI .u8 z) 23)) := by
  have := (((Bs.refl w).newk x).newk y).newk z
  rw [size_alloc, size_alloc] at this
  exact this
theorem quietAt_load_row {P : Program} {C : World → Prop} {o : Oper} {a : Act} {Y : World} (ty : TypeId) (x : Operand) (ho : o.op = .load ty x) (g : Nat) (hx : a.eval x = .pointer (some ⟨g, 0, none⟩)) (t : TypeId) (cs : Array Value) (fr : Nat × Nat) (d : TypeDesc) (hg : Y.heap[g]? = some (.cells cs t fr))
    (hu : P.underlying ty = some d) (hd : (match d with | .struct _ | .array _ _ => true | _ => false) = true) (hi : (P.info? ty).map (·.size) = some cs.size) : o.quietAt P a C Y (.agg cs) := by
  unfold Oper.quietAt execOp
  simp only [ho, hx, Instr.loadAt, Instr.sureAddr, Sem.run_bind, Sem.run_pure, Result.andThen_ok, run_loadVar_row Y g t ty cs fr d hg hu hd hi]
  exact ⟨rfl, rfl⟩
/-! sums and products modulo P -/
theorem r_comm (a b : Nat) : (a + b) % P = (b + a) % P := by rw [Nat.add_comm]
theorem r_assoc (a b c : Nat) : ((a + b) % P + c) % P = (a + (b + c) % P) % P := by simp [Nat.add_assoc]
theorem r_sub (a b : Nat) (ha : a < P) (hb : b < P) : ((a + b) % P + (P - b)) % P = a := by unfold P at *; omega
theorem r_subadd (a b : Nat) (ha : a < P) (hb : b < P) : ((a + (P - b)) % P + b) % P = a := by unfold P at *; omega
theorem m_comm (a b : Nat) : a * b % P = b * a % P := by rw [Nat.mul_comm]
theorem m_assoc (a b c : Nat) : a * b % P * c % P = a * (b * c % P) % P := by simp [Nat.mul_assoc]
theorem m_dist (a b c : Nat) : a * ((b + c) % P) % P = (a * b % P + a * c % P) % P := by simp [Nat.mul_add]
theorem r_zero (a : Nat) (ha : a < P) : (a + 0) % P = a := Nat.mod_eq_of_lt ha
theorem m_one (a : Nat) (ha : a < P) : a * 1 % P = a := by rw [Nat.mul_one]; exact Nat.mod_eq_of_lt ha
theorem m_zero (a : Nat) : a * 0 % P = 0 := by simp
theorem r_self (a : Nat) (ha : a < P) : (a + (P - a)) % P = 0 := by unfold P at *; omega
theorem num_zero : num [0, 0, 0, 0, 0] = 0 := by decide
theorem nb_one : nb (kk 1) % 2 ^ 255 % P = 1 := by decide
/-- the four bytes of a number -/
def b4 (n : Int) : List Int := [n % 256, n / 256 % 256, n / 65536 % 256, n / 16777216, 0, 0, 0, 0, 0, 0, 0, 0, 0, 0, 0, 0, 0, 0, 0, 0, 0, 0, 0, 0, 0, 0, 0, 0, 0, 0, 0, 0]
theorem b4_bts (n : Nat) (hn : n < 4294967296) : b4 (n : Int) = bts n := by
  have h : ∀ i, 4 ≤ i → n >>> (8 * i) % 256 = 0 := fun i hi => by
    rw [Nat.shiftRight_eq_div_pow, Nat.div_eq_of_lt]
    exact Nat.lt_of_lt_of_le (show n < 2 ^ 32 from hn) (Nat.pow_le_pow_right (by decide) (by omega))
  apply List.ext_getElem
  · simp [b4]
  · intro i h1 h2
    rw [bts_at _ _ (by simpa using h2)]
    by_cases hi : 4 ≤ i
    · rw [h i hi]
      have h3 : i < 32 := by simpa using h2
      have hs : b4 (n : Int) = [(n : Int) % 256, (n : Int) / 256 % 256, (n : Int) / 65536 % 256, (n : Int) / 16777216] ++ List.replicate 28 0 := rfl
      simp only [hs]
      rw [List.getElem_append_right (by simpa using hi), List.getElem_replicate]
      rfl
    · have h4 : i = 0 ∨ i = 1 ∨ i = 2 ∨ i = 3 := by omega
      rcases h4 with rfl | rfl | rfl | rfl
      · show (n : Int) % 256 = _; rw [Nat.shiftRight_eq_div_pow]; omega
      · show (n : Int) / 256 % 256 = _; rw [Nat.shiftRight_eq_div_pow]; omega
      · show (n : Int) / 65536 % 256 = _; rw [Nat.shiftRight_eq_div_pow]; omega
      · show (n : Int) / 16777216 = _; rw [Nat.shiftRight_eq_div_pow]; omega
theorem b4_key (n : Nat) (hn : n < 4294967296) : Key32 (b4 n) := by rw [b4_bts n hn]; exact ⟨bts_len n, bts_bd n⟩
theorem nb_b4 (n : Nat) (hn : n < 4294967296) : nb (b4 n) % 2 ^ 255 % P = n := by
  rw [b4_bts n hn, nb_bts n (Nat.lt_trans hn (by decide)), Nat.mod_eq_of_lt (Nat.lt_trans hn (by decide)), Nat.mod_eq_of_lt (Nat.lt_trans hn (by decide))]
end Go.Proofs.Ytlffamcifahbjaa
namespace Go.Fld
/-! the document's numbers: sixteen digits of 16 binary digits -/
def D : List Int → Int
  | [] => 0
  | x :: l => x + 65536 * D l
theorem D_cons (x : Int) (l : List Int) : D (x :: l) = x + 65536 * D l := rfl
def cz : Int → List Int → List Int
  | _, [] => []
  | o, x :: l => (x + o) % 65536 :: cz ((x + o) / 65536) l
def zo : Int → List Int → Int
  | o, [] => o
  | o, x :: l => zo ((x + o) / 65536) l
@[simp] theorem cz_len : ∀ (l : List Int) (o : Int), (cz o l).length = l.length
  | [], _ => rfl
  | _ :: l, _ => by simp [cz, cz_len l]
theorem cz_D : ∀ (l : List Int) (o : Int), D (cz o l) + 65536 ^ l.length * zo o l = D l + o
  | [], o => by simp [D, cz, zo]
  | x :: l, o => by
    have ih := cz_D l ((x + o) / 65536)
    simp only [cz, zo, D, List.length_cons]
    have hd := Int.emod_add_mul_ediv (x + o) 65536
    rw [Int.pow_succ]
    have e : (x + o) % 65536 + 65536 * D (cz ((x + o) / 65536) l) + 65536 ^ l.length * 65536 * zo ((x + o) / 65536) l = (x + o) % 65536 + 65536 * (D (cz ((x + o) / 65536) l) + 65536 ^ l.length * zo ((x + o) / 65536) l) := by grind
    rw [e, ih]
    grind
theorem cz_lt : ∀ (l : List Int) (o : Int), ∀ x ∈ cz o l, 0 ≤ x ∧ x < 65536
  | [], _ => by simp [cz]
  | y :: l, o => by
    intro x hx
    rw [cz, List.mem_cons] at hx
    rcases hx with rfl | hx
    · omega
    · exact cz_lt l _ x hx
theorem zo_bd : ∀ (l : List Int) (o B : Int), 0 ≤ o → o ≤ B → (∀ x ∈ l, 0 ≤ x ∧ x + B < 65536 * (B + 1)) → 0 ≤ zo o l ∧ zo o l ≤ B
  | [], o, B, h0, h1, _ => ⟨h0, h1⟩
  | x :: l, o, B, h0, h1, h => by
    have hx := h x (by simp)
    rw [zo]
    refine zo_bd l _ B (by omega) ?_ (fun y hy => h y (by simp [hy]))
    have : (x + o) / 65536 < B + 1 := Int.ediv_lt_of_lt_mul (by decide) (by rw [Int.mul_comm]; omega)
    omega
theorem D_app : ∀ (a b : List Int), D (a ++ b) = D a + 65536 ^ a.length * D b
  | [], b => by simp [D]
  | x :: a, b => by
    have := D_app a b
    simp only [List.cons_append, D, this, List.length_cons, Int.pow_succ]
    grind
theorem D_lt : ∀ (l : List Int), (∀ x ∈ l, 0 ≤ x ∧ x < 65536) → 0 ≤ D l ∧ D l < 65536 ^ l.length
  | [], _ => by simp [D]
  | x :: l, h => by
    have ih := D_lt l (fun y hy => h y (by simp [hy]))
    have hx := h x (by simp)
    rw [D, List.length_cons, Int.pow_succ]
    generalize (65536 : Int) ^ l.length = R at *
    omega
/-- carried -/
def car (t : List Int) : List Int := cz 0 (t.take 15) ++ [(t.getD 15 0 + zo 0 (t.take 15)) % 32768]
def cout (t : List Int) : Int := (t.getD 15 0 + zo 0 (t.take 15)) / 32768
/-- digits in their bounds -/
structure Dig (t : List Int) : Prop where
  len : t.length = 16
  bd : ∀ x ∈ t, 0 ≤ x ∧ x < 65536
  top : t.getD 15 0 < 32768
/-- digits that have grown -/
structure Big (t : List Int) : Prop where
  len : t.length = 16
  bd : ∀ x ∈ t, 0 ≤ x ∧ x < 1125899906842624
theorem split16 {t : List Int} (h : t.length = 16) : t = t.take 15 ++ [t.getD 15 0] := by
  conv => lhs; rw [← List.take_append_drop 15 t]
  congr 1
  rw [List.drop_eq_getElem_cons (by omega), List.drop_of_length_le (by omega), List.getD_eq_getElem?_getD, List.getElem?_eq_getElem (by omega)]
  rfl
theorem getD_mem {t : List Int} {i : Nat} (h : i < t.length) : t.getD i 0 ∈ t := by
  rw [List.getD_eq_getElem?_getD, List.getElem?_eq_getElem h]; exact List.getElem_mem h
theorem car_facts {t : List Int} (h : Big t) : Dig (car t) ∧ D (car t) + 57896044618658097711785492504343953926634992332820282019728792003956564819968 * cout t = D t ∧ 0 ≤ cout t ∧ cout t ≤ 1099511627776 ∧ 0 ≤ zo 0 (t.take 15) ∧ zo 0 (t.take 15) ≤ 1099511627776 := by
  have hl : (t.take 15).length = 15 := by simp [h.len]
  have hz := zo_bd (t.take 15) 0 1099511627776 (by decide) (by decide) (fun x hx => by have := h.bd x (List.mem_of_mem_take hx); omega)
  have hv := cz_D (t.take 15) 0
  have ht := h.bd _ (getD_mem (t := t) (i := 15) (by rw [h.len]; decide))
  have hs := split16 h.len
  have hD : D t = D (t.take 15) + 65536 ^ 15 * D [t.getD 15 0] := by
    conv => lhs; rw [hs]
    rw [D_app, hl]
  rw [hl] at hv
  have e1 : D [t.getD 15 0] = t.getD 15 0 := by simp [D]
  rw [e1] at hD
  have hc : D (car t) = D (cz 0 (t.take 15)) + 65536 ^ 15 * ((t.getD 15 0 + zo 0 (t.take 15)) % 32768) := by
    rw [car, D_app, cz_len, hl]; simp [D]
  have e15 : (65536 : Int) ^ 15 = 1766847064778384329583297500742918515827483896875618958121606201292619776 := by decide
  rw [e15] at hv hD hc
  refine ⟨⟨by simp [car, h.len], fun x hx => ?_, ?_⟩, ?_, ?_, ?_, hz.1, hz.2⟩
  · rw [car, List.mem_append] at hx
    rcases hx with hx | hx
    · exact cz_lt _ _ x hx
    · rw [List.mem_singleton] at hx; omega
  · have : (car t).getD 15 0 = (t.getD 15 0 + zo 0 (t.take 15)) % 32768 := by
      rw [car, List.getD_eq_getElem?_getD, List.getElem?_append_right (by simp [h.len])]
      simp [h.len]
    rw [this]; omega
  · rw [hc, cout]; omega
  · rw [cout]; omega
  · rw [cout]; omega
theorem Dig.lt {t : List Int} (h : Dig t) : 0 ≤ D t ∧ D t < 57896044618658097711785492504343953926634992332820282019728792003956564819968 := by
  have hs := split16 h.len
  have hl : (t.take 15).length = 15 := by simp [h.len]
  have h1 := D_lt (t.take 15) (fun x hx => h.bd x (List.mem_of_mem_take hx))
  have ht := h.bd _ (getD_mem (t := t) (i := 15) (by rw [h.len]; decide))
  have htop := h.top
  have hD : D t = D (t.take 15) + 65536 ^ 15 * D [t.getD 15 0] := by
    conv => lhs; rw [hs]
    rw [D_app, hl]
  have e1 : D [t.getD 15 0] = t.getD 15 0 := by simp [D]
  have e15 : (65536 : Int) ^ 15 = 1766847064778384329583297500742918515827483896875618958121606201292619776 := by decide
  rw [e1, e15] at hD
  rw [hl, e15] at h1
  omega
theorem Dig.big {t : List Int} (h : Dig t) {c : Int} (c0 : 0 ≤ c) (c1 : c ≤ 1099511627776) : Big (t.set 0 (t.getD 0 0 + 19 * c)) ∧ D (t.set 0 (t.getD 0 0 + 19 * c)) = D t + 19 * c := by
  have h0 := h.bd _ (getD_mem (t := t) (i := 0) (by rw [h.len]; decide))
  refine ⟨⟨by simp [h.len], fun x hx => ?_⟩, ?_⟩
  · rcases List.mem_or_eq_of_mem_set hx with hx | rfl
    · have := h.bd x hx; omega
    · omega
  · cases t with
    | nil => have := h.len; simp at this
    | cons x t => simp only [List.set_cons_zero, List.getD_cons_zero, D_cons]; omega
/-- the digits of a number -/
def dg (n : Nat) : List Int := (List.range 16).map fun i => ((n >>> (16 * i) % 65536 : Nat) : Int)
@[simp] theorem dg_len (n : Nat) : (dg n).length = 16 := by simp [dg]
theorem dg_at (n i : Nat) (h : i < 16) : (dg n).getD i 0 = ((n >>> (16 * i) % 65536 : Nat) : Int) := by
  rw [List.getD_eq_getElem?_getD, List.getElem?_eq_getElem (by simpa using h)]; simp [dg]
theorem D_digit : ∀ (t : List Int), (∀ x ∈ t, 0 ≤ x ∧ x < 65536) → ∀ i, i < t.length → t.getD i 0 = D t / 65536 ^ i % 65536
  | [], _, i, hi => by simp at hi
  | x :: t, h, 0, _ => by
    have hx := h x (by simp)
    simp only [List.getD_cons_zero, D_cons, Int.pow_zero]
    omega
  | x :: t, h, i + 1, hi => by
    have hx := h x (by simp)
    have ih := D_digit t (fun y hy => h y (by simp [hy])) i (by simpa using hi)
    rw [List.getD_cons_succ, ih, D_cons, Int.pow_succ, Int.mul_comm (65536 ^ i) 65536, ← Int.ediv_ediv_of_nonneg (by decide)]
    congr 2
    omega
theorem Dig.eq {t : List Int} (h : Dig t) : t = dg (D t).toNat := by
  have hlt := h.lt
  apply List.ext_getElem
  · simp [h.len]
  · intro i h1 h2
    have hd := D_digit t h.bd i h1
    have hg := dg_at (D t).toNat i (by simpa using h2)
    rw [List.getD_eq_getElem?_getD, List.getElem?_eq_getElem h1, Option.getD_some] at hd
    rw [List.getD_eq_getElem?_getD, List.getElem?_eq_getElem h2, Option.getD_some] at hg
    rw [hd, hg, Nat.shiftRight_eq_div_pow, Nat.pow_mul, show (2 : Nat) ^ 16 = 65536 by decide]
    have : ((D t).toNat : Int) = D t := by omega
    rw [Int.natCast_emod, Int.natCast_ediv, this]
    simp
theorem Dig.of {n : Nat} (hn : n < 57896044618658097711785492504343953926634992332820282019728792003956564819968) : Dig (dg n) ∧ D (dg n) = n := by
  have key : ∀ (k m : Nat), m < 65536 ^ k → D ((List.range k).map fun i => ((m >>> (16 * i) % 65536 : Nat) : Int)) = m := by
    intro k
    induction k with
    | zero => intro m hm; simp at hm; simp [D, hm]
    | succ k ih =>
      intro m hm
      have e : ((List.range (k + 1)).map fun i => ((m >>> (16 * i) % 65536 : Nat) : Int)) = ((m % 65536 : Nat) : Int) :: ((List.range k).map fun i => (((m / 65536) >>> (16 * i) % 65536 : Nat) : Int)) := by
        rw [List.range_succ_eq_map, List.map_cons, List.map_map]
        congr 1
        apply List.map_congr_left
        intro i _
        simp only [Function.comp]
        rw [Nat.shiftRight_eq_div_pow, Nat.shiftRight_eq_div_pow, Nat.div_div_eq_div_mul, show 16 * i.succ = 16 + 16 * i by omega, Nat.pow_add]
      rw [e, D_cons, ih (m / 65536) (by rw [Nat.pow_succ] at hm; omega)]
      omega
  refine ⟨⟨dg_len n, fun x hx => ?_, ?_⟩, key 16 n (Nat.lt_trans hn (by decide))⟩
  · simp only [dg, List.mem_map] at hx
    obtain ⟨i, _, rfl⟩ := hx
    omega
  · rw [dg_at n 15 (by decide), Nat.shiftRight_eq_div_pow]
    omega
/-- the digits of the prime -/
def pd : List Int := [65517, 65535, 65535, 65535, 65535, 65535, 65535, 65535, 65535, 65535, 65535, 65535, 65535, 65535, 65535, 32767]
theorem pd_D : D pd = 57896044618658097711785492504343953926634992332820282019728792003956564819949 := by decide
/-- a number of p or above, below 2^255 -/
theorem Dig.less {t : List Int} (h : Dig t) (hp : 57896044618658097711785492504343953926634992332820282019728792003956564819949 ≤ D t) : dg ((D t).toNat % P) = (t.getD 0 0 - 65517) :: List.replicate 15 0 := by
  have hlt := h.lt
  have h0 := D_digit t h.bd 0 (by rw [h.len]; decide)
  rw [Int.pow_zero, Int.ediv_one] at h0
  have hP : (D t).toNat % P = (D t).toNat - 57896044618658097711785492504343953926634992332820282019728792003956564819949 := by
    have e : P = 57896044618658097711785492504343953926634992332820282019728792003956564819949 := rfl
    rw [e]
    omega
  have hsm : (D t).toNat - 57896044618658097711785492504343953926634992332820282019728792003956564819949 < 19 := by omega
  rw [hP]
  have e0 : t.getD 0 0 - 65517 = (((D t).toNat - 57896044618658097711785492504343953926634992332820282019728792003956564819949 : Nat) : Int) := by rw [h0]; omega
  rw [e0]
  have : ∀ m : Nat, m < 19 → dg m = (m : Int) :: List.replicate 15 0 := by decide
  exact this _ hsm
end Go.Fld
