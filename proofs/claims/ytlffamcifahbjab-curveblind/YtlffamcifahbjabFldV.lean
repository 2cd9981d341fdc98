import Derived.Test.YtlffamcifahbjabFldY
namespace Go.Proofs.Ytlffamcifahbjab
set_option linter.unusedSimpArgs false
open Go.ChangeShapes Go.WideShapes Go.ChangeAt Go.RowKit Go.Pin Go.Fld
/-- a Recorder and boxes of Elements beside it, all from B on -/
structure Env (B : Nat) (w : World) (R : Nat) (l : List (Int × Int)) (bx : List (Nat × List Int)) (wr : World) : Prop where
  old : Below B w wr
  ex : ∃ vs, Rec B wr R vs l ∧ ∀ p ∈ bx, rowAt wr p.1 p.2 39 ∧ ¬ Blk R vs p.1
  ge : ∀ p ∈ bx, B ≤ p.1
theorem Env.below {B : Nat} {w : World} {R : Nat} {l : List (Int × Int)} {bx : List (Nat × List Int)} {wr w' : World} (h : Env B w R l bx wr) (hb : Below wr.heap.size wr w') : Env B w R l bx w' := by
  obtain ⟨h1, ⟨vs, h2, h3⟩, h4⟩ := h
  exact ⟨h1.trans (hb.mono (by have := h2.1; have := h2.lt R (.inl rfl); omega)), ⟨vs, h2.below hb, fun p hp => ⟨row_below (h3 p hp).1 hb, (h3 p hp).2⟩⟩, h4⟩
theorem Env.new {B : Nat} {w : World} {R : Nat} {l : List (Int × Int)} {bx : List (Nat × List Int)} {wr : World} (h : Env B w R l bx wr) (x : List Int) : Env B w R l ((wr.heap.size, x) :: bx) (wr.alloc (.cells (VI .u64 x) 39)) := by
  have hb : Below wr.heap.size wr (wr.alloc (.cells (VI .u64 x) 39)) := (Below.refl _ _).alloc (Nat.le_refl _) _
  obtain ⟨h1, ⟨vs, h2, h3⟩, h4⟩ := h.below hb
  obtain ⟨g1, ⟨us, g2, g3⟩, g4⟩ := h
  refine ⟨h1, ⟨us, g2.below hb, fun p hp => ?_⟩, fun p hp => ?_⟩
  · rcases List.mem_cons.1 hp with rfl | hp
    · exact ⟨by simp only [rowAt, heap_alloc_any, if_true], fun hk => by have := g2.lt _ hk; simp at this⟩
    · exact ⟨row_below (g3 p hp).1 hb, (g3 p hp).2⟩
  · rcases List.mem_cons.1 hp with rfl | hp
    · have := g2.1; have := g2.lt R (.inl rfl); show B ≤ wr.heap.size; omega
    · exact h4 p hp
theorem Env.row {B : Nat} {w : World} {R : Nat} {l : List (Int × Int)} {bx : List (Nat × List Int)} {wr : World} (h : Env B w R l bx wr) {g : Nat} {x : List Int} (hp : (g, x) ∈ bx) : rowAt wr g x 39 := by
  obtain ⟨_, h3⟩ := h.ex
  exact (h3.2 _ hp).1
theorem Env.lt {B : Nat} {w : World} {R : Nat} {l : List (Int × Int)} {bx : List (Nat × List Int)} {wr : World} (h : Env B w R l bx wr) {g : Nat} {x : List Int} (hp : (g, x) ∈ bx) : g < wr.heap.size := (Array.getElem?_eq_some_iff.1 (h.row hp)).1
theorem Env.logged {B : Nat} {w : World} {R : Nat} {vs : Value} {l : List (Int × Int)} {bx : List (Nat × List Int)} {x : Int × Int} {wr w' : World} (hr : Rec B wr R vs l) (hbx : ∀ p ∈ bx, rowAt wr p.1 p.2 39 ∧ ¬ Blk R vs p.1) (h1 : Below B w wr) (h4 : ∀ p ∈ bx, B ≤ p.1) (hg : Logged B R vs l x wr w') : Env B w R (l ++ [x]) bx w' := by
  obtain ⟨vs', g1, g2, g3⟩ := hg
  refine ⟨h1.trans (g2.below hr.ge (by have := hr.1; have := hr.lt R (.inl rfl); omega)), ⟨vs', g1, fun p hp => ⟨row_grow (hbx p hp).1 g2 (hbx p hp).2, fun hk => ?_⟩⟩, h4⟩
  have hlt : p.1 < wr.heap.size := (Array.getElem?_eq_some_iff.1 (hbx p hp).1).1
  rcases hk with hk | hk
  · exact (hbx p hp).2 (.inl hk)
  · rcases g3 with g3 | ⟨g, g3, hge⟩
    · exact (hbx p hp).2 (.inr (g3 ▸ hk))
    · rw [g3] at hk; injection hk with hk; omega
theorem Env.op {B : Nat} {w : World} {R : Nat} {l : List (Int × Int)} {bx : List (Nat × List Int)} {wr : World} (h : Env B w R l bx wr) (hl : l.length ≤ 1000000) (v : Int) : ∃ Q, Opc (.pointer (some ⟨R, 0, none⟩)) v wr Q ∧ ∀ w', Opd Q wr w' → Env B w R (l ++ [(3, v)]) bx w' := by
  obtain ⟨h1, ⟨vs, h2, h3⟩, h4⟩ := h
  exact ⟨_, opc_rec v h2 hl, fun w' ho => Env.logged h2 h3 h1 h4 (Opd.rec h2 ho)⟩
section
variable {B : Nat} {w : World} {R : Nat} {l : List (Int × Int)} {bx : List (Nat × List Int)} {wr : World} (h : Env B w R l bx wr) (hl : l.length ≤ 1000000) {a b : List Int} (ha : Lim a) (hb : Lim b)
include h hl ha
include hb in
theorem e_add : Calls Try.prog 25 #[.pointer (some ⟨R, 0, none⟩), .agg (VI .u64 a), .agg (VI .u64 b)] wr fun e w' => e = .returned (.agg (VI .u64 (stl (List.zipWith (· + ·) a b)))) ∧ Env B w R (l ++ [(3, 1)]) bx w' := by
  obtain ⟨Q, h1, h2⟩ := h.op hl 1
  exact (add_any _ a b ha hb wr Q h1).mono fun e w' hh => ⟨hh.1, h2 w' hh.2⟩
include hb in
theorem e_sub : Calls Try.prog 27 #[.pointer (some ⟨R, 0, none⟩), .agg (VI .u64 a), .agg (VI .u64 b)] wr fun e w' => e = .returned (.agg (VI .u64 (stl (subL a b)))) ∧ Env B w R (l ++ [(3, 2)]) bx w' := by
  obtain ⟨Q, h1, h2⟩ := h.op hl 2
  exact (sub_any _ a b ha hb wr Q h1).mono fun e w' hh => ⟨hh.1, h2 w' hh.2⟩
include hb in
theorem e_mul : Calls Try.prog 16 #[.pointer (some ⟨R, 0, none⟩), .agg (VI .u64 a), .agg (VI .u64 b)] wr fun e w' => e = .returned (.agg (VI .u64 (prod a b))) ∧ Env B w R (l ++ [(3, 3)]) bx w' := by
  obtain ⟨Q, h1, h2⟩ := h.op hl 3
  exact (mul_any _ a b ha hb wr Q h1).mono fun e w' hh => ⟨hh.1, h2 w' hh.2⟩
theorem e_square : Calls Try.prog 26 #[.pointer (some ⟨R, 0, none⟩), .agg (VI .u64 a)] wr fun e w' => e = .returned (.agg (VI .u64 (prod a a))) ∧ Env B w R (l ++ [(3, 4)]) bx w' := by
  obtain ⟨Q, h1, h2⟩ := h.op hl 4
  exact (square_any _ a ha wr Q h1).mono fun e w' hh => ⟨hh.1, h2 w' hh.2⟩
theorem e_scale (n : Int) (n0 : 0 ≤ n) (n1 : n < 4294967296) : Calls Try.prog 28 #[.pointer (some ⟨R, 0, none⟩), .agg (VI .u64 a), .int .u32 n] wr fun e w' => e = .returned (.agg (VI .u64 (prod a [n, 0, 0, 0, 0]))) ∧ Env B w R (l ++ [(3, 5)]) bx w' := by
  obtain ⟨Q, h1, h2⟩ := h.op hl 5
  exact (scale_any _ a n n0 n1 ha wr Q h1).mono fun e w' hh => ⟨hh.1, h2 w' hh.2⟩
theorem e_invert : Calls Try.prog 17 #[.pointer (some ⟨R, 0, none⟩), .agg (VI .u64 a)] wr fun e w' => e = .returned (.agg (VI .u64 (qw a 5))) ∧ Env B w R (l ++ [(3, 6)]) bx w' := by
  obtain ⟨Q, h1, h2⟩ := h.op hl 6
  exact (invert_any _ a ha wr Q h1).mono fun e w' hh => ⟨hh.1, h2 w' hh.2⟩
end
theorem swI_rows {w : World} {ga gb : Nat} {a b x y : List Int} {T : TypeId} (ha : rowAt w ga a T) (hb : rowAt w gb b T) (la : a.length = 5) (lb : b.length = 5) : SwI ga 0 gb 0 w a b x y 0 w :=
  ⟨CW.refl _ _, fun j hj => by rw [Nat.zero_add, if_neg (by omega)]; exact row_cell ha (by omega), fun j hj => by rw [Nat.zero_add, if_neg (by omega)]; exact row_cell hb (by omega), fun j => frozen_of_row w _ _ _ _ ha, fun j => frozen_of_row w _ _ _ _ hb⟩
theorem swI_done {W1 w' : World} {ga gb : Nat} {a b x y : List Int} {T : TypeId} (h : SwI ga 0 gb 0 W1 a b x y 5 w') (ha : rowAt W1 ga a T) (hb : rowAt W1 gb b T) (la : a.length = 5) (lb : b.length = 5) (lx : x.length = 5) (ly : y.length = 5) : rowAt w' ga x T ∧ rowAt w' gb y T ∧ But (fun k => k = ga ∨ k = gb) W1 w' := by
  refine ⟨h.cw.row ha (lx.trans la.symm) (fun j hj => ?_), h.cw.row hb (ly.trans lb.symm) (fun j hj => ?_), ⟨h.cw.os, h.cw.tape, h.cw.output, h.cw.size, fun k hk => h.cw.other k (fun j hs => ?_)⟩⟩
  · have := h.ca j (by omega); rw [Nat.zero_add, if_pos (by omega)] at this; exact this
  · have := h.cb j (by omega); rw [Nat.zero_add, if_pos (by omega)] at this; exact this
  · rcases hs with hs | hs
    · exact hk (.inl hs.1)
    · exact hk (.inr hs.1)
/-- Swap of two boxes -/
theorem e_swap {B : Nat} {w : World} {R : Nat} {l : List (Int × Int)} {bx : List (Nat × List Int)} {wr : World} {ga gb : Nat} {a b : List Int} (h : Env B w R l ((ga, a) :: (gb, b) :: bx) wr) (hl : l.length ≤ 1000000) (ha : Lim a) (hb : Lim b) (hab : ga ≠ gb) (hbx : ∀ p ∈ bx, p.1 ≠ ga ∧ p.1 ≠ gb) (s : Int) (s0 : 0 ≤ s) (s1 : s < 18446744073709551616) :
    Calls Try.prog 24 #[.pointer (some ⟨R, 0, none⟩), .int .u64 s, .pointer (some ⟨ga, 0, none⟩), .pointer (some ⟨gb, 0, none⟩)] wr fun e w' => e = .returned (.tuple #[]) ∧ Env B w R (l ++ [(3, 7)]) ((ga, swp s a b) :: (gb, swp s b a) :: bx) w' := by
  obtain ⟨h1, ⟨vs, h2, h3⟩, h4⟩ := h
  have hla : (swp s a b).length = 5 := by unfold swp; split; exact hb.len; exact ha.len
  have hlb : (swp s b a).length = 5 := by unfold swp; split; exact ha.len; exact hb.len
  refine (fswap_any _ s s0 s1 ga 0 gb 0 a b ha hb wr (fun W1 => Env B w R (l ++ [(3, 7)]) ((ga, a) :: (gb, b) :: bx) W1) ?_ (fun W1 hq => swI_rows (hq.row (by simp)) (hq.row (by simp)) ha.len hb.len) (.inl fun i j _ _ e => hab (congrArg Addr.block e))).mono ?_
  · exact (rOp_any B R vs l 7 wr h2 hl).mono fun e W1 hh => ⟨hh.1, Env.logged h2 h3 h1 h4 hh.2⟩
  · rintro e w' ⟨he, W1, hq, hs⟩
    refine ⟨he, ?_⟩
    obtain ⟨q1, q2, q3⟩ := swI_done hs (hq.row (by simp)) (hq.row (by simp)) ha.len hb.len hla hlb
    obtain ⟨k1, ⟨us, k2, k3⟩, k4⟩ := hq
    have nA := (k3 (ga, a) (by simp)).2
    have nB := (k3 (gb, b) (by simp)).2
    have gA := k4 (ga, a) (by simp)
    have gB := k4 (gb, b) (by simp)
    have hg : Grow (fun k => k = ga ∨ k = gb) W1 w' := ⟨q3.os, q3.tape, q3.output, by rw [q3.size]; exact Nat.le_refl _, fun k _ hk => q3.block k hk⟩
    refine ⟨k1.trans (q3.below (fun k hk => by rcases hk with rfl | rfl; exact gA; exact gB)), ⟨us, k2.grow hg (fun k hk hn => by rcases hn with rfl | rfl; exact nA hk; exact nB hk), fun p hp => ?_⟩, fun p hp => ?_⟩
    · simp only [List.mem_cons] at hp
      rcases hp with rfl | rfl | hp
      · exact ⟨q1, nA⟩
      · exact ⟨q2, nB⟩
      · have hn := hbx p hp
        exact ⟨(q3.block p.1 (by omega)).trans (k3 p (by simp [hp])).1, (k3 p (by simp [hp])).2⟩
    · simp only [List.mem_cons] at hp
      rcases hp with rfl | rfl | hp
      · exact gA
      · exact gB
      · exact k4 p (by simp [hp])
theorem e_total {B : Nat} {w : World} {R : Nat} {l : List (Int × Int)} {bx : List (Nat × List Int)} {wr : World} (h : Env B w R l bx wr) : Calls Try.prog 11 #[.pointer (some ⟨R, 0, none⟩)] wr fun e w' => e = .returned (.int .i64 l.length) ∧ w' = wr := by
  obtain ⟨vs, h2, _⟩ := h.ex
  exact total_any _ vs l wr h2.opt
theorem e_new (w : World) : Env w.heap.size w w.heap.size [] [] (w.alloc (.cells #[.slice none 0 0, .int .i64 0] 55)) :=
  ⟨(Below.refl _ _).alloc (Nat.le_refl _) _, ⟨_, rec_new w, by simp⟩, by simp⟩
theorem Env.sub {B : Nat} {w : World} {R : Nat} {l : List (Int × Int)} {bx by' : List (Nat × List Int)} {wr : World} (h : Env B w R l bx wr) (hs : ∀ p ∈ by', p ∈ bx) : Env B w R l by' wr := by
  obtain ⟨h1, ⟨vs, h2, h3⟩, h4⟩ := h
  exact ⟨h1, ⟨vs, h2, fun p hp => h3 p (hs p hp)⟩, fun p hp => h4 p (hs p hp)⟩
/-- bytes of a small number -/
def kk (n : Int) : List Int := [n, 0, 0, 0, 0, 0, 0, 0, 0, 0, 0, 0, 0, 0, 0, 0, 0, 0, 0, 0, 0, 0, 0, 0, 0, 0, 0, 0, 0, 0, 0, 0]
theorem kk_key (n : Int) (h0 : 0 ≤ n) (h1 : n < 256) : Key32 (kk n) := ⟨rfl, by simp [kk]; omega⟩
theorem lim_small (n : Int) (h0 : 0 ≤ n) (h1 : n < 4503599627370496) : Lim [n, 0, 0, 0, 0] := ⟨rfl, by simp; omega⟩
theorem enc_is {x : List Int} {n : Int} (hx : Lim x) (hn : bts (num x) = kk n) (w : World) : Calls Try.prog 18 #[.agg (VI .u64 x)] w fun e w' => e = .returned (.agg (VI .u8 (kk n))) ∧ Below w.heap.size w w' := by
  have := enc_any x hx w
  rw [hn] at this
  exact this
theorem dec_is {n : Int} (h0 : 0 ≤ n) (h1 : n < 256) (hd : dec (kk n) = [n, 0, 0, 0, 0]) (w : World) : Calls Try.prog 13 #[.agg (VI .u8 (kk n))] w fun e w' => e = .returned (.agg (VI .u64 [n, 0, 0, 0, 0])) ∧ Below w.heap.size w w' := by
  have := decode_any (kk n) (kk_key n h0 h1) w
  rw [hd] at this
  exact this
end Go.Proofs.Ytlffamcifahbjab
