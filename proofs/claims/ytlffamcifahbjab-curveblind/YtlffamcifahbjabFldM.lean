import Derived.Test.YtlffamcifahbjabFldO
namespace Go.Proofs.Ytlffamcifahbjab
set_option linter.unusedSimpArgs false
open Go.ChangeShapes Go.WideShapes Go.ChangeAt Go.RowKit Go.Pin Go.Fld
theorem alloc2_rows (w : World) (a : List Int) : rowAt ((w.alloc (.cells (VI .u64 a) 39)).alloc (.cells (VI .u64 (List.replicate 5 0)) 39)) w.heap.size a 39 ∧
    rowAt ((w.alloc (.cells (VI .u64 a) 39)).alloc (.cells (VI .u64 (List.replicate 5 0)) 39)) (w.heap.size + 1) (List.replicate 5 0) 39 ∧
    ((w.alloc (.cells (VI .u64 a) 39)).alloc (.cells (VI .u64 (List.replicate 5 0)) 39)).heap.size = w.heap.size + 2 ∧
    Below w.heap.size w ((w.alloc (.cells (VI .u64 a) 39)).alloc (.cells (VI .u64 (List.replicate 5 0)) 39)) := by
  refine ⟨?_, ?_, by simp [size_alloc], ((Below.refl _ _).alloc (Nat.le_refl _) _).alloc (by simp) _⟩
  all_goals simp only [rowAt, heap_alloc_any, size_alloc]
  · rw [if_neg (by omega), if_pos trivial]
  · rw [if_pos trivial]
theorem row_below {w w' : World} {g : Nat} {l : List Int} {T : TypeId} (h : rowAt w g l T) (hb : Below w.heap.size w w') : rowAt w' g l T :=
  (hb.block g (Array.getElem?_eq_some_iff.1 h).1).trans h
theorem row_grow {S : Nat → Prop} {w w' : World} {g : Nat} {l : List Int} {T : TypeId} (h : rowAt w g l T) (hb : Grow S w w') (hS : ¬ S g) : rowAt w' g l T :=
  (hb.block g (Array.getElem?_eq_some_iff.1 h).1 hS).trans h
theorem prod_lim {a b : List Int} (ha : Lim a) (hb : Lim b) : Lim (prod a b) := (prod_el ha hb).1
set_option maxRecDepth 100000 in
set_option maxHeartbeats 4000000 in
theorem mul_any (rv : Value) (a b : List Int) (ha : Lim a) (hb : Lim b) (w : World) (Q : World → World → Prop) (hq : Opc rv 3 w Q) :
    Calls Try.prog 16 #[rv, .agg (VI .u64 a), .agg (VI .u64 b)] w fun e w' => e = .returned (.agg (VI .u64 (prod a b))) ∧ Opd Q w w' := by
  have HA : Hid (Lim a) := ha
  have HB : Hid (Lim b) := hb
  have HQ : Hid (Opc rv 3 w Q) := hq
  obtain ⟨r1, r2, r3, hs, hbw⟩ := alloc3_rows w a b
  obtain ⟨W, hW⟩ : ∃ W, ((w.alloc (.cells (VI .u64 a) 39)).alloc (.cells (VI .u64 b) 39)).alloc (.cells (VI .u64 (List.replicate 5 0)) 39) = W := ⟨_, rfl⟩
  have hW' : ((w.alloc (.cells (VI .u64 a) 39)).alloc (.cells (VI .u64 b) 39)).alloc (.cells #[.int .u64 0, .int .u64 0, .int .u64 0, .int .u64 0, .int .u64 0] 39) = W := hW
  rw [hW] at r1 r2 r3 hs hbw
  have HS : Hid (W.heap.size = w.heap.size + 3) := hs
  have HBW : Hid (Below w.heap.size w W) := hbw
  have HAW : Hid (∀ W1, Grow (fun k => k < w.heap.size) W W1 → AW w.heap.size W1 a b W1) := fun W1 hg => AW.start r1 r2 r3 hs hg
  have hpl := (prod_lim ha hb).len
  clear hW r1 r2 r3 hs hbw hq ha hb
  obtain ⟨x0, x1, x2, x3, x4, hxe⟩ := five hpl
  have hv : VI .u64 (prod a b) = #[.int .u64 x0, .int .u64 x1, .int .u64 x2, .int .u64 x3, .int .u64 x4] := by rw [hxe]; rfl
  clear hpl hxe
  go_enter Try.func16, Try.ntmps16
  go_wp2_with (first | (go_at_call 29; refine (HQ.out.call _ HBW.out).mono ?_; rintro e W1 ⟨rfl, hQ⟩; have hp := HAW.out W1 (HQ.out.keep _ _ HBW.out hQ); obtain ⟨a0, a1, a2, a3, a4, hae, ha0, ha1, ha2, ha3, ha4, _, _, _, _, _⟩ := row5 hp.ha HA.out.len; obtain ⟨b0, b1, b2, b3, b4, hbe, hb0, hb1, hb2, hb3, hb4, _, _, _, _, _⟩ := row5 hp.hb HB.out.len; have HP : Hid (AW w.heap.size W1 a b W1) := hp; have HD : Hid (∀ w', Grow (fun k => w.heap.size ≤ k ∧ k < w.heap.size + 3) W1 w' → Opd Q w w') := (fun w' hg => ⟨W, W1, HBW.out, hQ, hg.mono (fun k hk => by rw [HS.out]; exact hk)⟩); clear hp HAW hQ hW' HQ HBW HS) | (go_at_call 30; have hpr := product_any a b HA.out HB.out W1; rw [hv] at hpr; rw [hae.out, hbe.out] at hpr; refine hpr.mono ?_; rintro e w2 ⟨rfl, hb2⟩; have hr2 := row_below HP.out.hr hb2; obtain ⟨_, _, _, _, _, _, hy0, hy1, hy2, hy3, hy4, hz0, hz1, hz2, hz3, hz4⟩ := row5 hr2 (by simp); have HR2 : Hid (rowAt w2 (w.heap.size + 2) (List.replicate 5 0) 39) := hr2; have HB2 : Hid (Below W1.heap.size W1 w2) := hb2; clear hr2 hb2 hpr))
  refine bodyPost_ret (v := .agg (VI .u64 [x0, x1, x2, x3, x4])) ?_ rfl ⟨by rw [hv]; rfl, HD.out _ ((((((HP.out.grow.bel HB2.out).setCell ?_ _).setCell ?_ _).setCell ?_ _).setCell ?_ _).setCell ?_ _)⟩
  · exact results_cell_row (P := Try.prog) (fn := Try.f16) (p := 6) (ty := 39) rfl _ _ (w.heap.size + 1 + 1) 39 (VI .u64 [x0, x1, x2, x3, x4]) (0, 0) _ rfl (store5 HR2.out x0 x1 x2 x3 x4) Try.underlying39 rfl infoE
  all_goals (left; simp; omega)
/-- the boxes of Square, Scale and Invert -/
structure BW (n : Nat) (W' : World) (a : List Int) (wr : World) : Prop where
  grow : Grow (fun k => n ≤ k ∧ k < n + 2) W' wr
  sz : n + 2 ≤ wr.heap.size
  ha : rowAt wr n a 39
  hr : rowAt wr (n + 1) (List.replicate 5 0) 39
theorem BW.start {n : Nat} {W W' : World} {a : List Int} (ha : rowAt W n a 39) (hr : rowAt W (n + 1) (List.replicate 5 0) 39) (hs : W.heap.size = n + 2) (hg : Grow (fun k => k < n) W W') : BW n W' a W' :=
  ⟨Grow.refl _ _, by rw [← hs]; exact hg.size, (hg.block _ (by omega) (by omega)).trans ha, (hg.block _ (by omega) (by omega)).trans hr⟩
set_option maxRecDepth 100000 in
set_option maxHeartbeats 4000000 in
theorem square_any (rv : Value) (a : List Int) (ha : Lim a) (w : World) (Q : World → World → Prop) (hq : Opc rv 4 w Q) :
    Calls Try.prog 26 #[rv, .agg (VI .u64 a)] w fun e w' => e = .returned (.agg (VI .u64 (prod a a))) ∧ Opd Q w w' := by
  have HA : Hid (Lim a) := ha
  have HQ : Hid (Opc rv 4 w Q) := hq
  obtain ⟨r1, r2, hs, hbw⟩ := alloc2_rows w a
  obtain ⟨W, hW⟩ : ∃ W, (w.alloc (.cells (VI .u64 a) 39)).alloc (.cells (VI .u64 (List.replicate 5 0)) 39) = W := ⟨_, rfl⟩
  have hW' : (w.alloc (.cells (VI .u64 a) 39)).alloc (.cells #[.int .u64 0, .int .u64 0, .int .u64 0, .int .u64 0, .int .u64 0] 39) = W := hW
  rw [hW] at r1 r2 hs hbw
  have HS : Hid (W.heap.size = w.heap.size + 2) := hs
  have HBW : Hid (Below w.heap.size w W) := hbw
  have HAW : Hid (∀ W1, Grow (fun k => k < w.heap.size) W W1 → BW w.heap.size W1 a W1) := fun W1 hg => BW.start r1 r2 hs hg
  have hlb : Lim (a) := ha
  have HLB : Hid (Lim (a)) := hlb
  have hpl := (prod_lim ha hlb).len
  clear hW r1 r2 hs hbw hq ha hlb
  obtain ⟨x0, x1, x2, x3, x4, hxe⟩ := five hpl
  have hv : VI .u64 (prod a a) = #[.int .u64 x0, .int .u64 x1, .int .u64 x2, .int .u64 x3, .int .u64 x4] := by rw [hxe]; rfl
  clear hpl hxe
  go_enter Try.func26, Try.ntmps26
  go_wp2_with (first | (go_at_call 29; refine (HQ.out.call _ HBW.out).mono ?_; rintro e W1 ⟨rfl, hQ⟩; have hp := HAW.out W1 (HQ.out.keep _ _ HBW.out hQ); obtain ⟨a0, a1, a2, a3, a4, hae, ha0, ha1, ha2, ha3, ha4, _, _, _, _, _⟩ := row5 hp.ha HA.out.len; have HP : Hid (BW w.heap.size W1 a W1) := hp; have HD : Hid (∀ w', Grow (fun k => w.heap.size ≤ k ∧ k < w.heap.size + 2) W1 w' → Opd Q w w') := (fun w' hg => ⟨W, W1, HBW.out, hQ, hg.mono (fun k hk => by rw [HS.out]; exact hk)⟩); clear hp HAW hQ hW' HQ HBW HS) | (go_at_call 30; have hpr := product_any a (a) HA.out HLB.out W1; rw [hv] at hpr; rw [hae.out] at hpr; refine hpr.mono ?_; rintro e w2 ⟨rfl, hb2⟩; have hr2 := row_below HP.out.hr hb2; obtain ⟨_, _, _, _, _, _, hy0, hy1, hy2, hy3, hy4, hz0, hz1, hz2, hz3, hz4⟩ := row5 hr2 (by simp); have HR2 : Hid (rowAt w2 (w.heap.size + 1) (List.replicate 5 0) 39) := hr2; have HB2 : Hid (Below W1.heap.size W1 w2) := hb2; clear hr2 hb2 hpr))
  refine bodyPost_ret (v := .agg (VI .u64 [x0, x1, x2, x3, x4])) ?_ rfl ⟨by rw [hv]; rfl, HD.out _ ((((((HP.out.grow.bel HB2.out).setCell ?_ _).setCell ?_ _).setCell ?_ _).setCell ?_ _).setCell ?_ _)⟩
  · exact results_cell_row (P := Try.prog) (fn := Try.f26) (p := 4) (ty := 39) rfl _ _ (w.heap.size + 1) 39 (VI .u64 [x0, x1, x2, x3, x4]) (0, 0) _ rfl (store5 HR2.out x0 x1 x2 x3 x4) Try.underlying39 rfl infoE
  all_goals (left; simp)
set_option maxRecDepth 100000 in
set_option maxHeartbeats 4000000 in
theorem scale_any (rv : Value) (a : List Int) (n : Int) (n0 : 0 ≤ n) (n1 : n < 4294967296) (ha : Lim a) (w : World) (Q : World → World → Prop) (hq : Opc rv 5 w Q) :
    Calls Try.prog 28 #[rv, .agg (VI .u64 a), .int .u32 n] w fun e w' => e = .returned (.agg (VI .u64 (prod a [n, 0, 0, 0, 0]))) ∧ Opd Q w w' := by
  have HA : Hid (Lim a) := ha
  have HQ : Hid (Opc rv 5 w Q) := hq
  obtain ⟨r1, r2, hs, hbw⟩ := alloc2_rows w a
  obtain ⟨W, hW⟩ : ∃ W, (w.alloc (.cells (VI .u64 a) 39)).alloc (.cells (VI .u64 (List.replicate 5 0)) 39) = W := ⟨_, rfl⟩
  have hW' : (w.alloc (.cells (VI .u64 a) 39)).alloc (.cells #[.int .u64 0, .int .u64 0, .int .u64 0, .int .u64 0, .int .u64 0] 39) = W := hW
  rw [hW] at r1 r2 hs hbw
  have HS : Hid (W.heap.size = w.heap.size + 2) := hs
  have HBW : Hid (Below w.heap.size w W) := hbw
  have HAW : Hid (∀ W1, Grow (fun k => k < w.heap.size) W W1 → BW w.heap.size W1 a W1) := fun W1 hg => BW.start r1 r2 hs hg
  have hlb : Lim ([n, 0, 0, 0, 0]) := ⟨rfl, by simp; omega⟩
  have HLB : Hid (Lim ([n, 0, 0, 0, 0])) := hlb
  have hpl := (prod_lim ha hlb).len
  clear hW r1 r2 hs hbw hq ha hlb
  obtain ⟨x0, x1, x2, x3, x4, hxe⟩ := five hpl
  have hv : VI .u64 (prod a [n, 0, 0, 0, 0]) = #[.int .u64 x0, .int .u64 x1, .int .u64 x2, .int .u64 x3, .int .u64 x4] := by rw [hxe]; rfl
  clear hpl hxe
  go_enter Try.func28, Try.ntmps28
  go_wp2_with (first | (go_at_call 29; refine (HQ.out.call _ HBW.out).mono ?_; rintro e W1 ⟨rfl, hQ⟩; have hp := HAW.out W1 (HQ.out.keep _ _ HBW.out hQ); obtain ⟨a0, a1, a2, a3, a4, hae, ha0, ha1, ha2, ha3, ha4, _, _, _, _, _⟩ := row5 hp.ha HA.out.len; have HP : Hid (BW w.heap.size W1 a W1) := hp; have HD : Hid (∀ w', Grow (fun k => w.heap.size ≤ k ∧ k < w.heap.size + 2) W1 w' → Opd Q w w') := (fun w' hg => ⟨W, W1, HBW.out, hQ, hg.mono (fun k hk => by rw [HS.out]; exact hk)⟩); clear hp HAW hQ hW' HQ HBW HS) | (go_at_call 30; have hpr := product_any a ([n, 0, 0, 0, 0]) HA.out HLB.out W1; rw [hv] at hpr; rw [hae.out] at hpr; refine hpr.mono ?_; rintro e w2 ⟨rfl, hb2⟩; have hr2 := row_below HP.out.hr hb2; obtain ⟨_, _, _, _, _, _, hy0, hy1, hy2, hy3, hy4, hz0, hz1, hz2, hz3, hz4⟩ := row5 hr2 (by simp); have HR2 : Hid (rowAt w2 (w.heap.size + 1) (List.replicate 5 0) 39) := hr2; have HB2 : Hid (Below W1.heap.size W1 w2) := hb2; clear hr2 hb2 hpr))
  refine bodyPost_ret (v := .agg (VI .u64 [x0, x1, x2, x3, x4])) ?_ rfl ⟨by rw [hv]; rfl, HD.out _ ((((((HP.out.grow.bel HB2.out).setCell ?_ _).setCell ?_ _).setCell ?_ _).setCell ?_ _).setCell ?_ _)⟩
  · exact results_cell_row (P := Try.prog) (fn := Try.f28) (p := 6) (ty := 39) rfl _ _ (w.heap.size + 1) 39 (VI .u64 [x0, x1, x2, x3, x4]) (0, 0) _ rfl (store5 HR2.out x0 x1 x2 x3 x4) Try.underlying39 rfl infoE
  all_goals (left; simp)
end Go.Proofs.Ytlffamcifahbjab
