import Derived.Test.YtlffamcifahbjaaMgad
namespace Go.Proofs.Ytlffamcifahbjaa
set_option linter.unusedSimpArgs false
open Go.ChangeShapes Go.WideShapes Go.ChangeAt Go.RowKit Go.Pin Go.Fld
theorem alloc2_rows (w : World) (a : List Int) : rowAt ((w.alloc (.cells (VI .u64 a) 51)).alloc (.cells (VI .u64 (List.replicate 5 0)) 51)) w.heap.size a 51 ∧
    rowAt ((w.alloc (.cells (VI .u64 a) 51)).alloc (.cells (VI .u64 (List.replicate 5 0)) 51)) (w.heap.size + 1) (List.replicate 5 0) 51 ∧
    ((w.alloc (.cells (VI .u64 a) 51)).alloc (.cells (VI .u64 (List.replicate 5 0)) 51)).heap.size = w.heap.size + 2 ∧
    Below w.heap.size w ((w.alloc (.cells (VI .u64 a) 51)).alloc (.cells (VI .u64 (List.replicate 5 0)) 51)) := by
  refine ⟨?_, ?_, by simp [size_alloc], ((Below.refl _ _).alloc (Nat.le_refl _) _).alloc (by simp) _⟩
  all_goals simp only [rowAt, heap_alloc_any, size_alloc]
  · rw [if_neg (by omega), if_pos trivial]
  · rw [if_pos trivial]
theorem row_below {w w' : World} {g : Nat} {l : List Int} {T : TypeId} (h : rowAt w g l T) (hb : Below w.heap.size w w') : rowAt w' g l T :=
  (hb.block g (Array.getElem?_eq_some_iff.1 h).1).trans h
theorem row_grow {S : Nat → Prop} {w w' : World} {g : Nat} {l : List Int} {T : TypeId} (h : rowAt w g l T) (hb : Grow S w w') (hS : ¬ S g) : rowAt w' g l T :=
  (hb.block g (Array.getElem?_eq_some_iff.1 h).1 hS).trans h
theorem prod_lim {a b : List Int} (ha : Lim a) (hb : Lim b) : Lim (prod a b) := (prod_el ha hb).1
set_option maxRecDepth 100000 in
set_option maxHeartbeats 4000000 in
theorem mul_any (rv : Value) (a b : List Int) (ha : Lim a) (hb : Lim b) (w : World) (Q : World → World → Prop) (hq : Opc rv 3 w Q) :
    Calls Try.prog 25 #[rv, .agg (VI .u64 a), .agg (VI .u64 b)] w fun e w' => e = .returned (.agg (VI .u64 (prod a b))) ∧ Opd Q w w' := by
  have HA : Hid (Lim a) := ha
  have HB : Hid (Lim b) := hb
  have HQ : Hid (Opc rv 3 w Q) := hq
  obtain ⟨r1, r2, r3, hs, hbw⟩ := alloc3_rows w a b
  obtain ⟨W, hW⟩ : ∃ W, ((w.alloc (.cells (VI .u64 a) 51)).alloc (.cells (VI .u64 b) 51)).alloc (.cells (VI .u64 (List.replicate 5 0)) 51) = W := ⟨_, rfl⟩
  have hW' : ((w.alloc (.cells (VI .u64 a) 51)).alloc (.cells (VI .u64 b) 51)).alloc (.cells #[.int .u64 0, .int .u64 0, .int .u64 0, .int .u64 0, .int .u64 0] 51) = W := hW
  rw [hW] at r1 r2 r3 hs hbw
  have HS : Hid (W.heap.size = w.heap.size + 3) := hs
  have HBW : Hid (Below w.heap.size w W) := hbw
  have HAW : Hid (∀ W1, Grow (fun k => k < w.heap.size) W W1 → AW w.heap.size W1 a b W1) := fun W1 hg => AW.start r1 r2 r3 hs hg
  have hpl := (prod_lim ha hb).len
  clear hW r1 r2 r3 hs hbw hq ha hb
  obtain ⟨x0, x1, x2, x3, x4, hxe⟩ := five hpl
  have hv : VI .u64 (prod a b) = #[.int .u64 x0, .int .u64 x1, .int .u64 x2, .int .u64 x3, .int .u64 x4] := by rw [hxe]; rfl
  clear hpl hxe
  go_enter Try.func25, Try.ntmps25
  go_wp2_with (first | (go_at_call 44; refine (HQ.out.call _ HBW.out).mono ?_; rintro e W1 ⟨rfl, hQ⟩; have hp := HAW.out W1 (HQ.out.keep _ _ HBW.out hQ); obtain ⟨a0, a1, a2, a3, a4, hae, ha0, ha1, ha2, ha3, ha4, _, _, _, _, _⟩ := row5 hp.ha HA.out.len; obtain ⟨b0, b1, b2, b3, b4, hbe, hb0, hb1, hb2, hb3, hb4, _, _, _, _, _⟩ := row5 hp.hb HB.out.len; have HP : Hid (AW w.heap.size W1 a b W1) := hp; have HD : Hid (∀ w', Grow (fun k => w.heap.size ≤ k ∧ k < w.heap.size + 3) W1 w' → Opd Q w w') := (fun w' hg => ⟨W, W1, HBW.out, hQ, hg.mono (fun k hk => by rw [HS.out]; exact hk)⟩); clear hp HAW hQ hW' HQ HBW HS) | (go_at_call 45; have hpr := product_any a b HA.out HB.out W1; rw [hv] at hpr; rw [hae.out, hbe.out] at hpr; refine hpr.mono ?_; rintro e w2 ⟨rfl, hb2⟩; have hr2 := row_below HP.out.hr hb2; obtain ⟨_, _, _, _, _, _, hy0, hy1, hy2, hy3, hy4, hz0, hz1, hz2, hz3, hz4⟩ := row5 hr2 (by simp); have HR2 : Hid (rowAt w2 (w.heap.size + 2) (List.replicate 5 0) 51) := hr2; have HB2 : Hid (Below W1.heap.size W1 w2) := hb2; clear hr2 hb2 hpr))
  refine bodyPost_ret (v := .agg (VI .u64 [x0, x1, x2, x3, x4])) ?_ rfl ⟨by rw [hv]; rfl, HD.out _ ((((((HP.out.grow.bel HB2.out).setCell ?_ _).setCell ?_ _).setCell ?_ _).setCell ?_ _).setCell ?_ _)⟩
  · exact results_cell_row (P := Try.prog) (fn := Try.f25) (p := 6) (ty := 51) rfl _ _ (w.heap.size + 1 + 1) 51 (VI .u64 [x0, x1, x2, x3, x4]) (0, 0) _ rfl (store5 HR2.out x0 x1 x2 x3 x4) Try.underlying51 rfl infoE
  all_goals (left; simp; omega)
/-- the boxes of Square, Scale and Invert -/
structure BW (n : Nat) (W' : World) (a : List Int) (wr : World) : Prop where
  grow : Grow (fun k => n ≤ k ∧ k < n + 2) W' wr
  sz : n + 2 ≤ wr.heap.size
  ha : rowAt wr n a 51
  hr : rowAt wr (n + 1) (List.replicate 5 0) 51
theorem BW.start {n : Nat} {W W' : World} {a : List Int} (ha : rowAt W n a 51) (hr : rowAt W (n + 1) (List.replicate 5 0) 51) (hs : W.heap.size = n + 2) (hg : Grow (fun k => k < n) W W') : BW n W' a W' :=
  ⟨Grow.refl _ _, by rw [← hs]; exact hg.size, (hg.block _ (by omega) (by omega)).trans ha, (hg.block _ (by omega) (by omega)).trans hr⟩
set_option maxRecDepth 100000 in
set_option maxHeartbeats 4000000 in
theorem square_any (rv : Value) (a : List Int) (ha : Lim a) (w : World) (Q : World → World → Prop) (hq : Opc rv 4 w Q) :
    Calls Try.prog 41 #[rv, .agg (VI .u64 a)] w fun e w' => e = .returned (.agg (VI .u64 (prod a a))) ∧ Opd Q w w' := by
  have HA : Hid (Lim a) := ha
  have HQ : Hid (Opc rv 4 w Q) := hq
  obtain ⟨r1, r2, hs, hbw⟩ := alloc2_rows w a
  obtain ⟨W, hW⟩ : ∃ W, (w.alloc (.cells (VI .u64 a) 51)).alloc (.cells (VI .u64 (List.replicate 5 0)) 51) = W := ⟨_, rfl⟩
  have hW' : (w.alloc (.cells (VI .u64 a) 51)).alloc (.cells #[.int .u64 0, .int .u64 0, .int .u64 0, .int .u64 0, .int .u64 0] 51) = W := hW
  rw [hW] at r1 r2 hs hbw
  have HS : Hid (W.heap.size = w.heap.size + 2) := hs
  have HBW : Hid (Below w.heap.size w W) := hbw
  have HAW : Hid (∀ W1, Grow (fun k => k < w.heap.size) W W1 → BW w.heap.size W1 a W1) := fun W1 hg => BW.start r1 r2 hs hg
  have hlb : Lim (a) := ha
  have HLB : Hid (Lim (a)) := hlb
  have hpl := (prod_lim ha hlb).len
  clear hW r1 r2 hs hbw hq ha hlb
  obtain ⟨x0, x1, x2, x3, x4, hxe⟩ := five hpl
  have hv : VI .u64 (prod a a) = #[.int .u64 x0, .int .u64 x1, .int .u64 x2, .int .u64 x3, .int .u64 x4] := by rw [hxe]; rfl
  clear hpl hxe
  go_enter Try.func41, Try.ntmps41
  go_wp2_with (first | (go_at_call 44; refine (HQ.out.call _ HBW.out).mono ?_; rintro e W1 ⟨rfl, hQ⟩; have hp := HAW.out W1 (HQ.out.keep _ _ HBW.out hQ); obtain ⟨a0, a1, a2, a3, a4, hae, ha0, ha1, ha2, ha3, ha4, _, _, _, _, _⟩ := row5 hp.ha HA.out.len; have HP : Hid (BW w.heap.size W1 a W1) := hp; have HD : Hid (∀ w', Grow (fun k => w.heap.size ≤ k ∧ k < w.heap.size + 2) W1 w' → Opd Q w w') := (fun w' hg => ⟨W, W1, HBW.out, hQ, hg.mono (fun k hk => by rw [HS.out]; exact hk)⟩); clear hp HAW hQ hW' HQ HBW HS) | (go_at_call 45; have hpr := product_any a (a) HA.out HLB.out W1; rw [hv] at hpr; rw [hae.out] at hpr; refine hpr.mono ?_; rintro e w2 ⟨rfl, hb2⟩; have hr2 := row_below HP.out.hr hb2; obtain ⟨_, _, _, _, _, _, hy0, hy1, hy2, hy3, hy4, hz0, hz1, hz2, hz3, hz4⟩ := row5 hr2 (by simp); have HR2 : Hid (rowAt w2 (w.heap.size + 1) (List.replicate 5 0) 51) := hr2; have HB2 : Hid (Below W1.heap.size W1 w2) := hb2; clear hr2 hb2 hpr))
  refine bodyPost_ret (v := .agg (VI .u64 [x0, x1, x2, x3, x4])) ?_ rfl ⟨by rw [hv]; rfl, HD.out _ ((((((HP.out.grow.bel HB2.out).setCell ?_ _).setCell ?_ _).setCell ?_ _).setCell ?_ _).setCell ?_ _)⟩
  · exact results_cell_row (P := Try.prog) (fn := Try.f41) (p := 4) (ty := 51) rfl _ _ (w.heap.size + 1) 51 (VI .u64 [x0, x1, x2, x3, x4]) (0, 0) _ rfl (store5 HR2.out x0 x1 x2 x3 x4) Try.underlying51 rfl infoE
  all_goals (left; simp)
set_option maxRecDepth 100000 in
set_option maxHeartbeats 4000000 in
theorem scale_any (rv : Value) (a : List Int) (n : Int) (n0 : 0 ≤ n) (n1 : n < 4294967296) (ha : Lim a) (w : World) (Q : World → World → Prop) (hq : Opc rv 5 w Q) :
    Calls Try.prog 43 #[rv, .agg (VI .u64 a), .int .u32 n] w fun e w' => e = .returned (.agg (VI .u64 (prod a [n, 0, 0, 0, 0]))) ∧ Opd Q w w' := by
  have HA : Hid (Lim a) := ha
  have HQ : Hid (Opc rv 5 w Q) := hq
  obtain ⟨r1, r2, hs, hbw⟩ := alloc2_rows w a
  obtain ⟨W, hW⟩ : ∃ W, (w.alloc (.cells (VI .u64 a) 51)).alloc (.cells (VI .u64 (List.replicate 5 0)) 51) = W := ⟨_, rfl⟩
  have hW' : (w.alloc (.cells (VI .u64 a) 51)).alloc (.cells #[.int .u64 0, .int .u64 0, .int .u64 0, .int .u64 0, .int .u64 0] 51) = W := hW
  rw [hW] at r1 r2 hs hbw
  have HS : Hid (W.heap.size = w.heap.size + 2) := hs
  have HBW : Hid (Below w.heap.size w W) := hbw
  have HAW : Hid (∀ W1, Grow (fun k => k < w.heap.size) W W1 → BW w.heap.size W1 a W1) := fun W1 hg => BW.start r1 r2 hs hg
  have hlb : Lim ([n, 0, 0, 0, 0]) := ⟨rfl, by simp; omega⟩
  have HLB : Hid (Lim ([n, 0, 0, 0, 0])) := hlb
  have hpl := (prod_lim ha hlb).len
  clear hW r1 r2 hs hbw hq ha hlb
  obtain ⟨x0, x1, x2, x3, x4, hxe⟩ := five hpl
  have hv : VI .u64 (prod a [n, 0, 0, 0, 0]) = #[.int .u64 x0, .int .u64 x1, .int .u64 x2, .int .u64 x3, .int .u64 x4] := by rw [hxe]; rfl
  clear hpl hxe
  go_enter Try.func43, Try.ntmps43
  go_wp2_with (first | (go_at_call 44; refine (HQ.out.call _ HBW.out).mono ?_; rintro e W1 ⟨rfl, hQ⟩; have hp := HAW.out W1 (HQ.out.keep _ _ HBW.out hQ); obtain ⟨a0, a1, a2, a3, a4, hae, ha0, ha1, ha2, ha3, ha4, _, _, _, _, _⟩ := row5 hp.ha HA.out.len; have HP : Hid (BW w.heap.size W1 a W1) := hp; have HD : Hid (∀ w', Grow (fun k => w.heap.size ≤ k ∧ k < w.heap.size + 2) W1 w' → Opd Q w w') := (fun w' hg => ⟨W, W1, HBW.out, hQ, hg.mono (fun k hk => by rw [HS.out]; exact hk)⟩); clear hp HAW hQ hW' HQ HBW HS) | (go_at_call 45; have hpr := product_any a ([n, 0, 0, 0, 0]) HA.out HLB.out W1; rw [hv] at hpr; rw [hae.out] at hpr; refine hpr.mono ?_; rintro e w2 ⟨rfl, hb2⟩; have hr2 := row_below HP.out.hr hb2; obtain ⟨_, _, _, _, _, _, hy0, hy1, hy2, hy3, hy4, hz0, hz1, hz2, hz3, hz4⟩ := row5 hr2 (by simp); have HR2 : Hid (rowAt w2 (w.heap.size + 1) (List.replicate 5 0) 51) := hr2; have HB2 : Hid (Below W1.heap.size W1 w2) := hb2; clear hr2 hb2 hpr))
  refine bodyPost_ret (v := .agg (VI .u64 [x0, x1, x2, x3, x4])) ?_ rfl ⟨by rw [hv]; rfl, HD.out _ ((((((HP.out.grow.bel HB2.out).setCell ?_ _).setCell ?_ _).setCell ?_ _).setCell ?_ _).setCell ?_ _)⟩
  · exact results_cell_row (P := Try.prog) (fn := Try.f43) (p := 6) (ty := 51) rfl _ _ (w.heap.size + 1) 51 (VI .u64 [x0, x1, x2, x3, x4]) (0, 0) _ rfl (store5 HR2.out x0 x1 x2 x3 x4) Try.underlying51 rfl infoE
  all_goals (left; simp)
end Go.Proofs.Ytlffamcifahbjaa
namespace Go.Proofs.Ytlffamcifahbjaa
set_option linter.unusedSimpArgs false
open Go.ChangeShapes Go.WideShapes Go.ChangeAt Go.RowKit Go.Pin Go.Fld
/-- four times the prime -/
def four : List Int := [9007199254740916, 9007199254740988, 9007199254740988, 9007199254740988, 9007199254740988]
theorem four_bd : ∀ x ∈ four, 9007199254740916 ≤ x ∧ x < 9007199254740989 := by decide
def subL (a b : List Int) : List Int := List.zipWith (· + ·) a (List.zipWith (· - ·) four b)
theorem sub_lim {a b : List Int} (ha : Lim a) (hb : Lim b) : (subL a b).length = 5 ∧ ∀ x ∈ subL a b, 0 ≤ x ∧ x < 1152921504606846976 := by
  have hf : four.length = 5 := rfl
  refine ⟨by simp [subL, ha.len, hb.len, hf], fun x hx => ?_⟩
  obtain ⟨i, hi, rfl⟩ := List.getElem_of_mem hx
  have hi' : i < 5 := by simpa [subL, ha.len, hb.len, hf] using hi
  have ga := ha.bd _ (List.getElem_mem (l := a) (n := i) (by rw [ha.len]; exact hi'))
  have gb := hb.bd _ (List.getElem_mem (l := b) (n := i) (by rw [hb.len]; exact hi'))
  have gf := four_bd _ (List.getElem_mem (l := four) (n := i) (by rw [hf]; exact hi'))
  simp only [subL, List.getElem_zipWith]
  omega
theorem AW.below {n : Nat} {W' wr w2 : World} {x b : List Int} (h : AW n W' x b wr) (hb : Below wr.heap.size wr w2) : AW n W' x b w2 :=
  ⟨h.grow.bel hb, Nat.le_trans h.sz hb.size, row_below h.ha hb, row_below h.hb hb, row_below h.hr hb⟩
set_option maxRecDepth 100000 in
set_option maxHeartbeats 4000000 in
theorem sub_any (rv : Value) (a b : List Int) (ha : Lim a) (hb : Lim b) (w : World) (Q : World → World → Prop) (hq : Opc rv 2 w Q) :
    Calls Try.prog 42 #[rv, .agg (VI .u64 a), .agg (VI .u64 b)] w fun e w' => e = .returned (.agg (VI .u64 (stl (subL a b)))) ∧ Opd Q w w' := by
  have HA : Hid (Lim a) := ha
  have HB : Hid (Lim b) := hb
  have HQ : Hid (Opc rv 2 w Q) := hq
  clear ha hb hq
  obtain ⟨r1, r2, r3, hs, hbw⟩ := alloc3_rows w a b
  obtain ⟨W, hW⟩ : ∃ W, ((w.alloc (.cells (VI .u64 a) 51)).alloc (.cells (VI .u64 b) 51)).alloc (.cells (VI .u64 (List.replicate 5 0)) 51) = W := ⟨_, rfl⟩
  have hW' : ((w.alloc (.cells (VI .u64 a) 51)).alloc (.cells (VI .u64 b) 51)).alloc (.cells #[.int .u64 0, .int .u64 0, .int .u64 0, .int .u64 0, .int .u64 0] 51) = W := hW
  rw [hW] at r1 r2 r3 hs hbw
  have HS : Hid (W.heap.size = w.heap.size + 3) := hs
  have HBW : Hid (Below w.heap.size w W) := hbw
  have HAW : Hid (∀ W1, Grow (fun k => k < w.heap.size) W W1 → AW w.heap.size W1 a b W1) := fun W1 hg => AW.start r1 r2 r3 hs hg
  clear hW r1 r2 r3 hs hbw
  go_enter Try.func42, Try.ntmps42
  go_wp2_with (go_at_call 44; refine (HQ.out.call _ HBW.out).mono ?_; rintro e W1 ⟨rfl, hQ⟩)
  have HAW1 : Hid (AW w.heap.size W1 a b W1) := HAW.out W1 (HQ.out.keep _ _ HBW.out hQ)
  have HD : Hid (∀ w', Grow (fun k => w.heap.size ≤ k ∧ k < w.heap.size + 3) W1 w' → Opd Q w w') := fun w' hg => ⟨W, W1, HBW.out, hQ, hg.mono (fun k hk => by rw [HS.out]; exact hk)⟩
  clear HAW hQ hW' HQ HBW HS
  clear W
  have hrF : rowAt (W1.alloc (.cells (VI .u64 four) 49)) W1.heap.size four 49 := by simp only [rowAt, heap_alloc_any, if_true]
  have HAF : Hid (AW w.heap.size W1 a b (W1.alloc (.cells (VI .u64 four) 49))) := HAW1.out.below ((Below.refl _ _).alloc (Nat.le_refl _) _)
  have HF0 : Hid (rowAt (W1.alloc (.cells (VI .u64 four) 49)) W1.heap.size four 49) := hrF
  have HFn : Hid (w.heap.size + 3 ≤ W1.heap.size) := HAW1.out.sz
  clear hrF HAW1
  obtain ⟨F, hF⟩ : ∃ F, W1.heap.size = F := ⟨_, rfl⟩
  rw [hF] at HF0 HFn
  go_wp2
  obtain ⟨zl, zb⟩ := sub_lim HA.out HB.out
  have HZ : Hid (∀ x ∈ subL a b, 0 ≤ x ∧ x < 1152921504606846976) := zb
  clear zb
  go_loopw [12] (fun i w' => ∃ k : Nat, k ≤ 5 ∧ i = .int .i64 k ∧ (AW w.heap.size W1 ((subL a b).take k ++ a.drop k) b w' ∧ rowAt w' F four 49)) (fun i _ => 5 - (intOf i).toNat)
  case atStart => exact ⟨0, Nat.zero_le _, rfl, HAF.out, HF0.out⟩
  case round =>
    clear HAF HF0
    obtain ⟨k, hk, rfl, hp, hpF⟩ := hrel
    by_cases hlt : k < 5
    · have hka : k < a.length := by rw [HA.out.len]; exact hlt
      have hkb : k < b.length := by rw [HB.out.len]; exact hlt
      have hkz : k < (subL a b).length := by rw [zl]; exact hlt
      have hca := row_cell hp.ha (i := k) (by simp; omega)
      rw [List.getD_eq_getElem?_getD, get_step _ _ _ hkz hka] at hca
      have hcb := row_cell hp.hb (i := k) hkb
      rw [List.getD_eq_getElem?_getD, List.getElem?_eq_getElem hkb, Option.getD_some] at hcb
      have hkf : k < four.length := hlt
      have hcf := row_cell hpF (i := k) hkf
      rw [List.getD_eq_getElem?_getD, List.getElem?_eq_getElem hkf, Option.getD_some] at hcf
      obtain ⟨xf0, xf1⟩ := four_bd _ (List.getElem_mem hkf)
      have hfz : wr.frozen? ⟨w.heap.size, k, none⟩ = false := frozen_of_row wr _ _ _ _ hp.ha
      obtain ⟨xa0, xa1⟩ := HA.out.bd _ (List.getElem_mem hka)
      obtain ⟨xb0, xb1⟩ := HB.out.bd _ (List.getElem_mem hkb)
      have hst := hp.set k (a[k] + (four[k] - b[k]))
      have hz : (subL a b)[k] = a[k] + (four[k] - b[k]) := by simp only [subL, List.getElem_zipWith]
      rw [← hz, set_step _ _ _ hkz hka, hz] at hst
      have HST : Hid (AW w.heap.size W1 ((subL a b).take (k + 1) ++ a.drop (k + 1)) b (wr.setCell ⟨w.heap.size, k, none⟩ (.int .u64 (a[k] + (four[k] - b[k]))))) := hst
      have HRF : Hid (∀ v, rowAt (wr.setCell ⟨w.heap.size, k, none⟩ v) F four 49) := fun v => row_other hpF (by have := HFn.out; show F ≠ w.heap.size; omega) _
      clear hp hst hz hpF
      generalize four[k] = fk at *
      generalize a[k] = ak at *
      generalize b[k] = bk at *
      go_wp2
      go_region
      go_wp2
      go_roundw
      case rel => exact ⟨k + 1, by omega, by go_num, HST.out.drew, HRF.out _⟩
      case measure => simp [intOf]; omega
    · have hk' : k = 5 := by omega
      subst hk'
      rw [List.take_of_length_le (by omega), List.drop_of_length_le (by rw [HA.out.len]; omega), List.append_nil] at hp
      have HP : Hid (AW w.heap.size W1 (subL a b) b wr) := hp
      clear hp hpF
      go_wp2_with (go_at_call 57; refine (settle_any w.heap.size 51 (subL a b) zl HZ.out wr HP.out.ha).mono ?_; rintro e w2 ⟨rfl, hU⟩; have hp2 := HP.out.up hU; obtain ⟨x0, x1, x2, x3, x4, hxe, hx0, hx1, hx2, hx3, hx4, _, _, _, _, _⟩ := row5 hp2.ha (stl_lim _ zl HZ.out).1.len; obtain ⟨_, _, _, _, _, _, hy0, hy1, hy2, hy3, hy4, hz0, hz1, hz2, hz3, hz4⟩ := row5 hp2.hr (by simp); have HP2 : Hid (AW w.heap.size W1 (stl (subL a b)) b w2) := hp2; clear hp2 hU)
      refine bodyPost_ret (v := .agg (VI .u64 [x0, x1, x2, x3, x4])) ?_ rfl ⟨by rw [hxe.out], HD.out _ (((((HP2.out.grow.setCell ?_ _).setCell ?_ _).setCell ?_ _).setCell ?_ _).setCell ?_ _)⟩
      · exact results_cell_row (P := Try.prog) (fn := Try.f42) (p := 6) (ty := 51) rfl _ _ (w.heap.size + 1 + 1) 51 (VI .u64 [x0, x1, x2, x3, x4]) (0, 0) _ rfl (store5 HP2.out.hr x0 x1 x2 x3 x4) Try.underlying51 rfl infoE
      all_goals (left; simp; omega)
end Go.Proofs.Ytlffamcifahbjaa
