import Derived.Test.YtgfamcadgahiiabPrmO
namespace Go.Proofs.Ytgfamcadgahiiab
set_option linter.unusedSimpArgs false
open Go.ChangeShapes Go.WideShapes Go.ChangeAt Go.RowKit Go.Pin Go.Prm
theorem but_setRow (w : World) (g : Nat) (cs : Array Value) : But (fun k => k = g) w (w.setRow g cs) :=
  ⟨rfl, rfl, rfl, size_setRow _ _ _, fun k hk => setRow_other w g k _ hk⟩
/-- least's boxes: a, the result, more -/
structure LW (n : Nat) (w : World) (x m : List Int) (wr : World) : Prop where
  old : Below n w wr
  ha : rowAt wr n x 69
  hr : rowAt wr (n + 1) (List.replicate 5 0) 67
  hm : rowAt wr (n + 2) m 67
theorem LW.setM {n : Nat} {w wr : World} {x m : List Int} (h : LW n w x m wr) (i : Nat) (v : Int) : LW n w x (m.set i v) (wr.setCell ⟨n + 2, i, none⟩ (.int .u64 v)) :=
  ⟨h.old.setCell (by simp) _, row_other h.ha (by simp) _, row_other h.hr (by simp) _, row_set h.hm _ _⟩
theorem LW.setA {n : Nat} {w wr : World} {x m : List Int} (h : LW n w x m wr) (i : Nat) (v : Int) : LW n w (x.set i v) m (wr.setCell ⟨n, i, none⟩ (.int .u64 v)) :=
  ⟨h.old.setCell (by simp) _, row_set h.ha _ _, row_other h.hr (by simp) _, row_other h.hm (by simp) _⟩
theorem LW.rowM {n : Nat} {w wr : World} {x m : List Int} (h : LW n w x m wr) (y : List Int) : LW n w x y (wr.setRow (n + 2) (VI .u64 y)) :=
  have b := but_setRow wr (n + 2) (VI .u64 y)
  ⟨h.old.trans (b.below (fun k hk => by omega)), (b.block _ (by omega)).trans h.ha, (b.block _ (by omega)).trans h.hr, setRow_heap _ _ _ _ _ _ h.hm⟩
theorem LW.rowA {n : Nat} {w wr : World} {x m : List Int} (h : LW n w x m wr) (y : List Int) : LW n w y m (wr.setRow n (VI .u64 y)) :=
  have b := but_setRow wr n (VI .u64 y)
  ⟨h.old.trans (b.below (fun k hk => by omega)), setRow_heap _ _ _ _ _ _ h.ha, (b.block _ (by omega)).trans h.hr, (b.block _ (by omega)).trans h.hm⟩
theorem LW.drew {n : Nat} {w wr : World} {x m : List Int} (h : LW n w x m wr) : LW n w x m wr.drew := ⟨h.old.drew, h.ha, h.hr, h.hm⟩
theorem lw_start (w : World) (a : List Int) : rowAt ((w.alloc (.cells (VI .u64 a) 69)).alloc (.cells (VI .u64 (List.replicate 5 0)) 67)) w.heap.size a 69 ∧
    rowAt ((w.alloc (.cells (VI .u64 a) 69)).alloc (.cells (VI .u64 (List.replicate 5 0)) 67)) (w.heap.size + 1) (List.replicate 5 0) 67 ∧
    ((w.alloc (.cells (VI .u64 a) 69)).alloc (.cells (VI .u64 (List.replicate 5 0)) 67)).heap.size = w.heap.size + 2 ∧
    Below w.heap.size w ((w.alloc (.cells (VI .u64 a) 69)).alloc (.cells (VI .u64 (List.replicate 5 0)) 67)) := by
  refine ⟨?_, ?_, by simp [size_alloc], ((Below.refl _ _).alloc (Nat.le_refl _) _).alloc (by simp) _⟩
  all_goals simp only [rowAt, heap_alloc_any, size_alloc]
  · rw [if_neg (by omega), if_pos trivial]
  · rw [if_pos trivial]
theorem lw_next {w W1 w2 : World} {s : List Int} (m : List Int) (h1 : rowAt W1 (w.heap.size + 1) (List.replicate 5 0) 67) (hs : W1.heap.size = w.heap.size + 2) (hb : Below w.heap.size w W1) (hu : Up w.heap.size 69 s W1 w2) :
    LW w.heap.size w s m (w2.alloc (.cells (VI .u64 m) 67)) ∧ w2.heap.size = w.heap.size + 2 := by
  have h2 : w2.heap.size = w.heap.size + 2 := hu.but.size.trans hs
  refine ⟨⟨(hb.trans (hu.but.below (fun k hk => by omega))).alloc (by omega) _, ?_, ?_, ?_⟩, h2⟩
  · simp only [rowAt, heap_alloc_any, h2]; rw [if_neg (by omega)]; exact hu.row
  · simp only [rowAt, heap_alloc_any, h2]; rw [if_neg (by omega)]; exact (hu.but.block _ (by omega)).trans h1
  · simp only [rowAt, heap_alloc_any, h2]; rw [if_pos trivial]
set_option maxRecDepth 100000 in
set_option maxHeartbeats 4000000 in
theorem least_any (a : List Int) (ha : Lim a) (w : World) :
    Calls Try.prog 41 #[.agg (VI .u64 a)] w fun e w' => e = .returned (.agg (VI .u64 (lst a))) ∧ Below w.heap.size w w' := by
  obtain ⟨s0, s1, s2, s3, s4, c, hs, p0, q0, p1, q1, p2, q2, p3, q3, p4, q4, hc, c0, c1, hl, _, hlb, hll⟩ := lst_facts ha
  obtain ⟨x0, x1, x2, x3, x4, hx⟩ := five hll
  have HL : Hid (lst a = [x0, x1, x2, x3, x4]) := hx
  have HC : Hid (co 0 [s0 + 5, s1, s2, s3, s4] = c) := hc
  have HE : Hid (lst a = cy 0 [s0 + 5 * c, s1, s2, s3, s4]) := hl
  obtain ⟨r1, r2, hsz, hbw⟩ := lw_start w a
  obtain ⟨W, hW⟩ : ∃ W, (w.alloc (.cells (VI .u64 a) 69)).alloc (.cells (VI .u64 (List.replicate 5 0)) 67) = W := ⟨_, rfl⟩
  have hW' : (w.alloc (.cells (VI .u64 a) 69)).alloc (.cells #[.int .u64 0, .int .u64 0, .int .u64 0, .int .u64 0, .int .u64 0] 67) = W := hW
  rw [hW] at r1 r2 hsz hbw
  have HST : Hid (∀ w2, Up w.heap.size 69 (stl a) W w2 → rowAt w2 w.heap.size [s0, s1, s2, s3, s4] 69 ∧ LW w.heap.size w [s0, s1, s2, s3, s4] [s0 + 5, s1, s2, s3, s4] (w2.alloc (.cells #[.int .u64 (s0 + 5), .int .u64 s1, .int .u64 s2, .int .u64 s3, .int .u64 s4] 67)) ∧ w2.heap.size = w.heap.size + 2) := fun w2 hu => by
    rw [hs] at hu
    exact ⟨hu.row, lw_next [s0 + 5, s1, s2, s3, s4] r2 hsz hbw hu⟩
  have HSA : Hid (Calls Try.prog 40 #[.pointer (some ⟨w.heap.size, 0, none⟩)] W fun e w' => e = .returned (.tuple #[]) ∧ Up w.heap.size 69 (stl a) W w') := settle_any w.heap.size 69 a ha.len (fun x hx => by have := ha.bd x hx; omega) W r1
  clear hW r1 r2 hsz hbw hlb hll hx hc hl hs ha
  go_enter Try.func41, Try.ntmps41
  go_wp2_with (go_at_call 40; refine HSA.out.mono ?_; rintro e w2 ⟨rfl, hU⟩; obtain ⟨hr2, hlw, hs2⟩ := HST.out w2 hU; obtain ⟨hc0, hc1, hc2, hc3, hc4⟩ := cells5 hr2; have HLW : Hid (LW w.heap.size w [s0, s1, s2, s3, s4] [s0 + 5, s1, s2, s3, s4] (w2.alloc (.cells #[.int .u64 (s0 + 5), .int .u64 s1, .int .u64 s2, .int .u64 s3, .int .u64 s4] 67))) := hlw; clear hr2 hlw hU HSA HST)
  obtain ⟨W3, hW3⟩ : ∃ W3, w2.alloc (.cells #[.int .u64 (s0 + 5), .int .u64 s1, .int .u64 s2, .int .u64 s3, .int .u64 s4] 67) = W3 := ⟨_, rfl⟩
  rw [hW3] at HLW ⊢
  clear hW3 hc0 hc1 hc2 hc3 hc4 hs2
  obtain ⟨hc0, _, _, _, _⟩ := cells5 HLW.out.ha
  have hf0 : W3.frozen? ⟨w.heap.size, 0, none⟩ = false := frozen_of_row W3 _ _ _ _ HLW.out.ha
  have HCA : Hid (∀ W, rowAt W (w.heap.size + 2) [s0 + 5, s1, s2, s3, s4] 67 → Calls Try.prog 42 #[.pointer (some ⟨w.heap.size + 2, 0, none⟩)] W fun e w' => e = .returned (.int .u64 c) ∧ w' = W.setRow (w.heap.size + 2) (VI .u64 (cy 0 [s0 + 5, s1, s2, s3, s4]))) := fun W hw => by
    have := carry_any (w.heap.size + 2) 67 [s0 + 5, s1, s2, s3, s4] rfl (by simp only [List.mem_cons, List.not_mem_nil, or_false, forall_eq_or_imp, forall_eq]; omega) W hw
    rw [HC.out] at this
    exact this
  have HCB : Hid (∀ W, rowAt W w.heap.size [s0 + 5 * c, s1, s2, s3, s4] 69 → Calls Try.prog 42 #[.pointer (some ⟨w.heap.size, 0, none⟩)] W fun e w' => e = .returned (.int .u64 (co 0 [s0 + 5 * c, s1, s2, s3, s4])) ∧ w' = W.setRow w.heap.size (VI .u64 (lst a))) := fun W hw => by
    have := carry_any w.heap.size 69 [s0 + 5 * c, s1, s2, s3, s4] rfl (by simp only [List.mem_cons, List.not_mem_nil, or_false, forall_eq_or_imp, forall_eq]; omega) W hw
    rw [← HE.out] at this
    exact this
  have hwc : IntKind.u64.wrap (5 * c) = 5 * c := by rw [IntKind.wrap_u64]; omega
  have hws : IntKind.u64.wrap (s0 + 5 * c) = s0 + 5 * c := by rw [IntKind.wrap_u64]; omega
  go_region_with (go_at_call 42; refine (HCA.out W3.drew HLW.out.hm).mono ?_; rintro e w4 ⟨rfl, hw4⟩; have hlw4 := HLW.out.drew.rowM (cy 0 [s0 + 5, s1, s2, s3, s4]); rw [← hw4] at hlw4; obtain ⟨hd0, _, _, _, _⟩ := cells5 hlw4.ha; have hf4 : w4.frozen? ⟨w.heap.size, 0, none⟩ = false := frozen_of_row w4 _ _ _ _ hlw4.ha; have HL4 : Hid (LW w.heap.size w [s0 + 5 * c, s1, s2, s3, s4] (cy 0 [s0 + 5, s1, s2, s3, s4]) (w4.setCell ⟨w.heap.size, 0, none⟩ (.int .u64 (s0 + 5 * c)))) := hlw4.setA 0 _; clear hlw4 hw4)
  all_goals (
    obtain ⟨W5, hW5⟩ : ∃ W5, w4.setCell ⟨w.heap.size, 0, none⟩ (.int .u64 (s0 + 5 * c)) = W5 := ⟨_, rfl⟩
    rw [hW5] at HL4 ⊢
    clear hW5 hd0 hf4 hc0 hf0
    go_wp2_with (go_at_call 42; refine (HCB.out _ HL4.out.ha).mono ?_; rintro e w6 ⟨rfl, hw6⟩; have hl6 := HL4.out.rowA (lst a); rw [← hw6, HL.out] at hl6; obtain ⟨hx0, hx1, hx2, hx3, hx4⟩ := cells5 hl6.ha; obtain ⟨_, _, _, _, _, _, hy0, hy1, hy2, hy3, hy4, hz0, hz1, hz2, hz3, hz4⟩ := row5 hl6.hr (by simp); have HL6 : Hid (LW w.heap.size w [x0, x1, x2, x3, x4] (cy 0 [s0 + 5, s1, s2, s3, s4]) w6) := hl6; clear hl6 hw6)
    refine bodyPost_ret (v := .agg (VI .u64 [x0, x1, x2, x3, x4])) ?_ rfl ⟨by rw [HL.out], ((((HL6.out.old.setCell (by simp) _).setCell (by simp) _).setCell (by simp) _).setCell (by simp) _).setCell (by simp) _⟩
    exact results_cell_row (P := Try.prog) (fn := Try.f41) (p := 2) (ty := 67) rfl _ _ (w.heap.size + 1) 67 (VI .u64 [x0, x1, x2, x3, x4]) (0, 0) _ rfl (store5 HL6.out.hr x0 x1 x2 x3 x4) Try.underlying67 rfl infoA5)
end Go.Proofs.Ytgfamcadgahiiab
