import Derived.Test.YtjhleocpipmklaaDoorMjaa
namespace Go.Proofs.YtjhleocpipmklaaDoor
set_option linter.unusedSimpArgs false
set_option linter.unusedVariables false
open Go.ChangeShapes Go.WideShapes Go.ChangeAt Go.RowKit Go.Pin Go.Pat
abbrev BV (x : Sn) : Array Value := (x.map Value.bool).toArray
theorem infoS {x : Sn} (h : x.length = 12) : (Tryd.prog.info? 90).map (·.size) = some (BV x).size := by
  have : (Tryd.prog.info? 90).map (·.size) = some 12 := by kernel_rfl
  rw [this]; simp [h]
theorem BV_one (x : Sn) : (BV x).all (·.oneCell') = true := by
  simp [Array.all_eq_true, BV, Value.oneCell']
/-- a box of what is seen, and the answer's -/
structure TB (n : Nat) (w : World) (x : Sn) (wr : World) : Prop where
  old : Below n w wr
  sz : n + 2 ≤ wr.heap.size
  hk : wr.heap[n]? = some (.cells (BV x) 90)
  hr : wr.heap[n + 1]? = some (.cells (BV Sn0) 90)
theorem TB.set {n : Nat} {w wr : World} {x : Sn} (h : TB n w x wr) (i : Nat) (b : Bool) : TB n w (x.set i b) (wr.setCell ⟨n, i, none⟩ (.bool b)) := by
  refine ⟨h.old.setCell (Nat.le_refl _) _, by simpa using h.sz, ?_, (heap_setCell_other _ _ _ _ (by simp)).trans h.hr⟩
  rw [Go.heap_setCell_same _ _ _ _ _ _ h.hk]
  simp
theorem TB.below {n : Nat} {w wr w' : World} {x : Sn} (h : TB n w x wr) (hb : Below wr.heap.size wr w') : TB n w x w' :=
  ⟨h.old.trans (hb.mono (by have := h.sz; omega)), Nat.le_trans h.sz hb.size, (hb.block _ (by have := h.sz; omega)).trans h.hk, (hb.block _ (by have := h.sz; omega)).trans h.hr⟩
theorem TB.cell {n : Nat} {w wr : World} {x : Sn} (h : TB n w x wr) {i : Nat} (hi : i < x.length) : wr.cell? ⟨n, i, none⟩ = some (.bool (B x i)) := by
  rw [cell_of_row _ _ _ _ _ _ h.hk]
  simp [B, List.getD, hi]
theorem TB.free {n : Nat} {w wr : World} {x : Sn} (h : TB n w x wr) (i : Nat) : wr.frozen? ⟨n, i, none⟩ = false := frozen_of_row _ _ _ _ _ h.hk
theorem tb_start (w : World) (x : Sn) : TB w.heap.size w x ((w.alloc (.cells (BV x) 90)).alloc (.cells (BV Sn0) 90)) := by
  refine ⟨((Below.refl _ _).alloc (Nat.le_refl _) _).alloc (by simp) _, by simp [size_alloc], ?_, ?_⟩
  all_goals simp only [heap_alloc_any, size_alloc]
  · rw [if_neg (by omega), if_pos trivial]
  · rw [if_pos trivial]
theorem results_row_tmp {P : Program} {fn : Func} {p u : Tmp} {ty : TypeId} (h : fn.results = #[.cell p ty, .tmp u]) (tmps : Array Value) (w : World) (g : Nat) (t : TypeId) (cs : Array Value) (fr : Nat × Nat) (d : TypeDesc) (v : Value)
    (hp : tmps.getD p undef = .pointer (some ⟨g, 0, none⟩)) (hg : w.heap[g]? = some (.cells cs t fr))
    (hu : P.underlying ty = some d) (hd : (match d with | .struct _ | .array _ _ => true | _ => false) = true) (hi : (P.info? ty).map (·.size) = some cs.size) (hv : tmps.getD u undef = v) :
    (results fn tmps).run P w = .ok (.tuple #[.agg cs, v]) w := by
  rw [results_cell_tmp h, hp, hv]
  simp [asAddr, run_loadVar_row w g t ty cs fr d hg hu hd hi]
set_option maxRecDepth 100000 in
set_option maxHeartbeats 8000000 in
theorem token_psk (x : Sn) (hx : x.length = 12) (s : Nat) (hs2 : s < 2) (w : World) :
    Calls Tryd.prog 50 #[SV x, .int .i64 s, .int .i64 7] w fun e w' => e = .returned (.tuple #[SV (tk x s 7).1, .int .i64 (tk x s 7).2]) ∧ Below w.heap.size w w' := by
  have h0 := tb_start w x
  obtain ⟨n, hn⟩ : ∃ n, w.heap.size = n := ⟨_, rfl⟩
  obtain ⟨W, hW⟩ : ∃ W, (w.alloc (.cells (BV x) 90)).alloc (.cells (BV Sn0) 90) = W := ⟨_, rfl⟩
  rw [hW, hn] at h0
  have H0 : Hid (TB n w x W) := h0
  have HN : Hid (w.heap.size = n) := hn
  have LX : Hid (x.length = 12) := hx
  have hW' : (w.alloc (.cells (List.map Value.bool x).toArray 90)).alloc (.cells #[.bool false, .bool false, .bool false, .bool false, .bool false, .bool false, .bool false, .bool false, .bool false, .bool false, .bool false, .bool false] 90) = W := hW
  have f0 := h0.free 11
  have c0 := h0.cell (i := 11) (by omega)
  simp only [SV] at *
  clear hx hW h0
  go_enter Tryd.func50, Tryd.ntmps50
  go_wp2_with (first | (with_reducible refine at_list ?_; first | (refine wpList_load_row rfl 90 (.tmp 3) rfl n rfl 90 (BV (x.set 11 true)) (0, 0) _ (H0.out.set 11 true).hk Tryd.underlying90 rfl (infoS ((by simp [LX.out]))) ?_) | (refine wpList_store_row rfl 90 (.tmp 6) (.tmp 52) rfl (n + 1) (BV (x.set 11 true)) rfl rfl 90 (BV Sn0) (H0.out.set 11 true).hr (infoS ((by simp [LX.out]))) (by simp [Sn0, LX.out]) (BV_one _) ?_)))
  refine bodyPost_ret (v := .tuple #[.agg (BV (x.set 11 true)), .int .i64 0]) ?_ rfl ⟨by simp [SV, tk], below_setRow (by rw [HN.out]; exact (H0.out.set 11 true).old) _ (by rw [HN.out]; omega) _⟩
  exact results_row_tmp (P := Tryd.prog) (fn := Tryd.f50) (p := 6) (u := 7) (ty := 90) rfl _ _ (n + 1) 90 (BV (x.set 11 true)) (0, 0) _ _ rfl (setRow_heap _ _ _ _ 90 _ (H0.out.set 11 true).hr) Tryd.underlying90 rfl (infoS ((by simp [LX.out]))) rfl
set_option maxRecDepth 100000 in
set_option maxHeartbeats 8000000 in
theorem token_e (x : Sn) (hx : x.length = 12) (s : Nat) (hs2 : s < 2) (w : World) :
    Calls Tryd.prog 50 #[SV x, .int .i64 s, .int .i64 1] w fun e w' => e = .returned (.tuple #[SV (tk x s 1).1, .int .i64 (tk x s 1).2]) ∧ Below w.heap.size w w' := by
  have h0 := tb_start w x
  obtain ⟨n, hn⟩ : ∃ n, w.heap.size = n := ⟨_, rfl⟩
  obtain ⟨W, hW⟩ : ∃ W, (w.alloc (.cells (BV x) 90)).alloc (.cells (BV Sn0) 90) = W := ⟨_, rfl⟩
  rw [hW, hn] at h0
  have H0 : Hid (TB n w x W) := h0
  have HN : Hid (w.heap.size = n) := hn
  have LX : Hid (x.length = 12) := hx
  have hW' : (w.alloc (.cells (List.map Value.bool x).toArray 90)).alloc (.cells #[.bool false, .bool false, .bool false, .bool false, .bool false, .bool false, .bool false, .bool false, .bool false, .bool false, .bool false, .bool false] 90) = W := hW
  have hs' : s = 0 ∨ s = 1 := by omega
  have c0 := h0.cell (i := s) (by omega)
  have f0 := h0.free s
  simp only [SV] at *
  rcases hb : B x s with _ | _
  · rw [hb] at c0
    have HB : Hid (B x s = false) := hb
    clear hx hW h0 hb
    rcases hs' with rfl | rfl
    all_goals
      go_enter Tryd.func50, Tryd.ntmps50
      first
        | (go_wp2_with (first | (with_reducible refine at_list ?_; first | (refine wpList_load_row rfl 90 (.tmp 3) rfl n rfl 90 (BV (x.set 0 true)) (0, 0) _ (H0.out.set 0 true).hk Tryd.underlying90 rfl (infoS ((by simp [LX.out]))) ?_) | (refine wpList_store_row rfl 90 (.tmp 6) (.tmp 52) rfl (n + 1) (BV (x.set 0 true)) rfl rfl 90 (BV Sn0) (H0.out.set 0 true).hr (infoS ((by simp [LX.out]))) (by simp [Sn0, LX.out]) (BV_one _) ?_)))
           refine bodyPost_ret (v := .tuple #[.agg (BV (x.set 0 true)), .int .i64 0]) ?_ rfl ⟨by simp [SV, tk, HB.out], below_setRow (by rw [HN.out]; exact (H0.out.set 0 true).old) _ (by rw [HN.out]; omega) _⟩
           exact results_row_tmp (P := Tryd.prog) (fn := Tryd.f50) (p := 6) (u := 7) (ty := 90) rfl _ _ (n + 1) 90 (BV (x.set 0 true)) (0, 0) _ _ rfl (setRow_heap _ _ _ _ 90 _ (H0.out.set 0 true).hr) Tryd.underlying90 rfl (infoS ((by simp [LX.out]))) rfl)
        | (go_wp2_with (first | (with_reducible refine at_list ?_; first | (refine wpList_load_row rfl 90 (.tmp 3) rfl n rfl 90 (BV (x.set 1 true)) (0, 0) _ (H0.out.set 1 true).hk Tryd.underlying90 rfl (infoS ((by simp [LX.out]))) ?_) | (refine wpList_store_row rfl 90 (.tmp 6) (.tmp 52) rfl (n + 1) (BV (x.set 1 true)) rfl rfl 90 (BV Sn0) (H0.out.set 1 true).hr (infoS ((by simp [LX.out]))) (by simp [Sn0, LX.out]) (BV_one _) ?_)))
           refine bodyPost_ret (v := .tuple #[.agg (BV (x.set 1 true)), .int .i64 0]) ?_ rfl ⟨by simp [SV, tk, HB.out], below_setRow (by rw [HN.out]; exact (H0.out.set 1 true).old) _ (by rw [HN.out]; omega) _⟩
           exact results_row_tmp (P := Tryd.prog) (fn := Tryd.f50) (p := 6) (u := 7) (ty := 90) rfl _ _ (n + 1) 90 (BV (x.set 1 true)) (0, 0) _ _ rfl (setRow_heap _ _ _ _ 90 _ (H0.out.set 1 true).hr) Tryd.underlying90 rfl (infoS ((by simp [LX.out]))) rfl)
  · rw [hb] at c0
    have HB : Hid (B x s = true) := hb
    clear hx hW h0 hb
    rcases hs' with rfl | rfl
    all_goals
      go_enter Tryd.func50, Tryd.ntmps50
      go_wp2_with (first | (with_reducible refine at_list ?_; first | (refine wpList_load_row rfl 90 (.tmp 3) rfl n rfl 90 (BV (x)) (0, 0) _ (H0.out).hk Tryd.underlying90 rfl (infoS (LX.out)) ?_) | (refine wpList_store_row rfl 90 (.tmp 6) (.tmp 28) rfl (n + 1) (BV (x)) rfl rfl 90 (BV Sn0) (H0.out).hr (infoS (LX.out)) (by simp [Sn0, LX.out]) (BV_one _) ?_)))
      refine bodyPost_ret (v := .tuple #[.agg (BV (x)), .int .i64 10]) ?_ rfl ⟨by simp [SV, tk, HB.out], below_setRow (by rw [HN.out]; exact (H0.out).old) _ (by rw [HN.out]; omega) _⟩
      exact results_row_tmp (P := Tryd.prog) (fn := Tryd.f50) (p := 6) (u := 7) (ty := 90) rfl _ _ (n + 1) 90 (BV (x)) (0, 0) _ _ rfl (setRow_heap _ _ _ _ 90 _ (H0.out).hr) Tryd.underlying90 rfl (infoS (LX.out)) rfl
set_option maxRecDepth 100000 in
set_option maxHeartbeats 8000000 in
theorem token_s (x : Sn) (hx : x.length = 12) (s : Nat) (hs2 : s < 2) (w : World) :
    Calls Tryd.prog 50 #[SV x, .int .i64 s, .int .i64 2] w fun e w' => e = .returned (.tuple #[SV (tk x s 2).1, .int .i64 (tk x s 2).2]) ∧ Below w.heap.size w w' := by
  have h0 := tb_start w x
  obtain ⟨n, hn⟩ : ∃ n, w.heap.size = n := ⟨_, rfl⟩
  obtain ⟨W, hW⟩ : ∃ W, (w.alloc (.cells (BV x) 90)).alloc (.cells (BV Sn0) 90) = W := ⟨_, rfl⟩
  rw [hW, hn] at h0
  have H0 : Hid (TB n w x W) := h0
  have HN : Hid (w.heap.size = n) := hn
  have LX : Hid (x.length = 12) := hx
  have hW' : (w.alloc (.cells (List.map Value.bool x).toArray 90)).alloc (.cells #[.bool false, .bool false, .bool false, .bool false, .bool false, .bool false, .bool false, .bool false, .bool false, .bool false, .bool false, .bool false] 90) = W := hW
  have HC := fun W => safe_any x hx s hs2 W
  obtain ⟨cb, hcb⟩ : ∃ cb, sf x s = cb := ⟨_, rfl⟩
  rw [hcb] at HC
  have HCB : Hid (sf x s = cb) := hcb
  clear hcb
  have hs' : s = 0 ∨ s = 1 := by omega
  simp only [SV] at *
  rcases hs' with rfl | rfl
  · have c0 := h0.cell (i := 2) (by omega)
    have f0 := h0.free 2
    rcases hb : B x (2) with _ | _
    · rw [hb] at c0
      have HB : Hid (B x (2) = false) := hb
      rcases hc : cb with _ | _
      · subst hc
        have HQ := HCB
        clear hx hW h0 hb hs2
        go_enter Tryd.func50, Tryd.ntmps50
        go_wp2_with (first | (go_at_call 51; refine (HC _).mono ?_; rintro e w' ⟨rfl, hw⟩; have HW := H0.out.below hw; have c1 := HW.cell (i := 2) (by rw [LX.out]; decide); have f1 := HW.free (2); have HW2 : Hid (TB n w x w') := HW; clear HW hw) | (with_reducible refine at_list ?_; first | (refine wpList_load_row rfl 90 (.tmp 3) rfl n rfl 90 (BV (x)) (0, 0) _ (H0.out).hk Tryd.underlying90 rfl (infoS (LX.out)) ?_) | (refine wpList_load_row rfl 90 (.tmp 3) rfl n rfl 90 (BV (x)) (0, 0) _ (HW2.out).hk Tryd.underlying90 rfl (infoS (LX.out)) ?_) | (refine wpList_store_row rfl 90 (.tmp 6) (.tmp 43) rfl (n + 1) (BV (x)) rfl rfl 90 (BV Sn0) (HW2.out).hr (infoS (LX.out)) (by simp [Sn0, LX.out]) (BV_one _) ?_)))
        refine bodyPost_ret (v := .tuple #[.agg (BV (x)), .int .i64 12]) ?_ rfl ⟨by simp [SV, tk, HB.out, HQ.out], below_setRow (by rw [HN.out]; exact (HW2.out).old) _ (by rw [HN.out]; omega) _⟩
        exact results_row_tmp (P := Tryd.prog) (fn := Tryd.f50) (p := 6) (u := 7) (ty := 90) rfl _ _ (n + 1) 90 (BV (x)) (0, 0) _ _ rfl (setRow_heap _ _ _ _ 90 _ (HW2.out).hr) Tryd.underlying90 rfl (infoS (LX.out)) rfl
      · subst hc
        have HQ := HCB
        clear hx hW h0 hb hs2
        go_enter Tryd.func50, Tryd.ntmps50
        go_wp2_with (first | (go_at_call 51; refine (HC _).mono ?_; rintro e w' ⟨rfl, hw⟩; have HW := H0.out.below hw; have c1 := HW.cell (i := 2) (by rw [LX.out]; decide); have f1 := HW.free (2); have HW2 : Hid (TB n w x w') := HW; clear HW hw) | (with_reducible refine at_list ?_; first | (refine wpList_load_row rfl 90 (.tmp 3) rfl n rfl 90 (BV (x)) (0, 0) _ (H0.out).hk Tryd.underlying90 rfl (infoS (LX.out)) ?_) | (refine wpList_load_row rfl 90 (.tmp 3) rfl n rfl 90 (BV (x.set (2) true)) (0, 0) _ (HW2.out.set (2) true).hk Tryd.underlying90 rfl (infoS ((by simp [LX.out]))) ?_) | (refine wpList_store_row rfl 90 (.tmp 6) (.tmp 52) rfl (n + 1) (BV (x.set (2) true)) rfl rfl 90 (BV Sn0) (HW2.out.set (2) true).hr (infoS ((by simp [LX.out]))) (by simp [Sn0, LX.out]) (BV_one _) ?_)))
        refine bodyPost_ret (v := .tuple #[.agg (BV (x.set (2) true)), .int .i64 0]) ?_ rfl ⟨by simp [SV, tk, HB.out, HQ.out], below_setRow (by rw [HN.out]; exact (HW2.out.set (2) true).old) _ (by rw [HN.out]; omega) _⟩
        exact results_row_tmp (P := Tryd.prog) (fn := Tryd.f50) (p := 6) (u := 7) (ty := 90) rfl _ _ (n + 1) 90 (BV (x.set (2) true)) (0, 0) _ _ rfl (setRow_heap _ _ _ _ 90 _ (HW2.out.set (2) true).hr) Tryd.underlying90 rfl (infoS ((by simp [LX.out]))) rfl
    · rw [hb] at c0
      have HB : Hid (B x (2) = true) := hb
      clear hx hW h0 hb hs2 HC HCB
      go_enter Tryd.func50, Tryd.ntmps50
      go_wp2_with (first | (with_reducible refine at_list ?_; first | (refine wpList_load_row rfl 90 (.tmp 3) rfl n rfl 90 (BV (x)) (0, 0) _ (H0.out).hk Tryd.underlying90 rfl (infoS (LX.out)) ?_) | (refine wpList_store_row rfl 90 (.tmp 6) (.tmp 38) rfl (n + 1) (BV (x)) rfl rfl 90 (BV Sn0) (H0.out).hr (infoS (LX.out)) (by simp [Sn0, LX.out]) (BV_one _) ?_)))
      refine bodyPost_ret (v := .tuple #[.agg (BV (x)), .int .i64 10]) ?_ rfl ⟨by simp [SV, tk, HB.out], below_setRow (by rw [HN.out]; exact (H0.out).old) _ (by rw [HN.out]; omega) _⟩
      exact results_row_tmp (P := Tryd.prog) (fn := Tryd.f50) (p := 6) (u := 7) (ty := 90) rfl _ _ (n + 1) 90 (BV (x)) (0, 0) _ _ rfl (setRow_heap _ _ _ _ 90 _ (H0.out).hr) Tryd.underlying90 rfl (infoS (LX.out)) rfl
  · have c0 := h0.cell (i := 3) (by omega)
    have f0 := h0.free 3
    rcases hb : B x (3) with _ | _
    · rw [hb] at c0
      have HB : Hid (B x (3) = false) := hb
      rcases hc : cb with _ | _
      · subst hc
        have HQ := HCB
        clear hx hW h0 hb hs2
        go_enter Tryd.func50, Tryd.ntmps50
        go_wp2_with (first | (go_at_call 51; refine (HC _).mono ?_; rintro e w' ⟨rfl, hw⟩; have HW := H0.out.below hw; have c1 := HW.cell (i := 3) (by rw [LX.out]; decide); have f1 := HW.free (3); have HW2 : Hid (TB n w x w') := HW; clear HW hw) | (with_reducible refine at_list ?_; first | (refine wpList_load_row rfl 90 (.tmp 3) rfl n rfl 90 (BV (x)) (0, 0) _ (H0.out).hk Tryd.underlying90 rfl (infoS (LX.out)) ?_) | (refine wpList_load_row rfl 90 (.tmp 3) rfl n rfl 90 (BV (x)) (0, 0) _ (HW2.out).hk Tryd.underlying90 rfl (infoS (LX.out)) ?_) | (refine wpList_store_row rfl 90 (.tmp 6) (.tmp 43) rfl (n + 1) (BV (x)) rfl rfl 90 (BV Sn0) (HW2.out).hr (infoS (LX.out)) (by simp [Sn0, LX.out]) (BV_one _) ?_)))
        refine bodyPost_ret (v := .tuple #[.agg (BV (x)), .int .i64 12]) ?_ rfl ⟨by simp [SV, tk, HB.out, HQ.out], below_setRow (by rw [HN.out]; exact (HW2.out).old) _ (by rw [HN.out]; omega) _⟩
        exact results_row_tmp (P := Tryd.prog) (fn := Tryd.f50) (p := 6) (u := 7) (ty := 90) rfl _ _ (n + 1) 90 (BV (x)) (0, 0) _ _ rfl (setRow_heap _ _ _ _ 90 _ (HW2.out).hr) Tryd.underlying90 rfl (infoS (LX.out)) rfl
      · subst hc
        have HQ := HCB
        clear hx hW h0 hb hs2
        go_enter Tryd.func50, Tryd.ntmps50
        go_wp2_with (first | (go_at_call 51; refine (HC _).mono ?_; rintro e w' ⟨rfl, hw⟩; have HW := H0.out.below hw; have c1 := HW.cell (i := 3) (by rw [LX.out]; decide); have f1 := HW.free (3); have HW2 : Hid (TB n w x w') := HW; clear HW hw) | (with_reducible refine at_list ?_; first | (refine wpList_load_row rfl 90 (.tmp 3) rfl n rfl 90 (BV (x)) (0, 0) _ (H0.out).hk Tryd.underlying90 rfl (infoS (LX.out)) ?_) | (refine wpList_load_row rfl 90 (.tmp 3) rfl n rfl 90 (BV (x.set (3) true)) (0, 0) _ (HW2.out.set (3) true).hk Tryd.underlying90 rfl (infoS ((by simp [LX.out]))) ?_) | (refine wpList_store_row rfl 90 (.tmp 6) (.tmp 52) rfl (n + 1) (BV (x.set (3) true)) rfl rfl 90 (BV Sn0) (HW2.out.set (3) true).hr (infoS ((by simp [LX.out]))) (by simp [Sn0, LX.out]) (BV_one _) ?_)))
        refine bodyPost_ret (v := .tuple #[.agg (BV (x.set (3) true)), .int .i64 0]) ?_ rfl ⟨by simp [SV, tk, HB.out, HQ.out], below_setRow (by rw [HN.out]; exact (HW2.out.set (3) true).old) _ (by rw [HN.out]; omega) _⟩
        exact results_row_tmp (P := Tryd.prog) (fn := Tryd.f50) (p := 6) (u := 7) (ty := 90) rfl _ _ (n + 1) 90 (BV (x.set (3) true)) (0, 0) _ _ rfl (setRow_heap _ _ _ _ 90 _ (HW2.out.set (3) true).hr) Tryd.underlying90 rfl (infoS ((by simp [LX.out]))) rfl
    · rw [hb] at c0
      have HB : Hid (B x (3) = true) := hb
      clear hx hW h0 hb hs2 HC HCB
      go_enter Tryd.func50, Tryd.ntmps50
      go_wp2_with (first | (with_reducible refine at_list ?_; first | (refine wpList_load_row rfl 90 (.tmp 3) rfl n rfl 90 (BV (x)) (0, 0) _ (H0.out).hk Tryd.underlying90 rfl (infoS (LX.out)) ?_) | (refine wpList_store_row rfl 90 (.tmp 6) (.tmp 38) rfl (n + 1) (BV (x)) rfl rfl 90 (BV Sn0) (H0.out).hr (infoS (LX.out)) (by simp [Sn0, LX.out]) (BV_one _) ?_)))
      refine bodyPost_ret (v := .tuple #[.agg (BV (x)), .int .i64 10]) ?_ rfl ⟨by simp [SV, tk, HB.out], below_setRow (by rw [HN.out]; exact (H0.out).old) _ (by rw [HN.out]; omega) _⟩
      exact results_row_tmp (P := Tryd.prog) (fn := Tryd.f50) (p := 6) (u := 7) (ty := 90) rfl _ _ (n + 1) 90 (BV (x)) (0, 0) _ _ rfl (setRow_heap _ _ _ _ 90 _ (H0.out).hr) Tryd.underlying90 rfl (infoS (LX.out)) rfl
set_option maxRecDepth 100000 in
set_option maxHeartbeats 8000000 in
theorem token_3 (x : Sn) (hx : x.length = 12) (s : Nat) (hs2 : s < 2) (w : World) :
    Calls Tryd.prog 50 #[SV x, .int .i64 s, .int .i64 3] w fun e w' => e = .returned (.tuple #[SV (tk x s 3).1, .int .i64 (tk x s 3).2]) ∧ Below w.heap.size w w' := by
  have h0 := tb_start w x
  obtain ⟨n, hn⟩ : ∃ n, w.heap.size = n := ⟨_, rfl⟩
  obtain ⟨W, hW⟩ : ∃ W, (w.alloc (.cells (BV x) 90)).alloc (.cells (BV Sn0) 90) = W := ⟨_, rfl⟩
  rw [hW, hn] at h0
  have H0 : Hid (TB n w x W) := h0
  have HN : Hid (w.heap.size = n) := hn
  have LX : Hid (x.length = 12) := hx
  have hW' : (w.alloc (.cells (List.map Value.bool x).toArray 90)).alloc (.cells #[.bool false, .bool false, .bool false, .bool false, .bool false, .bool false, .bool false, .bool false, .bool false, .bool false, .bool false, .bool false] 90) = W := hW
  have HC := fun W => has_any x hx 3 W
  obtain ⟨cb, hcb⟩ : ∃ cb, hs x 3 = cb := ⟨_, rfl⟩
  rw [hcb] at HC
  have HCB : Hid (hs x 3 = cb) := hcb
  clear hcb
  simp only [SV] at *
  have c0 := h0.cell (i := 7) (by omega)
  have f0 := h0.free 7
  rcases hb : B x (7) with _ | _
  · rw [hb] at c0
    have HB : Hid (B x (7) = false) := hb
    rcases hc : cb with _ | _
    · subst hc
      have HQ := HCB
      clear hx hW h0 hb hs2
      go_enter Tryd.func50, Tryd.ntmps50
      go_wp2_with (first | (go_at_call 72; refine (HC _).mono ?_; rintro e w' ⟨rfl, hw⟩; have HW := H0.out.below hw; have c1 := HW.cell (i := 7) (by rw [LX.out]; decide); have f1 := HW.free (7); have HW2 : Hid (TB n w x w') := HW; clear HW hw) | (with_reducible refine at_list ?_; first | (refine wpList_load_row rfl 90 (.tmp 3) rfl n rfl 90 (BV (x)) (0, 0) _ (H0.out).hk Tryd.underlying90 rfl (infoS (LX.out)) ?_) | (refine wpList_load_row rfl 90 (.tmp 3) rfl n rfl 90 (BV (x)) (0, 0) _ (HW2.out).hk Tryd.underlying90 rfl (infoS (LX.out)) ?_) | (refine wpList_store_row rfl 90 (.tmp 6) (.tmp 18) rfl (n + 1) (BV (x)) rfl rfl 90 (BV Sn0) (HW2.out).hr (infoS (LX.out)) (by simp [Sn0, LX.out]) (BV_one _) ?_)))
      refine bodyPost_ret (v := .tuple #[.agg (BV (x)), .int .i64 11]) ?_ rfl ⟨by simp [SV, tk, HB.out, HQ.out], below_setRow (by rw [HN.out]; exact (HW2.out).old) _ (by rw [HN.out]; omega) _⟩
      exact results_row_tmp (P := Tryd.prog) (fn := Tryd.f50) (p := 6) (u := 7) (ty := 90) rfl _ _ (n + 1) 90 (BV (x)) (0, 0) _ _ rfl (setRow_heap _ _ _ _ 90 _ (HW2.out).hr) Tryd.underlying90 rfl (infoS (LX.out)) rfl
    · subst hc
      have HQ := HCB
      clear hx hW h0 hb hs2
      go_enter Tryd.func50, Tryd.ntmps50
      go_wp2_with (first | (go_at_call 72; refine (HC _).mono ?_; rintro e w' ⟨rfl, hw⟩; have HW := H0.out.below hw; have c1 := HW.cell (i := 7) (by rw [LX.out]; decide); have f1 := HW.free (7); have HW2 : Hid (TB n w x w') := HW; clear HW hw) | (with_reducible refine at_list ?_; first | (refine wpList_load_row rfl 90 (.tmp 3) rfl n rfl 90 (BV (x)) (0, 0) _ (H0.out).hk Tryd.underlying90 rfl (infoS (LX.out)) ?_) | (refine wpList_load_row rfl 90 (.tmp 3) rfl n rfl 90 (BV (x.set (7) true)) (0, 0) _ (HW2.out.set (7) true).hk Tryd.underlying90 rfl (infoS ((by simp [LX.out]))) ?_) | (refine wpList_store_row rfl 90 (.tmp 6) (.tmp 52) rfl (n + 1) (BV (x.set (7) true)) rfl rfl 90 (BV Sn0) (HW2.out.set (7) true).hr (infoS ((by simp [LX.out]))) (by simp [Sn0, LX.out]) (BV_one _) ?_)))
      refine bodyPost_ret (v := .tuple #[.agg (BV (x.set (7) true)), .int .i64 0]) ?_ rfl ⟨by simp [SV, tk, HB.out, HQ.out], below_setRow (by rw [HN.out]; exact (HW2.out.set (7) true).old) _ (by rw [HN.out]; omega) _⟩
      exact results_row_tmp (P := Tryd.prog) (fn := Tryd.f50) (p := 6) (u := 7) (ty := 90) rfl _ _ (n + 1) 90 (BV (x.set (7) true)) (0, 0) _ _ rfl (setRow_heap _ _ _ _ 90 _ (HW2.out.set (7) true).hr) Tryd.underlying90 rfl (infoS ((by simp [LX.out]))) rfl
  · rw [hb] at c0
    have HB : Hid (B x (7) = true) := hb
    clear hx hW h0 hb hs2 HC HCB
    go_enter Tryd.func50, Tryd.ntmps50
    go_wp2_with (first | (with_reducible refine at_list ?_; first | (refine wpList_load_row rfl 90 (.tmp 3) rfl n rfl 90 (BV (x)) (0, 0) _ (H0.out).hk Tryd.underlying90 rfl (infoS (LX.out)) ?_) | (refine wpList_store_row rfl 90 (.tmp 6) (.tmp 13) rfl (n + 1) (BV (x)) rfl rfl 90 (BV Sn0) (H0.out).hr (infoS (LX.out)) (by simp [Sn0, LX.out]) (BV_one _) ?_)))
    refine bodyPost_ret (v := .tuple #[.agg (BV (x)), .int .i64 10]) ?_ rfl ⟨by simp [SV, tk, HB.out], below_setRow (by rw [HN.out]; exact (H0.out).old) _ (by rw [HN.out]; omega) _⟩
    exact results_row_tmp (P := Tryd.prog) (fn := Tryd.f50) (p := 6) (u := 7) (ty := 90) rfl _ _ (n + 1) 90 (BV (x)) (0, 0) _ _ rfl (setRow_heap _ _ _ _ 90 _ (H0.out).hr) Tryd.underlying90 rfl (infoS (LX.out)) rfl
set_option maxRecDepth 100000 in
set_option maxHeartbeats 8000000 in
theorem token_4 (x : Sn) (hx : x.length = 12) (s : Nat) (hs2 : s < 2) (w : World) :
    Calls Tryd.prog 50 #[SV x, .int .i64 s, .int .i64 4] w fun e w' => e = .returned (.tuple #[SV (tk x s 4).1, .int .i64 (tk x s 4).2]) ∧ Below w.heap.size w w' := by
  have h0 := tb_start w x
  obtain ⟨n, hn⟩ : ∃ n, w.heap.size = n := ⟨_, rfl⟩
  obtain ⟨W, hW⟩ : ∃ W, (w.alloc (.cells (BV x) 90)).alloc (.cells (BV Sn0) 90) = W := ⟨_, rfl⟩
  rw [hW, hn] at h0
  have H0 : Hid (TB n w x W) := h0
  have HN : Hid (w.heap.size = n) := hn
  have LX : Hid (x.length = 12) := hx
  have hW' : (w.alloc (.cells (List.map Value.bool x).toArray 90)).alloc (.cells #[.bool false, .bool false, .bool false, .bool false, .bool false, .bool false, .bool false, .bool false, .bool false, .bool false, .bool false, .bool false] 90) = W := hW
  have HC := fun W => has_any x hx 4 W
  obtain ⟨cb, hcb⟩ : ∃ cb, hs x 4 = cb := ⟨_, rfl⟩
  rw [hcb] at HC
  have HCB : Hid (hs x 4 = cb) := hcb
  clear hcb
  simp only [SV] at *
  have c0 := h0.cell (i := 8) (by omega)
  have f0 := h0.free 8
  rcases hb : B x (8) with _ | _
  · rw [hb] at c0
    have HB : Hid (B x (8) = false) := hb
    rcases hc : cb with _ | _
    · subst hc
      have HQ := HCB
      clear hx hW h0 hb hs2
      go_enter Tryd.func50, Tryd.ntmps50
      go_wp2_with (first | (go_at_call 72; refine (HC _).mono ?_; rintro e w' ⟨rfl, hw⟩; have HW := H0.out.below hw; have c1 := HW.cell (i := 8) (by rw [LX.out]; decide); have f1 := HW.free (8); have HW2 : Hid (TB n w x w') := HW; clear HW hw) | (with_reducible refine at_list ?_; first | (refine wpList_load_row rfl 90 (.tmp 3) rfl n rfl 90 (BV (x)) (0, 0) _ (H0.out).hk Tryd.underlying90 rfl (infoS (LX.out)) ?_) | (refine wpList_load_row rfl 90 (.tmp 3) rfl n rfl 90 (BV (x)) (0, 0) _ (HW2.out).hk Tryd.underlying90 rfl (infoS (LX.out)) ?_) | (refine wpList_store_row rfl 90 (.tmp 6) (.tmp 18) rfl (n + 1) (BV (x)) rfl rfl 90 (BV Sn0) (HW2.out).hr (infoS (LX.out)) (by simp [Sn0, LX.out]) (BV_one _) ?_)))
      refine bodyPost_ret (v := .tuple #[.agg (BV (x)), .int .i64 11]) ?_ rfl ⟨by simp [SV, tk, HB.out, HQ.out], below_setRow (by rw [HN.out]; exact (HW2.out).old) _ (by rw [HN.out]; omega) _⟩
      exact results_row_tmp (P := Tryd.prog) (fn := Tryd.f50) (p := 6) (u := 7) (ty := 90) rfl _ _ (n + 1) 90 (BV (x)) (0, 0) _ _ rfl (setRow_heap _ _ _ _ 90 _ (HW2.out).hr) Tryd.underlying90 rfl (infoS (LX.out)) rfl
    · subst hc
      have HQ := HCB
      clear hx hW h0 hb hs2
      go_enter Tryd.func50, Tryd.ntmps50
      go_wp2_with (first | (go_at_call 72; refine (HC _).mono ?_; rintro e w' ⟨rfl, hw⟩; have HW := H0.out.below hw; have c1 := HW.cell (i := 8) (by rw [LX.out]; decide); have f1 := HW.free (8); have HW2 : Hid (TB n w x w') := HW; clear HW hw) | (with_reducible refine at_list ?_; first | (refine wpList_load_row rfl 90 (.tmp 3) rfl n rfl 90 (BV (x)) (0, 0) _ (H0.out).hk Tryd.underlying90 rfl (infoS (LX.out)) ?_) | (refine wpList_load_row rfl 90 (.tmp 3) rfl n rfl 90 (BV (x.set (8) true)) (0, 0) _ (HW2.out.set (8) true).hk Tryd.underlying90 rfl (infoS ((by simp [LX.out]))) ?_) | (refine wpList_store_row rfl 90 (.tmp 6) (.tmp 52) rfl (n + 1) (BV (x.set (8) true)) rfl rfl 90 (BV Sn0) (HW2.out.set (8) true).hr (infoS ((by simp [LX.out]))) (by simp [Sn0, LX.out]) (BV_one _) ?_)))
      refine bodyPost_ret (v := .tuple #[.agg (BV (x.set (8) true)), .int .i64 0]) ?_ rfl ⟨by simp [SV, tk, HB.out, HQ.out], below_setRow (by rw [HN.out]; exact (HW2.out.set (8) true).old) _ (by rw [HN.out]; omega) _⟩
      exact results_row_tmp (P := Tryd.prog) (fn := Tryd.f50) (p := 6) (u := 7) (ty := 90) rfl _ _ (n + 1) 90 (BV (x.set (8) true)) (0, 0) _ _ rfl (setRow_heap _ _ _ _ 90 _ (HW2.out.set (8) true).hr) Tryd.underlying90 rfl (infoS ((by simp [LX.out]))) rfl
  · rw [hb] at c0
    have HB : Hid (B x (8) = true) := hb
    clear hx hW h0 hb hs2 HC HCB
    go_enter Tryd.func50, Tryd.ntmps50
    go_wp2_with (first | (with_reducible refine at_list ?_; first | (refine wpList_load_row rfl 90 (.tmp 3) rfl n rfl 90 (BV (x)) (0, 0) _ (H0.out).hk Tryd.underlying90 rfl (infoS (LX.out)) ?_) | (refine wpList_store_row rfl 90 (.tmp 6) (.tmp 13) rfl (n + 1) (BV (x)) rfl rfl 90 (BV Sn0) (H0.out).hr (infoS (LX.out)) (by simp [Sn0, LX.out]) (BV_one _) ?_)))
    refine bodyPost_ret (v := .tuple #[.agg (BV (x)), .int .i64 10]) ?_ rfl ⟨by simp [SV, tk, HB.out], below_setRow (by rw [HN.out]; exact (H0.out).old) _ (by rw [HN.out]; omega) _⟩
    exact results_row_tmp (P := Tryd.prog) (fn := Tryd.f50) (p := 6) (u := 7) (ty := 90) rfl _ _ (n + 1) 90 (BV (x)) (0, 0) _ _ rfl (setRow_heap _ _ _ _ 90 _ (H0.out).hr) Tryd.underlying90 rfl (infoS (LX.out)) rfl
set_option maxRecDepth 100000 in
set_option maxHeartbeats 8000000 in
theorem token_5 (x : Sn) (hx : x.length = 12) (s : Nat) (hs2 : s < 2) (w : World) :
    Calls Tryd.prog 50 #[SV x, .int .i64 s, .int .i64 5] w fun e w' => e = .returned (.tuple #[SV (tk x s 5).1, .int .i64 (tk x s 5).2]) ∧ Below w.heap.size w w' := by
  have h0 := tb_start w x
  obtain ⟨n, hn⟩ : ∃ n, w.heap.size = n := ⟨_, rfl⟩
  obtain ⟨W, hW⟩ : ∃ W, (w.alloc (.cells (BV x) 90)).alloc (.cells (BV Sn0) 90) = W := ⟨_, rfl⟩
  rw [hW, hn] at h0
  have H0 : Hid (TB n w x W) := h0
  have HN : Hid (w.heap.size = n) := hn
  have LX : Hid (x.length = 12) := hx
  have hW' : (w.alloc (.cells (List.map Value.bool x).toArray 90)).alloc (.cells #[.bool false, .bool false, .bool false, .bool false, .bool false, .bool false, .bool false, .bool false, .bool false, .bool false, .bool false, .bool false] 90) = W := hW
  have HC := fun W => has_any x hx 5 W
  obtain ⟨cb, hcb⟩ : ∃ cb, hs x 5 = cb := ⟨_, rfl⟩
  rw [hcb] at HC
  have HCB : Hid (hs x 5 = cb) := hcb
  clear hcb
  simp only [SV] at *
  have c0 := h0.cell (i := 9) (by omega)
  have f0 := h0.free 9
  rcases hb : B x (9) with _ | _
  · rw [hb] at c0
    have HB : Hid (B x (9) = false) := hb
    rcases hc : cb with _ | _
    · subst hc
      have HQ := HCB
      clear hx hW h0 hb hs2
      go_enter Tryd.func50, Tryd.ntmps50
      go_wp2_with (first | (go_at_call 72; refine (HC _).mono ?_; rintro e w' ⟨rfl, hw⟩; have HW := H0.out.below hw; have c1 := HW.cell (i := 9) (by rw [LX.out]; decide); have f1 := HW.free (9); have HW2 : Hid (TB n w x w') := HW; clear HW hw) | (with_reducible refine at_list ?_; first | (refine wpList_load_row rfl 90 (.tmp 3) rfl n rfl 90 (BV (x)) (0, 0) _ (H0.out).hk Tryd.underlying90 rfl (infoS (LX.out)) ?_) | (refine wpList_load_row rfl 90 (.tmp 3) rfl n rfl 90 (BV (x)) (0, 0) _ (HW2.out).hk Tryd.underlying90 rfl (infoS (LX.out)) ?_) | (refine wpList_store_row rfl 90 (.tmp 6) (.tmp 18) rfl (n + 1) (BV (x)) rfl rfl 90 (BV Sn0) (HW2.out).hr (infoS (LX.out)) (by simp [Sn0, LX.out]) (BV_one _) ?_)))
      refine bodyPost_ret (v := .tuple #[.agg (BV (x)), .int .i64 11]) ?_ rfl ⟨by simp [SV, tk, HB.out, HQ.out], below_setRow (by rw [HN.out]; exact (HW2.out).old) _ (by rw [HN.out]; omega) _⟩
      exact results_row_tmp (P := Tryd.prog) (fn := Tryd.f50) (p := 6) (u := 7) (ty := 90) rfl _ _ (n + 1) 90 (BV (x)) (0, 0) _ _ rfl (setRow_heap _ _ _ _ 90 _ (HW2.out).hr) Tryd.underlying90 rfl (infoS (LX.out)) rfl
    · subst hc
      have HQ := HCB
      clear hx hW h0 hb hs2
      go_enter Tryd.func50, Tryd.ntmps50
      go_wp2_with (first | (go_at_call 72; refine (HC _).mono ?_; rintro e w' ⟨rfl, hw⟩; have HW := H0.out.below hw; have c1 := HW.cell (i := 9) (by rw [LX.out]; decide); have f1 := HW.free (9); have HW2 : Hid (TB n w x w') := HW; clear HW hw) | (with_reducible refine at_list ?_; first | (refine wpList_load_row rfl 90 (.tmp 3) rfl n rfl 90 (BV (x)) (0, 0) _ (H0.out).hk Tryd.underlying90 rfl (infoS (LX.out)) ?_) | (refine wpList_load_row rfl 90 (.tmp 3) rfl n rfl 90 (BV (x.set (9) true)) (0, 0) _ (HW2.out.set (9) true).hk Tryd.underlying90 rfl (infoS ((by simp [LX.out]))) ?_) | (refine wpList_store_row rfl 90 (.tmp 6) (.tmp 52) rfl (n + 1) (BV (x.set (9) true)) rfl rfl 90 (BV Sn0) (HW2.out.set (9) true).hr (infoS ((by simp [LX.out]))) (by simp [Sn0, LX.out]) (BV_one _) ?_)))
      refine bodyPost_ret (v := .tuple #[.agg (BV (x.set (9) true)), .int .i64 0]) ?_ rfl ⟨by simp [SV, tk, HB.out, HQ.out], below_setRow (by rw [HN.out]; exact (HW2.out.set (9) true).old) _ (by rw [HN.out]; omega) _⟩
      exact results_row_tmp (P := Tryd.prog) (fn := Tryd.f50) (p := 6) (u := 7) (ty := 90) rfl _ _ (n + 1) 90 (BV (x.set (9) true)) (0, 0) _ _ rfl (setRow_heap _ _ _ _ 90 _ (HW2.out.set (9) true).hr) Tryd.underlying90 rfl (infoS ((by simp [LX.out]))) rfl
  · rw [hb] at c0
    have HB : Hid (B x (9) = true) := hb
    clear hx hW h0 hb hs2 HC HCB
    go_enter Tryd.func50, Tryd.ntmps50
    go_wp2_with (first | (with_reducible refine at_list ?_; first | (refine wpList_load_row rfl 90 (.tmp 3) rfl n rfl 90 (BV (x)) (0, 0) _ (H0.out).hk Tryd.underlying90 rfl (infoS (LX.out)) ?_) | (refine wpList_store_row rfl 90 (.tmp 6) (.tmp 13) rfl (n + 1) (BV (x)) rfl rfl 90 (BV Sn0) (H0.out).hr (infoS (LX.out)) (by simp [Sn0, LX.out]) (BV_one _) ?_)))
    refine bodyPost_ret (v := .tuple #[.agg (BV (x)), .int .i64 10]) ?_ rfl ⟨by simp [SV, tk, HB.out], below_setRow (by rw [HN.out]; exact (H0.out).old) _ (by rw [HN.out]; omega) _⟩
    exact results_row_tmp (P := Tryd.prog) (fn := Tryd.f50) (p := 6) (u := 7) (ty := 90) rfl _ _ (n + 1) 90 (BV (x)) (0, 0) _ _ rfl (setRow_heap _ _ _ _ 90 _ (H0.out).hr) Tryd.underlying90 rfl (infoS (LX.out)) rfl
set_option maxRecDepth 100000 in
set_option maxHeartbeats 8000000 in
theorem token_6 (x : Sn) (hx : x.length = 12) (s : Nat) (hs2 : s < 2) (w : World) :
    Calls Tryd.prog 50 #[SV x, .int .i64 s, .int .i64 6] w fun e w' => e = .returned (.tuple #[SV (tk x s 6).1, .int .i64 (tk x s 6).2]) ∧ Below w.heap.size w w' := by
  have h0 := tb_start w x
  obtain ⟨n, hn⟩ : ∃ n, w.heap.size = n := ⟨_, rfl⟩
  obtain ⟨W, hW⟩ : ∃ W, (w.alloc (.cells (BV x) 90)).alloc (.cells (BV Sn0) 90) = W := ⟨_, rfl⟩
  rw [hW, hn] at h0
  have H0 : Hid (TB n w x W) := h0
  have HN : Hid (w.heap.size = n) := hn
  have LX : Hid (x.length = 12) := hx
  have hW' : (w.alloc (.cells (List.map Value.bool x).toArray 90)).alloc (.cells #[.bool false, .bool false, .bool false, .bool false, .bool false, .bool false, .bool false, .bool false, .bool false, .bool false, .bool false, .bool false] 90) = W := hW
  have HC := fun W => has_any x hx 6 W
  obtain ⟨cb, hcb⟩ : ∃ cb, hs x 6 = cb := ⟨_, rfl⟩
  rw [hcb] at HC
  have HCB : Hid (hs x 6 = cb) := hcb
  clear hcb
  simp only [SV] at *
  have c0 := h0.cell (i := 10) (by omega)
  have f0 := h0.free 10
  rcases hb : B x (10) with _ | _
  · rw [hb] at c0
    have HB : Hid (B x (10) = false) := hb
    rcases hc : cb with _ | _
    · subst hc
      have HQ := HCB
      clear hx hW h0 hb hs2
      go_enter Tryd.func50, Tryd.ntmps50
      go_wp2_with (first | (go_at_call 72; refine (HC _).mono ?_; rintro e w' ⟨rfl, hw⟩; have HW := H0.out.below hw; have c1 := HW.cell (i := 10) (by rw [LX.out]; decide); have f1 := HW.free (10); have HW2 : Hid (TB n w x w') := HW; clear HW hw) | (with_reducible refine at_list ?_; first | (refine wpList_load_row rfl 90 (.tmp 3) rfl n rfl 90 (BV (x)) (0, 0) _ (H0.out).hk Tryd.underlying90 rfl (infoS (LX.out)) ?_) | (refine wpList_load_row rfl 90 (.tmp 3) rfl n rfl 90 (BV (x)) (0, 0) _ (HW2.out).hk Tryd.underlying90 rfl (infoS (LX.out)) ?_) | (refine wpList_store_row rfl 90 (.tmp 6) (.tmp 18) rfl (n + 1) (BV (x)) rfl rfl 90 (BV Sn0) (HW2.out).hr (infoS (LX.out)) (by simp [Sn0, LX.out]) (BV_one _) ?_)))
      refine bodyPost_ret (v := .tuple #[.agg (BV (x)), .int .i64 11]) ?_ rfl ⟨by simp [SV, tk, HB.out, HQ.out], below_setRow (by rw [HN.out]; exact (HW2.out).old) _ (by rw [HN.out]; omega) _⟩
      exact results_row_tmp (P := Tryd.prog) (fn := Tryd.f50) (p := 6) (u := 7) (ty := 90) rfl _ _ (n + 1) 90 (BV (x)) (0, 0) _ _ rfl (setRow_heap _ _ _ _ 90 _ (HW2.out).hr) Tryd.underlying90 rfl (infoS (LX.out)) rfl
    · subst hc
      have HQ := HCB
      clear hx hW h0 hb hs2
      go_enter Tryd.func50, Tryd.ntmps50
      go_wp2_with (first | (go_at_call 72; refine (HC _).mono ?_; rintro e w' ⟨rfl, hw⟩; have HW := H0.out.below hw; have c1 := HW.cell (i := 10) (by rw [LX.out]; decide); have f1 := HW.free (10); have HW2 : Hid (TB n w x w') := HW; clear HW hw) | (with_reducible refine at_list ?_; first | (refine wpList_load_row rfl 90 (.tmp 3) rfl n rfl 90 (BV (x)) (0, 0) _ (H0.out).hk Tryd.underlying90 rfl (infoS (LX.out)) ?_) | (refine wpList_load_row rfl 90 (.tmp 3) rfl n rfl 90 (BV (x.set (10) true)) (0, 0) _ (HW2.out.set (10) true).hk Tryd.underlying90 rfl (infoS ((by simp [LX.out]))) ?_) | (refine wpList_store_row rfl 90 (.tmp 6) (.tmp 52) rfl (n + 1) (BV (x.set (10) true)) rfl rfl 90 (BV Sn0) (HW2.out.set (10) true).hr (infoS ((by simp [LX.out]))) (by simp [Sn0, LX.out]) (BV_one _) ?_)))
      refine bodyPost_ret (v := .tuple #[.agg (BV (x.set (10) true)), .int .i64 0]) ?_ rfl ⟨by simp [SV, tk, HB.out, HQ.out], below_setRow (by rw [HN.out]; exact (HW2.out.set (10) true).old) _ (by rw [HN.out]; omega) _⟩
      exact results_row_tmp (P := Tryd.prog) (fn := Tryd.f50) (p := 6) (u := 7) (ty := 90) rfl _ _ (n + 1) 90 (BV (x.set (10) true)) (0, 0) _ _ rfl (setRow_heap _ _ _ _ 90 _ (HW2.out.set (10) true).hr) Tryd.underlying90 rfl (infoS ((by simp [LX.out]))) rfl
  · rw [hb] at c0
    have HB : Hid (B x (10) = true) := hb
    clear hx hW h0 hb hs2 HC HCB
    go_enter Tryd.func50, Tryd.ntmps50
    go_wp2_with (first | (with_reducible refine at_list ?_; first | (refine wpList_load_row rfl 90 (.tmp 3) rfl n rfl 90 (BV (x)) (0, 0) _ (H0.out).hk Tryd.underlying90 rfl (infoS (LX.out)) ?_) | (refine wpList_store_row rfl 90 (.tmp 6) (.tmp 13) rfl (n + 1) (BV (x)) rfl rfl 90 (BV Sn0) (H0.out).hr (infoS (LX.out)) (by simp [Sn0, LX.out]) (BV_one _) ?_)))
    refine bodyPost_ret (v := .tuple #[.agg (BV (x)), .int .i64 10]) ?_ rfl ⟨by simp [SV, tk, HB.out], below_setRow (by rw [HN.out]; exact (H0.out).old) _ (by rw [HN.out]; omega) _⟩
    exact results_row_tmp (P := Tryd.prog) (fn := Tryd.f50) (p := 6) (u := 7) (ty := 90) rfl _ _ (n + 1) 90 (BV (x)) (0, 0) _ _ rfl (setRow_heap _ _ _ _ 90 _ (H0.out).hr) Tryd.underlying90 rfl (infoS (LX.out)) rfl
theorem token_any (x : Sn) (hx : x.length = 12) (s : Nat) (hs2 : s < 2) (t : Int) (h1 : 1 ≤ t) (h7 : t ≤ 7) (w : World) :
    Calls Tryd.prog 50 #[SV x, .int .i64 s, .int .i64 t] w fun e w' => e = .returned (.tuple #[SV (tk x s t).1, .int .i64 (tk x s t).2]) ∧ Below w.heap.size w w' := by
  have ht : t = 1 ∨ t = 2 ∨ t = 3 ∨ t = 4 ∨ t = 5 ∨ t = 6 ∨ t = 7 := by omega
  rcases ht with rfl | rfl | rfl | rfl | rfl | rfl | rfl
  · exact token_e x hx s hs2 w
  · exact token_s x hx s hs2 w
  · exact token_3 x hx s hs2 w
  · exact token_4 x hx s hs2 w
  · exact token_5 x hx s hs2 w
  · exact token_6 x hx s hs2 w
  · exact token_psk x hx s hs2 w
end Go.Proofs.YtjhleocpipmklaaDoor
