import Derived.Deep.RegionHeld3
import Derived.Test.YtlffamcifahbjaaMgaz
namespace Go.Proofs.Ytlffamcifahbjaa
set_option linter.unusedSimpArgs false
set_option linter.unusedVariables false
open Go.ChangeShapes Go.WideShapes Go.ChangeAt Go.RowKit Go.Pin Go.Fld
set_option maxRecDepth 100000 in
set_option maxHeartbeats 8000000 in
theorem rstep_gen {x a b c d pa qa na ra ma sa pp qq ea su di mo oa ad ob oc dd od : List Int} (w : World)
    (l_x : Hid (x.length = 16)) (l_a : Hid (a.length = 16)) (l_b : Hid (b.length = 16)) (l_c : Hid (c.length = 16)) (l_d : Hid (d.length = 16)) (l_pa : Hid (pa.length = 16)) (l_qa : Hid (qa.length = 16)) (l_ra : Hid (ra.length = 16)) (l_sa : Hid (sa.length = 16)) (l_pp : Hid (pp.length = 16)) (l_qq : Hid (qq.length = 16)) (l_ea : Hid (ea.length = 16)) (l_su : Hid (su.length = 16)) (l_di : Hid (di.length = 16)) (l_mo : Hid (mo.length = 16)) (l_oa : Hid (oa.length = 16)) (l_ob : Hid (ob.length = 16)) (l_oc : Hid (oc.length = 16)) (l_od : Hid (od.length = 16))
    (CA1 : Hid (∀ w, Calls Try.prog 51 #[.agg (VI .i64 a), .agg (VI .i64 b)] w fun e w' => e = .returned (.agg (VI .i64 pa)) ∧ Below w.heap.size w w'))
    (CS1 : Hid (∀ w, Calls Try.prog 52 #[.agg (VI .i64 a), .agg (VI .i64 b)] w fun e w' => e = .returned (.agg (VI .i64 qa)) ∧ Below w.heap.size w w'))
    (CS2 : Hid (∀ w, Calls Try.prog 52 #[.agg (VI .i64 c), .agg (VI .i64 d)] w fun e w' => e = .returned (.agg (VI .i64 na)) ∧ Below w.heap.size w w'))
    (CM1 : Hid (∀ w, Calls Try.prog 35 #[.agg (VI .i64 na), .agg (VI .i64 pa)] w fun e w' => e = .returned (.agg (VI .i64 ra)) ∧ Below w.heap.size w w'))
    (CA2 : Hid (∀ w, Calls Try.prog 51 #[.agg (VI .i64 c), .agg (VI .i64 d)] w fun e w' => e = .returned (.agg (VI .i64 ma)) ∧ Below w.heap.size w w'))
    (CM2 : Hid (∀ w, Calls Try.prog 35 #[.agg (VI .i64 ma), .agg (VI .i64 qa)] w fun e w' => e = .returned (.agg (VI .i64 sa)) ∧ Below w.heap.size w w'))
    (CM3 : Hid (∀ w, Calls Try.prog 35 #[.agg (VI .i64 pa), .agg (VI .i64 pa)] w fun e w' => e = .returned (.agg (VI .i64 pp)) ∧ Below w.heap.size w w'))
    (CM4 : Hid (∀ w, Calls Try.prog 35 #[.agg (VI .i64 qa), .agg (VI .i64 qa)] w fun e w' => e = .returned (.agg (VI .i64 qq)) ∧ Below w.heap.size w w'))
    (CS3 : Hid (∀ w, Calls Try.prog 52 #[.agg (VI .i64 pp), .agg (VI .i64 qq)] w fun e w' => e = .returned (.agg (VI .i64 ea)) ∧ Below w.heap.size w w'))
    (CA3 : Hid (∀ w, Calls Try.prog 51 #[.agg (VI .i64 ra), .agg (VI .i64 sa)] w fun e w' => e = .returned (.agg (VI .i64 su)) ∧ Below w.heap.size w w'))
    (CS4 : Hid (∀ w, Calls Try.prog 52 #[.agg (VI .i64 ra), .agg (VI .i64 sa)] w fun e w' => e = .returned (.agg (VI .i64 di)) ∧ Below w.heap.size w w'))
    (CC : Hid (∀ w, Calls Try.prog 53 #[.agg (VI .i64 ea), .int .i64 121665] w fun e w' => e = .returned (.agg (VI .i64 mo)) ∧ Below w.heap.size w w'))
    (CM5 : Hid (∀ w, Calls Try.prog 35 #[.agg (VI .i64 pp), .agg (VI .i64 qq)] w fun e w' => e = .returned (.agg (VI .i64 oa)) ∧ Below w.heap.size w w'))
    (CA4 : Hid (∀ w, Calls Try.prog 51 #[.agg (VI .i64 pp), .agg (VI .i64 mo)] w fun e w' => e = .returned (.agg (VI .i64 ad)) ∧ Below w.heap.size w w'))
    (CM6 : Hid (∀ w, Calls Try.prog 35 #[.agg (VI .i64 ea), .agg (VI .i64 ad)] w fun e w' => e = .returned (.agg (VI .i64 ob)) ∧ Below w.heap.size w w'))
    (CM7 : Hid (∀ w, Calls Try.prog 35 #[.agg (VI .i64 su), .agg (VI .i64 su)] w fun e w' => e = .returned (.agg (VI .i64 oc)) ∧ Below w.heap.size w w'))
    (CM8 : Hid (∀ w, Calls Try.prog 35 #[.agg (VI .i64 di), .agg (VI .i64 di)] w fun e w' => e = .returned (.agg (VI .i64 dd)) ∧ Below w.heap.size w w'))
    (CM9 : Hid (∀ w, Calls Try.prog 35 #[.agg (VI .i64 x), .agg (VI .i64 dd)] w fun e w' => e = .returned (.agg (VI .i64 od)) ∧ Below w.heap.size w w'))
    : Calls Try.prog 33 #[.agg (VI .i64 x), .agg (VI .i64 a), .agg (VI .i64 b), .agg (VI .i64 c), .agg (VI .i64 d)] w fun e w' => e = .returned (.tuple #[.agg (VI .i64 oa), .agg (VI .i64 ob), .agg (VI .i64 oc), .agg (VI .i64 od)]) ∧ Below w.heap.size w w' := by
  have hE := ((((((((((ev_nil' w).new (bxL x)).new (bxL a)).new (bxL b)).new (bxL c)).new (bxL d)).new (bxL (List.replicate 16 0))).new (bxL (List.replicate 16 0))).new (bxL (List.replicate 16 0))).new (bxL (List.replicate 16 0)))
  simp only [size_alloc] at hE
  obtain ⟨Y0, hW⟩ : ∃ W, (((((((((w.alloc (.cells (VI .i64 x) 65)).alloc (.cells (VI .i64 a) 65)).alloc (.cells (VI .i64 b) 65)).alloc (.cells (VI .i64 c) 65)).alloc (.cells (VI .i64 d) 65)).alloc (.cells #[.int .i64 0, .int .i64 0, .int .i64 0, .int .i64 0, .int .i64 0, .int .i64 0, .int .i64 0, .int .i64 0, .int .i64 0, .int .i64 0, .int .i64 0, .int .i64 0, .int .i64 0, .int .i64 0, .int .i64 0, .int .i64 0] 65)).alloc (.cells #[.int .i64 0, .int .i64 0, .int .i64 0, .int .i64 0, .int .i64 0, .int .i64 0, .int .i64 0, .int .i64 0, .int .i64 0, .int .i64 0, .int .i64 0, .int .i64 0, .int .i64 0, .int .i64 0, .int .i64 0, .int .i64 0] 65)).alloc (.cells #[.int .i64 0, .int .i64 0, .int .i64 0, .int .i64 0, .int .i64 0, .int .i64 0, .int .i64 0, .int .i64 0, .int .i64 0, .int .i64 0, .int .i64 0, .int .i64 0, .int .i64 0, .int .i64 0, .int .i64 0, .int .i64 0] 65)).alloc (.cells #[.int .i64 0, .int .i64 0, .int .i64 0, .int .i64 0, .int .i64 0, .int .i64 0, .int .i64 0, .int .i64 0, .int .i64 0, .int .i64 0, .int .i64 0, .int .i64 0, .int .i64 0, .int .i64 0, .int .i64 0, .int .i64 0] 65)) = W := ⟨_, rfl⟩
  rw [show (((((((((w.alloc (bxL x)).alloc (bxL a)).alloc (bxL b)).alloc (bxL c)).alloc (bxL d)).alloc (bxL (List.replicate 16 0))).alloc (bxL (List.replicate 16 0))).alloc (bxL (List.replicate 16 0))).alloc (bxL (List.replicate 16 0))) = Y0 from hW] at hE
  have X0 : Hid (Ev w.heap.size w (.pointer none) [] [(w.heap.size + 1 + 1 + 1 + 1 + 1 + 1 + 1 + 1, bxL (List.replicate 16 0)), (w.heap.size + 1 + 1 + 1 + 1 + 1 + 1 + 1, bxL (List.replicate 16 0)), (w.heap.size + 1 + 1 + 1 + 1 + 1 + 1, bxL (List.replicate 16 0)), (w.heap.size + 1 + 1 + 1 + 1 + 1, bxL (List.replicate 16 0)), (w.heap.size + 1 + 1 + 1 + 1, bxL d), (w.heap.size + 1 + 1 + 1, bxL c), (w.heap.size + 1 + 1, bxL b), (w.heap.size + 1, bxL a), (w.heap.size, bxL x)] Y0) := hE
  clear hE
  go_enter Try.func33, Try.ntmps33
  go_wp2_with (with_reducible refine at_list ?_; first | (refine wpList_load_row rfl 65 (.tmp 6) rfl (w.heap.size + 1) rfl 65 (VI .i64 a) (0, 0) _ (X0.out.row (g := w.heap.size + 1) (x := bxL a) (by simp)) Try.underlying65 rfl (infoNm l_a.out) ?_) | (refine wpList_load_row rfl 65 (.tmp 7) rfl (w.heap.size + 1 + 1) rfl 65 (VI .i64 b) (0, 0) _ (X0.out.row (g := w.heap.size + 1 + 1) (x := bxL b) (by simp)) Try.underlying65 rfl (infoNm l_b.out) ?_))
  refine (CA1.out _).mono ?_
  rintro e Y1 ⟨rfl, hb⟩
  have X1 : Hid (Ev w.heap.size w (.pointer none) [] [(w.heap.size + 1 + 1 + 1 + 1 + 1 + 1 + 1 + 1, bxL (List.replicate 16 0)), (w.heap.size + 1 + 1 + 1 + 1 + 1 + 1 + 1, bxL (List.replicate 16 0)), (w.heap.size + 1 + 1 + 1 + 1 + 1 + 1, bxL (List.replicate 16 0)), (w.heap.size + 1 + 1 + 1 + 1 + 1, bxL (List.replicate 16 0)), (w.heap.size + 1 + 1 + 1 + 1, bxL d), (w.heap.size + 1 + 1 + 1, bxL c), (w.heap.size + 1 + 1, bxL b), (w.heap.size + 1, bxL a), (w.heap.size, bxL x)] Y1) := X0.out.below hb
  clear hb X0 hW
  go_wp2_with (with_reducible refine at_list ?_; first | (refine hold_store 65 (.tmp 14) (.tmp 26) rfl ?_))
  refine store_row_new rfl 65 (.tmp 14) (.tmp 26) rfl Y1.heap.size (VI .i64 pa) rfl rfl rfl 65 (VI .i64 (List.replicate 16 0)) (infoNm l_pa.out) (by rw [VI_size, VI_size, l_pa.out]; rfl) (VI_one _ _) ?_
  have hN := X1.out.new (bxL pa)
  have hF : w.heap.size + 1 + 1 + 1 + 1 + 1 + 1 + 1 + 1 < Y1.heap.size := X1.out.lt (g := w.heap.size + 1 + 1 + 1 + 1 + 1 + 1 + 1 + 1) (x := bxL (List.replicate 16 0)) (by simp)
  obtain ⟨Y2, hW⟩ : ∃ W, Y1.alloc (bxL pa) = W := ⟨_, rfl⟩
  rw [hW] at hN
  rw [show Y1.alloc (.cells (VI .i64 pa) 65) = Y2 from hW]
  obtain ⟨gp, hg⟩ : ∃ g, Y1.heap.size = g := ⟨_, rfl⟩
  rw [hg] at hN hF
  try simp only [hg]
  clear hg hW
  have X2 : Hid (Ev w.heap.size w (.pointer none) [] [(gp, bxL pa), (w.heap.size + 1 + 1 + 1 + 1 + 1 + 1 + 1 + 1, bxL (List.replicate 16 0)), (w.heap.size + 1 + 1 + 1 + 1 + 1 + 1 + 1, bxL (List.replicate 16 0)), (w.heap.size + 1 + 1 + 1 + 1 + 1 + 1, bxL (List.replicate 16 0)), (w.heap.size + 1 + 1 + 1 + 1 + 1, bxL (List.replicate 16 0)), (w.heap.size + 1 + 1 + 1 + 1, bxL d), (w.heap.size + 1 + 1 + 1, bxL c), (w.heap.size + 1 + 1, bxL b), (w.heap.size + 1, bxL a), (w.heap.size, bxL x)] Y2) := hN
  have O_gp : Hid (w.heap.size + 1 + 1 + 1 + 1 + 1 + 1 + 1 + 1 < gp) := hF
  clear hN hF X1
  go_wp2_with (with_reducible refine at_list ?_; first | (refine wpList_load_row rfl 65 (.tmp 6) rfl (w.heap.size + 1) rfl 65 (VI .i64 a) (0, 0) _ (X2.out.row (g := w.heap.size + 1) (x := bxL a) (by simp)) Try.underlying65 rfl (infoNm l_a.out) ?_) | (refine wpList_load_row rfl 65 (.tmp 7) rfl (w.heap.size + 1 + 1) rfl 65 (VI .i64 b) (0, 0) _ (X2.out.row (g := w.heap.size + 1 + 1) (x := bxL b) (by simp)) Try.underlying65 rfl (infoNm l_b.out) ?_))
  refine (CS1.out _).mono ?_
  rintro e Y3 ⟨rfl, hb⟩
  have X3 : Hid (Ev w.heap.size w (.pointer none) [] [(gp, bxL pa), (w.heap.size + 1 + 1 + 1 + 1 + 1 + 1 + 1 + 1, bxL (List.replicate 16 0)), (w.heap.size + 1 + 1 + 1 + 1 + 1 + 1 + 1, bxL (List.replicate 16 0)), (w.heap.size + 1 + 1 + 1 + 1 + 1 + 1, bxL (List.replicate 16 0)), (w.heap.size + 1 + 1 + 1 + 1 + 1, bxL (List.replicate 16 0)), (w.heap.size + 1 + 1 + 1 + 1, bxL d), (w.heap.size + 1 + 1 + 1, bxL c), (w.heap.size + 1 + 1, bxL b), (w.heap.size + 1, bxL a), (w.heap.size, bxL x)] Y3) := X2.out.below hb
  clear hb X2 
  go_wp2_with (with_reducible refine at_list ?_; first | (refine hold_store 65 (.tmp 15) (.tmp 29) rfl ?_))
  refine store_row_new rfl 65 (.tmp 15) (.tmp 29) rfl Y3.heap.size (VI .i64 qa) rfl rfl rfl 65 (VI .i64 (List.replicate 16 0)) (infoNm l_qa.out) (by rw [VI_size, VI_size, l_qa.out]; rfl) (VI_one _ _) ?_
  have hN := X3.out.new (bxL qa)
  have hF : w.heap.size + 1 + 1 + 1 + 1 + 1 + 1 + 1 + 1 < Y3.heap.size := X3.out.lt (g := w.heap.size + 1 + 1 + 1 + 1 + 1 + 1 + 1 + 1) (x := bxL (List.replicate 16 0)) (by simp)
  obtain ⟨Y4, hW⟩ : ∃ W, Y3.alloc (bxL qa) = W := ⟨_, rfl⟩
  rw [hW] at hN
  rw [show Y3.alloc (.cells (VI .i64 qa) 65) = Y4 from hW]
  obtain ⟨gq, hg⟩ : ∃ g, Y3.heap.size = g := ⟨_, rfl⟩
  rw [hg] at hN hF
  try simp only [hg]
  clear hg hW
  have X4 : Hid (Ev w.heap.size w (.pointer none) [] [(gq, bxL qa), (gp, bxL pa), (w.heap.size + 1 + 1 + 1 + 1 + 1 + 1 + 1 + 1, bxL (List.replicate 16 0)), (w.heap.size + 1 + 1 + 1 + 1 + 1 + 1 + 1, bxL (List.replicate 16 0)), (w.heap.size + 1 + 1 + 1 + 1 + 1 + 1, bxL (List.replicate 16 0)), (w.heap.size + 1 + 1 + 1 + 1 + 1, bxL (List.replicate 16 0)), (w.heap.size + 1 + 1 + 1 + 1, bxL d), (w.heap.size + 1 + 1 + 1, bxL c), (w.heap.size + 1 + 1, bxL b), (w.heap.size + 1, bxL a), (w.heap.size, bxL x)] Y4) := hN
  have O_gq : Hid (w.heap.size + 1 + 1 + 1 + 1 + 1 + 1 + 1 + 1 < gq) := hF
  clear hN hF X3
  go_wp2_with fail
  refine wp_as (c' := rgT3) (by kernel_rfl) ?_
  refine step_r3 l_c l_d l_pa l_ra CS2 CM1 (by simp) (by simp) (by simp) X4.out (fun _ _ d _ _ h => by cases d <;> exact h) ?_
  intro gr Y5 hN hF
  have X5 : Hid (Ev w.heap.size w (.pointer none) [] [(gr, bxL ra), (gq, bxL qa), (gp, bxL pa), (w.heap.size + 1 + 1 + 1 + 1 + 1 + 1 + 1 + 1, bxL (List.replicate 16 0)), (w.heap.size + 1 + 1 + 1 + 1 + 1 + 1 + 1, bxL (List.replicate 16 0)), (w.heap.size + 1 + 1 + 1 + 1 + 1 + 1, bxL (List.replicate 16 0)), (w.heap.size + 1 + 1 + 1 + 1 + 1, bxL (List.replicate 16 0)), (w.heap.size + 1 + 1 + 1 + 1, bxL d), (w.heap.size + 1 + 1 + 1, bxL c), (w.heap.size + 1 + 1, bxL b), (w.heap.size + 1, bxL a), (w.heap.size, bxL x)] Y5) := hN
  have O_gr : Hid (∀ p ∈ ([(gq, bxL qa), (gp, bxL pa), (w.heap.size + 1 + 1 + 1 + 1 + 1 + 1 + 1 + 1, bxL (List.replicate 16 0)), (w.heap.size + 1 + 1 + 1 + 1 + 1 + 1 + 1, bxL (List.replicate 16 0)), (w.heap.size + 1 + 1 + 1 + 1 + 1 + 1, bxL (List.replicate 16 0)), (w.heap.size + 1 + 1 + 1 + 1 + 1, bxL (List.replicate 16 0)), (w.heap.size + 1 + 1 + 1 + 1, bxL d), (w.heap.size + 1 + 1 + 1, bxL c), (w.heap.size + 1 + 1, bxL b), (w.heap.size + 1, bxL a), (w.heap.size, bxL x)] : List (Nat × Obj)), p.1 ≠ gr) := hF
  clear hN hF X4
  go_wp2_with fail
  refine wp_as (c' := rgT4) (by kernel_rfl) ?_
  refine step_r4 l_c l_d l_qa l_sa CA2 CM2 (by simp) (by simp) (by simp) X5.out (fun _ _ d _ _ h => by cases d <;> exact h) ?_
  intro gs Y6 hN hF
  have X6 : Hid (Ev w.heap.size w (.pointer none) [] [(gs, bxL sa), (gr, bxL ra), (gq, bxL qa), (gp, bxL pa), (w.heap.size + 1 + 1 + 1 + 1 + 1 + 1 + 1 + 1, bxL (List.replicate 16 0)), (w.heap.size + 1 + 1 + 1 + 1 + 1 + 1 + 1, bxL (List.replicate 16 0)), (w.heap.size + 1 + 1 + 1 + 1 + 1 + 1, bxL (List.replicate 16 0)), (w.heap.size + 1 + 1 + 1 + 1 + 1, bxL (List.replicate 16 0)), (w.heap.size + 1 + 1 + 1 + 1, bxL d), (w.heap.size + 1 + 1 + 1, bxL c), (w.heap.size + 1 + 1, bxL b), (w.heap.size + 1, bxL a), (w.heap.size, bxL x)] Y6) := hN
  have O_gs : Hid (∀ p ∈ ([(gr, bxL ra), (gq, bxL qa), (gp, bxL pa), (w.heap.size + 1 + 1 + 1 + 1 + 1 + 1 + 1 + 1, bxL (List.replicate 16 0)), (w.heap.size + 1 + 1 + 1 + 1 + 1 + 1 + 1, bxL (List.replicate 16 0)), (w.heap.size + 1 + 1 + 1 + 1 + 1 + 1, bxL (List.replicate 16 0)), (w.heap.size + 1 + 1 + 1 + 1 + 1, bxL (List.replicate 16 0)), (w.heap.size + 1 + 1 + 1 + 1, bxL d), (w.heap.size + 1 + 1 + 1, bxL c), (w.heap.size + 1 + 1, bxL b), (w.heap.size + 1, bxL a), (w.heap.size, bxL x)] : List (Nat × Obj)), p.1 ≠ gs) := hF
  clear hN hF X5
  go_wp2_with (with_reducible refine at_list ?_; first | (refine wpList_load_row rfl 65 (.tmp 14) rfl (gp) rfl 65 (VI .i64 pa) (0, 0) _ (X6.out.row (g := gp) (x := bxL pa) (by simp)) Try.underlying65 rfl (infoNm l_pa.out) ?_))
  refine (CM3.out _).mono ?_
  rintro e Y7 ⟨rfl, hb⟩
  have X7 : Hid (Ev w.heap.size w (.pointer none) [] [(gs, bxL sa), (gr, bxL ra), (gq, bxL qa), (gp, bxL pa), (w.heap.size + 1 + 1 + 1 + 1 + 1 + 1 + 1 + 1, bxL (List.replicate 16 0)), (w.heap.size + 1 + 1 + 1 + 1 + 1 + 1 + 1, bxL (List.replicate 16 0)), (w.heap.size + 1 + 1 + 1 + 1 + 1 + 1, bxL (List.replicate 16 0)), (w.heap.size + 1 + 1 + 1 + 1 + 1, bxL (List.replicate 16 0)), (w.heap.size + 1 + 1 + 1 + 1, bxL d), (w.heap.size + 1 + 1 + 1, bxL c), (w.heap.size + 1 + 1, bxL b), (w.heap.size + 1, bxL a), (w.heap.size, bxL x)] Y7) := X6.out.below hb
  clear hb X6 
  go_wp2_with (with_reducible refine at_list ?_; first | (refine hold_store 65 (.tmp 18) (.tmp 42) rfl ?_))
  refine store_row_new rfl 65 (.tmp 18) (.tmp 42) rfl Y7.heap.size (VI .i64 pp) rfl rfl rfl 65 (VI .i64 (List.replicate 16 0)) (infoNm l_pp.out) (by rw [VI_size, VI_size, l_pp.out]; rfl) (VI_one _ _) ?_
  have hN := X7.out.new (bxL pp)
  have hF : w.heap.size + 1 + 1 + 1 + 1 + 1 + 1 + 1 + 1 < Y7.heap.size := X7.out.lt (g := w.heap.size + 1 + 1 + 1 + 1 + 1 + 1 + 1 + 1) (x := bxL (List.replicate 16 0)) (by simp)
  obtain ⟨Y8, hW⟩ : ∃ W, Y7.alloc (bxL pp) = W := ⟨_, rfl⟩
  rw [hW] at hN
  rw [show Y7.alloc (.cells (VI .i64 pp) 65) = Y8 from hW]
  obtain ⟨gpp, hg⟩ : ∃ g, Y7.heap.size = g := ⟨_, rfl⟩
  rw [hg] at hN hF
  try simp only [hg]
  clear hg hW
  have X8 : Hid (Ev w.heap.size w (.pointer none) [] [(gpp, bxL pp), (gs, bxL sa), (gr, bxL ra), (gq, bxL qa), (gp, bxL pa), (w.heap.size + 1 + 1 + 1 + 1 + 1 + 1 + 1 + 1, bxL (List.replicate 16 0)), (w.heap.size + 1 + 1 + 1 + 1 + 1 + 1 + 1, bxL (List.replicate 16 0)), (w.heap.size + 1 + 1 + 1 + 1 + 1 + 1, bxL (List.replicate 16 0)), (w.heap.size + 1 + 1 + 1 + 1 + 1, bxL (List.replicate 16 0)), (w.heap.size + 1 + 1 + 1 + 1, bxL d), (w.heap.size + 1 + 1 + 1, bxL c), (w.heap.size + 1 + 1, bxL b), (w.heap.size + 1, bxL a), (w.heap.size, bxL x)] Y8) := hN
  have O_gpp : Hid (w.heap.size + 1 + 1 + 1 + 1 + 1 + 1 + 1 + 1 < gpp) := hF
  clear hN hF X7
  go_wp2_with (with_reducible refine at_list ?_; first | (refine wpList_load_row rfl 65 (.tmp 15) rfl (gq) rfl 65 (VI .i64 qa) (0, 0) _ (X8.out.row (g := gq) (x := bxL qa) (by simp)) Try.underlying65 rfl (infoNm l_qa.out) ?_))
  refine (CM4.out _).mono ?_
  rintro e Y9 ⟨rfl, hb⟩
  have X9 : Hid (Ev w.heap.size w (.pointer none) [] [(gpp, bxL pp), (gs, bxL sa), (gr, bxL ra), (gq, bxL qa), (gp, bxL pa), (w.heap.size + 1 + 1 + 1 + 1 + 1 + 1 + 1 + 1, bxL (List.replicate 16 0)), (w.heap.size + 1 + 1 + 1 + 1 + 1 + 1 + 1, bxL (List.replicate 16 0)), (w.heap.size + 1 + 1 + 1 + 1 + 1 + 1, bxL (List.replicate 16 0)), (w.heap.size + 1 + 1 + 1 + 1 + 1, bxL (List.replicate 16 0)), (w.heap.size + 1 + 1 + 1 + 1, bxL d), (w.heap.size + 1 + 1 + 1, bxL c), (w.heap.size + 1 + 1, bxL b), (w.heap.size + 1, bxL a), (w.heap.size, bxL x)] Y9) := X8.out.below hb
  clear hb X8 
  go_wp2_with (with_reducible refine at_list ?_; first | (refine hold_store 65 (.tmp 19) (.tmp 45) rfl ?_))
  refine store_row_new rfl 65 (.tmp 19) (.tmp 45) rfl Y9.heap.size (VI .i64 qq) rfl rfl rfl 65 (VI .i64 (List.replicate 16 0)) (infoNm l_qq.out) (by rw [VI_size, VI_size, l_qq.out]; rfl) (VI_one _ _) ?_
  have hN := X9.out.new (bxL qq)
  have hF : w.heap.size + 1 + 1 + 1 + 1 + 1 + 1 + 1 + 1 < Y9.heap.size := X9.out.lt (g := w.heap.size + 1 + 1 + 1 + 1 + 1 + 1 + 1 + 1) (x := bxL (List.replicate 16 0)) (by simp)
  obtain ⟨Y10, hW⟩ : ∃ W, Y9.alloc (bxL qq) = W := ⟨_, rfl⟩
  rw [hW] at hN
  rw [show Y9.alloc (.cells (VI .i64 qq) 65) = Y10 from hW]
  obtain ⟨gqq, hg⟩ : ∃ g, Y9.heap.size = g := ⟨_, rfl⟩
  rw [hg] at hN hF
  try simp only [hg]
  clear hg hW
  have X10 : Hid (Ev w.heap.size w (.pointer none) [] [(gqq, bxL qq), (gpp, bxL pp), (gs, bxL sa), (gr, bxL ra), (gq, bxL qa), (gp, bxL pa), (w.heap.size + 1 + 1 + 1 + 1 + 1 + 1 + 1 + 1, bxL (List.replicate 16 0)), (w.heap.size + 1 + 1 + 1 + 1 + 1 + 1 + 1, bxL (List.replicate 16 0)), (w.heap.size + 1 + 1 + 1 + 1 + 1 + 1, bxL (List.replicate 16 0)), (w.heap.size + 1 + 1 + 1 + 1 + 1, bxL (List.replicate 16 0)), (w.heap.size + 1 + 1 + 1 + 1, bxL d), (w.heap.size + 1 + 1 + 1, bxL c), (w.heap.size + 1 + 1, bxL b), (w.heap.size + 1, bxL a), (w.heap.size, bxL x)] Y10) := hN
  have O_gqq : Hid (w.heap.size + 1 + 1 + 1 + 1 + 1 + 1 + 1 + 1 < gqq) := hF
  clear hN hF X9
  go_wp2_with (with_reducible refine at_list ?_; first | (refine wpList_load_row rfl 65 (.tmp 18) rfl (gpp) rfl 65 (VI .i64 pp) (0, 0) _ (X10.out.row (g := gpp) (x := bxL pp) (by simp)) Try.underlying65 rfl (infoNm l_pp.out) ?_) | (refine wpList_load_row rfl 65 (.tmp 19) rfl (gqq) rfl 65 (VI .i64 qq) (0, 0) _ (X10.out.row (g := gqq) (x := bxL qq) (by simp)) Try.underlying65 rfl (infoNm l_qq.out) ?_))
  refine (CS3.out _).mono ?_
  rintro e Y11 ⟨rfl, hb⟩
  have X11 : Hid (Ev w.heap.size w (.pointer none) [] [(gqq, bxL qq), (gpp, bxL pp), (gs, bxL sa), (gr, bxL ra), (gq, bxL qa), (gp, bxL pa), (w.heap.size + 1 + 1 + 1 + 1 + 1 + 1 + 1 + 1, bxL (List.replicate 16 0)), (w.heap.size + 1 + 1 + 1 + 1 + 1 + 1 + 1, bxL (List.replicate 16 0)), (w.heap.size + 1 + 1 + 1 + 1 + 1 + 1, bxL (List.replicate 16 0)), (w.heap.size + 1 + 1 + 1 + 1 + 1, bxL (List.replicate 16 0)), (w.heap.size + 1 + 1 + 1 + 1, bxL d), (w.heap.size + 1 + 1 + 1, bxL c), (w.heap.size + 1 + 1, bxL b), (w.heap.size + 1, bxL a), (w.heap.size, bxL x)] Y11) := X10.out.below hb
  clear hb X10 
  go_wp2_with (with_reducible refine at_list ?_; first | (refine hold_store 65 (.tmp 20) (.tmp 48) rfl ?_))
  refine store_row_new rfl 65 (.tmp 20) (.tmp 48) rfl Y11.heap.size (VI .i64 ea) rfl rfl rfl 65 (VI .i64 (List.replicate 16 0)) (infoNm l_ea.out) (by rw [VI_size, VI_size, l_ea.out]; rfl) (VI_one _ _) ?_
  have hN := X11.out.new (bxL ea)
  have hF : w.heap.size + 1 + 1 + 1 + 1 + 1 + 1 + 1 + 1 < Y11.heap.size := X11.out.lt (g := w.heap.size + 1 + 1 + 1 + 1 + 1 + 1 + 1 + 1) (x := bxL (List.replicate 16 0)) (by simp)
  obtain ⟨Y12, hW⟩ : ∃ W, Y11.alloc (bxL ea) = W := ⟨_, rfl⟩
  rw [hW] at hN
  rw [show Y11.alloc (.cells (VI .i64 ea) 65) = Y12 from hW]
  obtain ⟨ge, hg⟩ : ∃ g, Y11.heap.size = g := ⟨_, rfl⟩
  rw [hg] at hN hF
  try simp only [hg]
  clear hg hW
  have X12 : Hid (Ev w.heap.size w (.pointer none) [] [(ge, bxL ea), (gqq, bxL qq), (gpp, bxL pp), (gs, bxL sa), (gr, bxL ra), (gq, bxL qa), (gp, bxL pa), (w.heap.size + 1 + 1 + 1 + 1 + 1 + 1 + 1 + 1, bxL (List.replicate 16 0)), (w.heap.size + 1 + 1 + 1 + 1 + 1 + 1 + 1, bxL (List.replicate 16 0)), (w.heap.size + 1 + 1 + 1 + 1 + 1 + 1, bxL (List.replicate 16 0)), (w.heap.size + 1 + 1 + 1 + 1 + 1, bxL (List.replicate 16 0)), (w.heap.size + 1 + 1 + 1 + 1, bxL d), (w.heap.size + 1 + 1 + 1, bxL c), (w.heap.size + 1 + 1, bxL b), (w.heap.size + 1, bxL a), (w.heap.size, bxL x)] Y12) := hN
  have O_ge : Hid (w.heap.size + 1 + 1 + 1 + 1 + 1 + 1 + 1 + 1 < ge) := hF
  clear hN hF X11
  go_wp2_with (with_reducible refine at_list ?_; first | (refine wpList_load_row rfl 65 (.tmp 16) rfl (gr) rfl 65 (VI .i64 ra) (0, 0) _ (X12.out.row (g := gr) (x := bxL ra) (by simp)) Try.underlying65 rfl (infoNm l_ra.out) ?_) | (refine wpList_load_row rfl 65 (.tmp 17) rfl (gs) rfl 65 (VI .i64 sa) (0, 0) _ (X12.out.row (g := gs) (x := bxL sa) (by simp)) Try.underlying65 rfl (infoNm l_sa.out) ?_))
  refine (CA3.out _).mono ?_
  rintro e Y13 ⟨rfl, hb⟩
  have X13 : Hid (Ev w.heap.size w (.pointer none) [] [(ge, bxL ea), (gqq, bxL qq), (gpp, bxL pp), (gs, bxL sa), (gr, bxL ra), (gq, bxL qa), (gp, bxL pa), (w.heap.size + 1 + 1 + 1 + 1 + 1 + 1 + 1 + 1, bxL (List.replicate 16 0)), (w.heap.size + 1 + 1 + 1 + 1 + 1 + 1 + 1, bxL (List.replicate 16 0)), (w.heap.size + 1 + 1 + 1 + 1 + 1 + 1, bxL (List.replicate 16 0)), (w.heap.size + 1 + 1 + 1 + 1 + 1, bxL (List.replicate 16 0)), (w.heap.size + 1 + 1 + 1 + 1, bxL d), (w.heap.size + 1 + 1 + 1, bxL c), (w.heap.size + 1 + 1, bxL b), (w.heap.size + 1, bxL a), (w.heap.size, bxL x)] Y13) := X12.out.below hb
  clear hb X12 
  go_wp2_with (with_reducible refine at_list ?_; first | (refine hold_store 65 (.tmp 21) (.tmp 51) rfl ?_))
  refine store_row_new rfl 65 (.tmp 21) (.tmp 51) rfl Y13.heap.size (VI .i64 su) rfl rfl rfl 65 (VI .i64 (List.replicate 16 0)) (infoNm l_su.out) (by rw [VI_size, VI_size, l_su.out]; rfl) (VI_one _ _) ?_
  have hN := X13.out.new (bxL su)
  have hF : w.heap.size + 1 + 1 + 1 + 1 + 1 + 1 + 1 + 1 < Y13.heap.size := X13.out.lt (g := w.heap.size + 1 + 1 + 1 + 1 + 1 + 1 + 1 + 1) (x := bxL (List.replicate 16 0)) (by simp)
  obtain ⟨Y14, hW⟩ : ∃ W, Y13.alloc (bxL su) = W := ⟨_, rfl⟩
  rw [hW] at hN
  rw [show Y13.alloc (.cells (VI .i64 su) 65) = Y14 from hW]
  obtain ⟨gsu, hg⟩ : ∃ g, Y13.heap.size = g := ⟨_, rfl⟩
  rw [hg] at hN hF
  try simp only [hg]
  clear hg hW
  have X14 : Hid (Ev w.heap.size w (.pointer none) [] [(gsu, bxL su), (ge, bxL ea), (gqq, bxL qq), (gpp, bxL pp), (gs, bxL sa), (gr, bxL ra), (gq, bxL qa), (gp, bxL pa), (w.heap.size + 1 + 1 + 1 + 1 + 1 + 1 + 1 + 1, bxL (List.replicate 16 0)), (w.heap.size + 1 + 1 + 1 + 1 + 1 + 1 + 1, bxL (List.replicate 16 0)), (w.heap.size + 1 + 1 + 1 + 1 + 1 + 1, bxL (List.replicate 16 0)), (w.heap.size + 1 + 1 + 1 + 1 + 1, bxL (List.replicate 16 0)), (w.heap.size + 1 + 1 + 1 + 1, bxL d), (w.heap.size + 1 + 1 + 1, bxL c), (w.heap.size + 1 + 1, bxL b), (w.heap.size + 1, bxL a), (w.heap.size, bxL x)] Y14) := hN
  have O_gsu : Hid (w.heap.size + 1 + 1 + 1 + 1 + 1 + 1 + 1 + 1 < gsu) := hF
  clear hN hF X13
  go_wp2_with (with_reducible refine at_list ?_; first | (refine wpList_load_row rfl 65 (.tmp 16) rfl (gr) rfl 65 (VI .i64 ra) (0, 0) _ (X14.out.row (g := gr) (x := bxL ra) (by simp)) Try.underlying65 rfl (infoNm l_ra.out) ?_) | (refine wpList_load_row rfl 65 (.tmp 17) rfl (gs) rfl 65 (VI .i64 sa) (0, 0) _ (X14.out.row (g := gs) (x := bxL sa) (by simp)) Try.underlying65 rfl (infoNm l_sa.out) ?_))
  refine (CS4.out _).mono ?_
  rintro e Y15 ⟨rfl, hb⟩
  have X15 : Hid (Ev w.heap.size w (.pointer none) [] [(gsu, bxL su), (ge, bxL ea), (gqq, bxL qq), (gpp, bxL pp), (gs, bxL sa), (gr, bxL ra), (gq, bxL qa), (gp, bxL pa), (w.heap.size + 1 + 1 + 1 + 1 + 1 + 1 + 1 + 1, bxL (List.replicate 16 0)), (w.heap.size + 1 + 1 + 1 + 1 + 1 + 1 + 1, bxL (List.replicate 16 0)), (w.heap.size + 1 + 1 + 1 + 1 + 1 + 1, bxL (List.replicate 16 0)), (w.heap.size + 1 + 1 + 1 + 1 + 1, bxL (List.replicate 16 0)), (w.heap.size + 1 + 1 + 1 + 1, bxL d), (w.heap.size + 1 + 1 + 1, bxL c), (w.heap.size + 1 + 1, bxL b), (w.heap.size + 1, bxL a), (w.heap.size, bxL x)] Y15) := X14.out.below hb
  clear hb X14 
  go_wp2_with (with_reducible refine at_list ?_; first | (refine hold_store 65 (.tmp 22) (.tmp 54) rfl ?_))
  refine store_row_new rfl 65 (.tmp 22) (.tmp 54) rfl Y15.heap.size (VI .i64 di) rfl rfl rfl 65 (VI .i64 (List.replicate 16 0)) (infoNm l_di.out) (by rw [VI_size, VI_size, l_di.out]; rfl) (VI_one _ _) ?_
  have hN := X15.out.new (bxL di)
  have hF : w.heap.size + 1 + 1 + 1 + 1 + 1 + 1 + 1 + 1 < Y15.heap.size := X15.out.lt (g := w.heap.size + 1 + 1 + 1 + 1 + 1 + 1 + 1 + 1) (x := bxL (List.replicate 16 0)) (by simp)
  obtain ⟨Y16, hW⟩ : ∃ W, Y15.alloc (bxL di) = W := ⟨_, rfl⟩
  rw [hW] at hN
  rw [show Y15.alloc (.cells (VI .i64 di) 65) = Y16 from hW]
  obtain ⟨gdi, hg⟩ : ∃ g, Y15.heap.size = g := ⟨_, rfl⟩
  rw [hg] at hN hF
  try simp only [hg]
  clear hg hW
  have X16 : Hid (Ev w.heap.size w (.pointer none) [] [(gdi, bxL di), (gsu, bxL su), (ge, bxL ea), (gqq, bxL qq), (gpp, bxL pp), (gs, bxL sa), (gr, bxL ra), (gq, bxL qa), (gp, bxL pa), (w.heap.size + 1 + 1 + 1 + 1 + 1 + 1 + 1 + 1, bxL (List.replicate 16 0)), (w.heap.size + 1 + 1 + 1 + 1 + 1 + 1 + 1, bxL (List.replicate 16 0)), (w.heap.size + 1 + 1 + 1 + 1 + 1 + 1, bxL (List.replicate 16 0)), (w.heap.size + 1 + 1 + 1 + 1 + 1, bxL (List.replicate 16 0)), (w.heap.size + 1 + 1 + 1 + 1, bxL d), (w.heap.size + 1 + 1 + 1, bxL c), (w.heap.size + 1 + 1, bxL b), (w.heap.size + 1, bxL a), (w.heap.size, bxL x)] Y16) := hN
  have O_gdi : Hid (w.heap.size + 1 + 1 + 1 + 1 + 1 + 1 + 1 + 1 < gdi) := hF
  clear hN hF X15
  go_wp2_with (with_reducible refine at_list ?_; first | (refine wpList_load_row rfl 65 (.tmp 20) rfl (ge) rfl 65 (VI .i64 ea) (0, 0) _ (X16.out.row (g := ge) (x := bxL ea) (by simp)) Try.underlying65 rfl (infoNm l_ea.out) ?_))
  refine (CC.out _).mono ?_
  rintro e Y17 ⟨rfl, hb⟩
  have X17 : Hid (Ev w.heap.size w (.pointer none) [] [(gdi, bxL di), (gsu, bxL su), (ge, bxL ea), (gqq, bxL qq), (gpp, bxL pp), (gs, bxL sa), (gr, bxL ra), (gq, bxL qa), (gp, bxL pa), (w.heap.size + 1 + 1 + 1 + 1 + 1 + 1 + 1 + 1, bxL (List.replicate 16 0)), (w.heap.size + 1 + 1 + 1 + 1 + 1 + 1 + 1, bxL (List.replicate 16 0)), (w.heap.size + 1 + 1 + 1 + 1 + 1 + 1, bxL (List.replicate 16 0)), (w.heap.size + 1 + 1 + 1 + 1 + 1, bxL (List.replicate 16 0)), (w.heap.size + 1 + 1 + 1 + 1, bxL d), (w.heap.size + 1 + 1 + 1, bxL c), (w.heap.size + 1 + 1, bxL b), (w.heap.size + 1, bxL a), (w.heap.size, bxL x)] Y17) := X16.out.below hb
  clear hb X16 
  go_wp2_with (with_reducible refine at_list ?_; first | (refine hold_store 65 (.tmp 23) (.tmp 56) rfl ?_))
  refine store_row_new rfl 65 (.tmp 23) (.tmp 56) rfl Y17.heap.size (VI .i64 mo) rfl rfl rfl 65 (VI .i64 (List.replicate 16 0)) (infoNm l_mo.out) (by rw [VI_size, VI_size, l_mo.out]; rfl) (VI_one _ _) ?_
  have hN := X17.out.new (bxL mo)
  have hF : w.heap.size + 1 + 1 + 1 + 1 + 1 + 1 + 1 + 1 < Y17.heap.size := X17.out.lt (g := w.heap.size + 1 + 1 + 1 + 1 + 1 + 1 + 1 + 1) (x := bxL (List.replicate 16 0)) (by simp)
  obtain ⟨Y18, hW⟩ : ∃ W, Y17.alloc (bxL mo) = W := ⟨_, rfl⟩
  rw [hW] at hN
  rw [show Y17.alloc (.cells (VI .i64 mo) 65) = Y18 from hW]
  obtain ⟨gm, hg⟩ : ∃ g, Y17.heap.size = g := ⟨_, rfl⟩
  rw [hg] at hN hF
  try simp only [hg]
  clear hg hW
  have X18 : Hid (Ev w.heap.size w (.pointer none) [] [(gm, bxL mo), (gdi, bxL di), (gsu, bxL su), (ge, bxL ea), (gqq, bxL qq), (gpp, bxL pp), (gs, bxL sa), (gr, bxL ra), (gq, bxL qa), (gp, bxL pa), (w.heap.size + 1 + 1 + 1 + 1 + 1 + 1 + 1 + 1, bxL (List.replicate 16 0)), (w.heap.size + 1 + 1 + 1 + 1 + 1 + 1 + 1, bxL (List.replicate 16 0)), (w.heap.size + 1 + 1 + 1 + 1 + 1 + 1, bxL (List.replicate 16 0)), (w.heap.size + 1 + 1 + 1 + 1 + 1, bxL (List.replicate 16 0)), (w.heap.size + 1 + 1 + 1 + 1, bxL d), (w.heap.size + 1 + 1 + 1, bxL c), (w.heap.size + 1 + 1, bxL b), (w.heap.size + 1, bxL a), (w.heap.size, bxL x)] Y18) := hN
  have O_gm : Hid (w.heap.size + 1 + 1 + 1 + 1 + 1 + 1 + 1 + 1 < gm) := hF
  clear hN hF X17
  go_wp2_with fail
  have hP : Ev w.heap.size w (.pointer none) [] ((w.heap.size + 1 + 1 + 1 + 1 + 1, bxL (List.replicate 16 0)) :: (w.heap.size + 1 + 1 + 1 + 1 + 1 + 1, bxL (List.replicate 16 0)) :: (w.heap.size + 1 + 1 + 1 + 1 + 1 + 1 + 1, bxL (List.replicate 16 0)) :: (w.heap.size + 1 + 1 + 1 + 1 + 1 + 1 + 1 + 1, bxL (List.replicate 16 0)) :: [(gm, bxL mo), (gdi, bxL di), (gsu, bxL su), (ge, bxL ea), (gqq, bxL qq), (gpp, bxL pp), (gs, bxL sa), (gr, bxL ra), (gq, bxL qa), (gp, bxL pa), (w.heap.size + 1 + 1 + 1 + 1, bxL d), (w.heap.size + 1 + 1 + 1, bxL c), (w.heap.size + 1 + 1, bxL b), (w.heap.size + 1, bxL a), (w.heap.size, bxL x)]) Y18 := X18.out.sub (fun p hp => by simp only [List.mem_cons, List.not_mem_nil, or_false] at hp ⊢; grind)
  have oR := O_gr.out
  have oS := O_gs.out
  simp only [List.mem_cons, List.not_mem_nil, or_false, forall_eq_or_imp, forall_eq] at oR oS
  have o_gm := O_gm.out
  have o_gdi := O_gdi.out
  have o_gsu := O_gsu.out
  have o_ge := O_ge.out
  have o_gqq := O_gqq.out
  have o_gpp := O_gpp.out
  have o_gq := O_gq.out
  have o_gp := O_gp.out
  have hNE : w.heap.size + 1 + 1 + 1 + 1 + 1 ≠ w.heap.size + 1 + 1 + 1 + 1 + 1 + 1 ∧ w.heap.size + 1 + 1 + 1 + 1 + 1 ≠ w.heap.size + 1 + 1 + 1 + 1 + 1 + 1 + 1 ∧ w.heap.size + 1 + 1 + 1 + 1 + 1 ≠ w.heap.size + 1 + 1 + 1 + 1 + 1 + 1 + 1 + 1 ∧ w.heap.size + 1 + 1 + 1 + 1 + 1 + 1 ≠ w.heap.size + 1 + 1 + 1 + 1 + 1 + 1 + 1 ∧ w.heap.size + 1 + 1 + 1 + 1 + 1 + 1 ≠ w.heap.size + 1 + 1 + 1 + 1 + 1 + 1 + 1 + 1 ∧ w.heap.size + 1 + 1 + 1 + 1 + 1 + 1 + 1 ≠ w.heap.size + 1 + 1 + 1 + 1 + 1 + 1 + 1 + 1 ∧ (∀ p ∈ ([(gm, bxL mo), (gdi, bxL di), (gsu, bxL su), (ge, bxL ea), (gqq, bxL qq), (gpp, bxL pp), (gs, bxL sa), (gr, bxL ra), (gq, bxL qa), (gp, bxL pa), (w.heap.size + 1 + 1 + 1 + 1, bxL d), (w.heap.size + 1 + 1 + 1, bxL c), (w.heap.size + 1 + 1, bxL b), (w.heap.size + 1, bxL a), (w.heap.size, bxL x)] : List (Nat × Obj)), p.1 ≠ w.heap.size + 1 + 1 + 1 + 1 + 1) ∧ (∀ p ∈ ([(gm, bxL mo), (gdi, bxL di), (gsu, bxL su), (ge, bxL ea), (gqq, bxL qq), (gpp, bxL pp), (gs, bxL sa), (gr, bxL ra), (gq, bxL qa), (gp, bxL pa), (w.heap.size + 1 + 1 + 1 + 1, bxL d), (w.heap.size + 1 + 1 + 1, bxL c), (w.heap.size + 1 + 1, bxL b), (w.heap.size + 1, bxL a), (w.heap.size, bxL x)] : List (Nat × Obj)), p.1 ≠ w.heap.size + 1 + 1 + 1 + 1 + 1 + 1) ∧ (∀ p ∈ ([(gm, bxL mo), (gdi, bxL di), (gsu, bxL su), (ge, bxL ea), (gqq, bxL qq), (gpp, bxL pp), (gs, bxL sa), (gr, bxL ra), (gq, bxL qa), (gp, bxL pa), (w.heap.size + 1 + 1 + 1 + 1, bxL d), (w.heap.size + 1 + 1 + 1, bxL c), (w.heap.size + 1 + 1, bxL b), (w.heap.size + 1, bxL a), (w.heap.size, bxL x)] : List (Nat × Obj)), p.1 ≠ w.heap.size + 1 + 1 + 1 + 1 + 1 + 1 + 1) ∧ (∀ p ∈ ([(gm, bxL mo), (gdi, bxL di), (gsu, bxL su), (ge, bxL ea), (gqq, bxL qq), (gpp, bxL pp), (gs, bxL sa), (gr, bxL ra), (gq, bxL qa), (gp, bxL pa), (w.heap.size + 1 + 1 + 1 + 1, bxL d), (w.heap.size + 1 + 1 + 1, bxL c), (w.heap.size + 1 + 1, bxL b), (w.heap.size + 1, bxL a), (w.heap.size, bxL x)] : List (Nat × Obj)), p.1 ≠ w.heap.size + 1 + 1 + 1 + 1 + 1 + 1 + 1 + 1) := by
    simp only [List.mem_cons, List.not_mem_nil, or_false, forall_eq_or_imp, forall_eq]
    omega
  have NE : Hid _ := hNE
  clear hNE oR oS o_gm o_gdi o_gsu o_ge o_gqq o_gpp o_gq o_gp X18
  refine wp_as (c' := rgT11) (by kernel_rfl) ?_
  refine step_r11 l_di l_ea l_mo l_oa l_ob l_oc l_od l_pp l_qq l_su l_x CM5 CA4 CM6 CM7 CM8 CM9 (by simp) (by simp) (by simp) (by simp) (by simp) (by simp) (by simp) NE hP (fun _ _ d _ _ h => by cases d <;> exact h) ?_
  intro Z1 hN
  have XN : Hid _ := hN
  clear hN hP NE
  go_wp2_with fail
  refine bodyPost_ret (v := .tuple #[.agg (VI .i64 oa), .agg (VI .i64 ob), .agg (VI .i64 oc), .agg (VI .i64 od)]) ?_ rfl ⟨rfl, XN.out.old⟩
  exact results_four (P := Try.prog) (fn := Try.f33) (p0 := 10) (p1 := 11) (p2 := 12) (p3 := 13) (ty := 65) rfl _ _ (w.heap.size + 1 + 1 + 1 + 1 + 1) (w.heap.size + 1 + 1 + 1 + 1 + 1 + 1) (w.heap.size + 1 + 1 + 1 + 1 + 1 + 1 + 1) (w.heap.size + 1 + 1 + 1 + 1 + 1 + 1 + 1 + 1) 65 _ _ _ _ _ rfl rfl rfl rfl (XN.out.row (g := w.heap.size + 1 + 1 + 1 + 1 + 1) (x := bxL oa) (by simp)) (XN.out.row (g := w.heap.size + 1 + 1 + 1 + 1 + 1 + 1) (x := bxL ob) (by simp)) (XN.out.row (g := w.heap.size + 1 + 1 + 1 + 1 + 1 + 1 + 1) (x := bxL oc) (by simp)) (XN.out.row (g := w.heap.size + 1 + 1 + 1 + 1 + 1 + 1 + 1 + 1) (x := bxL od) (by simp)) Try.underlying65 rfl (infoNm l_oa.out) (infoNm l_ob.out) (infoNm l_oc.out) (infoNm l_od.out)
end Go.Proofs.Ytlffamcifahbjaa
