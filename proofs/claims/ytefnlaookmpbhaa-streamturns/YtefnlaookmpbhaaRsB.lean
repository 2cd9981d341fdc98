import Derived.Test.YtefnlaookmpbhaaRsA
namespace Go.Proofs.Ytefnlaookmpbhaa
set_option linter.unusedSimpArgs false
set_option linter.unusedVariables false
open Go.ChangeShapes Go.WideShapes Go.ChangeAt Go.RowKit Go.Pin Go.Str
theorem i64_xor_nat (a b : Nat) (ha : a < 4294967296) (hb : b < 4294967296) : bits .xor .i64 (a : Int) (b : Int) = ((a ^^^ b : Nat) : Int) := by
  have hx : a ^^^ b < 4294967296 := xor_lt ha hb
  show IntKind.i64.wrap ((BitVec.ofInt 64 (a : Int) ^^^ BitVec.ofInt 64 (b : Int)).toNat : Int) = _
  rw [BitVec.toNat_xor, ofInt_u64 a (by omega), ofInt_u64 b (by omega), IntKind.wrap_i64]
  omega
theorem rem32 (a b : Nat) (ha : a < 4294967296) (hb : b < 4294967296) : ((a : Int) + (b : Int)) % 4294967296 = ((ad a b : Nat) : Int) := by unfold ad; omega
set_option maxRecDepth 100000 in
set_option maxHeartbeats 4000000 in
theorem rquarter (i j k m : Nat) (L : List Nat) (w : World) (hl : L.length = 16) (hL : W32 L) (hi : i < 16) (hj : j < 16) (hk : k < 16) (hm : m < 16)
    (hij : i ≠ j) (hik : i ≠ k) (him : i ≠ m) (hjk : j ≠ k) (hjm : j ≠ m) (hkm : k ≠ m) :
    Calls Try.prog 25 #[.agg (VN .i64 L), .int .i64 (i : Int), .int .i64 (j : Int), .int .i64 (k : Int), .int .i64 (m : Int)] w fun e w' => e = .returned (.agg (VN .i64 (qat L i j k m))) ∧ Below w.heap.size w w' := by
  obtain ⟨g, hg⟩ : ∃ g, w.heap.size = g := ⟨_, rfl⟩
  obtain ⟨W0, hW0⟩ : ∃ W, (w.alloc (.cells (VN .i64 L) 61)).alloc (.cells (VN .i64 (List.replicate 16 0)) 61) = W := ⟨_, rfl⟩
  have hW0' : (w.alloc (.cells (VN .i64 L) 61)).alloc (.cells #[.int .i64 0, .int .i64 0, .int .i64 0, .int .i64 0, .int .i64 0, .int .i64 0, .int .i64 0, .int .i64 0, .int .i64 0, .int .i64 0, .int .i64 0, .int .i64 0, .int .i64 0, .int .i64 0, .int .i64 0, .int .i64 0] 61) = W0 := hW0
  have h0 : RI W0 g L 61 ∧ RI W0 (g + 1) (List.replicate 16 0) 61 ∧ Below g w W0 := by
    rw [← hW0, ← hg]
    refine ⟨?_, ?_, ((Below.refl _ _).alloc (Nat.le_refl _) _).alloc (by simp) _⟩
    all_goals simp only [RI, heap_alloc_any, size_alloc]
    · rw [if_neg (by omega), if_pos trivial]
    · rw [if_pos trivial]
  have xa := hL.at i
  have xb := hL.at j
  have xc := hL.at k
  have xd := hL.at m
  have lq := qat_len L i j k m
  rw [hl] at lq
  have Q0 : P4 g i j k m W0 _ _ _ _ := ⟨h0.1.cell (by omega), h0.1.cell (by omega), h0.1.cell (by omega), h0.1.cell (by omega), fun o => h0.1.froz o⟩
  obtain ⟨LQ, hLQ⟩ : ∃ x, qat L i j k m = x := ⟨_, rfl⟩
  have HLQ : Hid (qat L i j k m = LQ) := hLQ
  have hLQ2 : LQ = (((L.set i (qr (L.getD i 0) (L.getD j 0) (L.getD k 0) (L.getD m 0)).1).set j (qr (L.getD i 0) (L.getD j 0) (L.getD k 0) (L.getD m 0)).2.1).set k (qr (L.getD i 0) (L.getD j 0) (L.getD k 0) (L.getD m 0)).2.2.1).set m (qr (L.getD i 0) (L.getD j 0) (L.getD k 0) (L.getD m 0)).2.2.2 := hLQ.symm
  rw [hLQ] at lq
  clear hLQ
  generalize L.getD i 0 = a at *
  generalize L.getD j 0 = b at *
  generalize L.getD k 0 = c at *
  generalize L.getD m 0 = d at *
  unfold qr at hLQ2
  dsimp only at hLQ2
  have ra1 := ad_lt a b
  have p1 := rem32 a b xa xb
  generalize ad a b = a1 at *
  have q1 := i64_xor_nat d a1 xd ra1
  have rd1 := rot_lt _ 16 (by decide) (xor_lt xd ra1)
  have t1 := rturn _ 16 (xor_lt xd ra1) (by decide)
  generalize d ^^^ a1 = y1 at *
  generalize rot y1 16 = d1 at *
  have rc1 := ad_lt c d1
  have p2 := rem32 c d1 xc rd1
  generalize ad c d1 = c1 at *
  have q2 := i64_xor_nat b c1 xb rc1
  have rb1 := rot_lt _ 12 (by decide) (xor_lt xb rc1)
  have t2 := rturn _ 12 (xor_lt xb rc1) (by decide)
  generalize b ^^^ c1 = y2 at *
  generalize rot y2 12 = b1 at *
  have ra2 := ad_lt a1 b1
  have p3 := rem32 a1 b1 ra1 rb1
  generalize ad a1 b1 = a2 at *
  have q3 := i64_xor_nat d1 a2 rd1 ra2
  have rd2 := rot_lt _ 8 (by decide) (xor_lt rd1 ra2)
  have t3 := rturn _ 8 (xor_lt rd1 ra2) (by decide)
  generalize d1 ^^^ a2 = y3 at *
  generalize rot y3 8 = d2 at *
  have rc2 := ad_lt c1 d2
  have p4 := rem32 c1 d2 rc1 rd2
  generalize ad c1 d2 = c2 at *
  have q4 := i64_xor_nat b1 c2 rb1 rc2
  have t4 := rturn _ 7 (xor_lt rb1 rc2) (by decide)
  generalize b1 ^^^ c2 = y4 at *
  generalize rot y4 7 = b2 at *
  rw [← sets8 L i j k m a1 d1 c1 b1 a2 d2 c2 b2 hij hik him hjk hjm hkm] at hLQ2
  have T1 : Hid _ := t1
  have T2 : Hid _ := t2
  have T3 : Hid _ := t3
  have T4 : Hid _ := t4
  have HG : Hid (w.heap.size = g) := hg
  have HB0 : Hid (Below g w W0 ∧ RI W0 g L 61 ∧ RI W0 (g + 1) (List.replicate 16 0) 61) := ⟨h0.2.2, h0.1, h0.2.1⟩
  clear t1 t2 t3 t4 h0 hL
  have A0 := Q0.A
  have B0 := Q0.B
  have F0 := Q0.F
  have Q1 := Q0.sA hij hik him a1
  have HB1 : Hid (Below g w (W0.setCell ⟨g, i, none⟩ (.int .i64 (a1 : Int))) ∧ RI (W0.setCell ⟨g, i, none⟩ (.int .i64 (a1 : Int))) g ((L).set i a1) 61 ∧ RI (W0.setCell ⟨g, i, none⟩ (.int .i64 (a1 : Int))) (g + 1) (List.replicate 16 0) 61) := ⟨HB0.out.1.setCell (Nat.le_refl _) _, HB0.out.2.1.set _ _, HB0.out.2.2.other (by omega) _ _⟩
  obtain ⟨W1, e1⟩ : ∃ W, W0.setCell ⟨g, i, none⟩ (.int .i64 (a1 : Int)) = W := ⟨_, rfl⟩
  rw [e1] at Q1 HB1
  have D1 := Q1.D
  have A1 := Q1.A
  have F1 := Q1.F
  have Q2 := Q1.sD him hjm hkm d1
  have HB2 : Hid (Below g w (W1.setCell ⟨g, m, none⟩ (.int .i64 (d1 : Int))) ∧ RI (W1.setCell ⟨g, m, none⟩ (.int .i64 (d1 : Int))) g (((L).set i a1).set m d1) 61 ∧ RI (W1.setCell ⟨g, m, none⟩ (.int .i64 (d1 : Int))) (g + 1) (List.replicate 16 0) 61) := ⟨HB1.out.1.setCell (Nat.le_refl _) _, HB1.out.2.1.set _ _, HB1.out.2.2.other (by omega) _ _⟩
  obtain ⟨W2, e2⟩ : ∃ W, W1.setCell ⟨g, m, none⟩ (.int .i64 (d1 : Int)) = W := ⟨_, rfl⟩
  rw [e2] at Q2 HB2
  have C2 := Q2.C
  have D2 := Q2.D
  have F2 := Q2.F
  have Q3 := Q2.sC hik hjk hkm c1
  have HB3 : Hid (Below g w (W2.setCell ⟨g, k, none⟩ (.int .i64 (c1 : Int))) ∧ RI (W2.setCell ⟨g, k, none⟩ (.int .i64 (c1 : Int))) g ((((L).set i a1).set m d1).set k c1) 61 ∧ RI (W2.setCell ⟨g, k, none⟩ (.int .i64 (c1 : Int))) (g + 1) (List.replicate 16 0) 61) := ⟨HB2.out.1.setCell (Nat.le_refl _) _, HB2.out.2.1.set _ _, HB2.out.2.2.other (by omega) _ _⟩
  obtain ⟨W3, e3⟩ : ∃ W, W2.setCell ⟨g, k, none⟩ (.int .i64 (c1 : Int)) = W := ⟨_, rfl⟩
  rw [e3] at Q3 HB3
  have B3 := Q3.B
  have C3 := Q3.C
  have F3 := Q3.F
  have Q4 := Q3.sB hij hjk hjm b1
  have HB4 : Hid (Below g w (W3.setCell ⟨g, j, none⟩ (.int .i64 (b1 : Int))) ∧ RI (W3.setCell ⟨g, j, none⟩ (.int .i64 (b1 : Int))) g (((((L).set i a1).set m d1).set k c1).set j b1) 61 ∧ RI (W3.setCell ⟨g, j, none⟩ (.int .i64 (b1 : Int))) (g + 1) (List.replicate 16 0) 61) := ⟨HB3.out.1.setCell (Nat.le_refl _) _, HB3.out.2.1.set _ _, HB3.out.2.2.other (by omega) _ _⟩
  obtain ⟨W4, e4⟩ : ∃ W, W3.setCell ⟨g, j, none⟩ (.int .i64 (b1 : Int)) = W := ⟨_, rfl⟩
  rw [e4] at Q4 HB4
  have A4 := Q4.A
  have B4 := Q4.B
  have F4 := Q4.F
  have Q5 := Q4.sA hij hik him a2
  have HB5 : Hid (Below g w (W4.setCell ⟨g, i, none⟩ (.int .i64 (a2 : Int))) ∧ RI (W4.setCell ⟨g, i, none⟩ (.int .i64 (a2 : Int))) g ((((((L).set i a1).set m d1).set k c1).set j b1).set i a2) 61 ∧ RI (W4.setCell ⟨g, i, none⟩ (.int .i64 (a2 : Int))) (g + 1) (List.replicate 16 0) 61) := ⟨HB4.out.1.setCell (Nat.le_refl _) _, HB4.out.2.1.set _ _, HB4.out.2.2.other (by omega) _ _⟩
  obtain ⟨W5, e5⟩ : ∃ W, W4.setCell ⟨g, i, none⟩ (.int .i64 (a2 : Int)) = W := ⟨_, rfl⟩
  rw [e5] at Q5 HB5
  have D5 := Q5.D
  have A5 := Q5.A
  have F5 := Q5.F
  have Q6 := Q5.sD him hjm hkm d2
  have HB6 : Hid (Below g w (W5.setCell ⟨g, m, none⟩ (.int .i64 (d2 : Int))) ∧ RI (W5.setCell ⟨g, m, none⟩ (.int .i64 (d2 : Int))) g (((((((L).set i a1).set m d1).set k c1).set j b1).set i a2).set m d2) 61 ∧ RI (W5.setCell ⟨g, m, none⟩ (.int .i64 (d2 : Int))) (g + 1) (List.replicate 16 0) 61) := ⟨HB5.out.1.setCell (Nat.le_refl _) _, HB5.out.2.1.set _ _, HB5.out.2.2.other (by omega) _ _⟩
  obtain ⟨W6, e6⟩ : ∃ W, W5.setCell ⟨g, m, none⟩ (.int .i64 (d2 : Int)) = W := ⟨_, rfl⟩
  rw [e6] at Q6 HB6
  have C6 := Q6.C
  have D6 := Q6.D
  have F6 := Q6.F
  have Q7 := Q6.sC hik hjk hkm c2
  have HB7 : Hid (Below g w (W6.setCell ⟨g, k, none⟩ (.int .i64 (c2 : Int))) ∧ RI (W6.setCell ⟨g, k, none⟩ (.int .i64 (c2 : Int))) g ((((((((L).set i a1).set m d1).set k c1).set j b1).set i a2).set m d2).set k c2) 61 ∧ RI (W6.setCell ⟨g, k, none⟩ (.int .i64 (c2 : Int))) (g + 1) (List.replicate 16 0) 61) := ⟨HB6.out.1.setCell (Nat.le_refl _) _, HB6.out.2.1.set _ _, HB6.out.2.2.other (by omega) _ _⟩
  obtain ⟨W7, e7⟩ : ∃ W, W6.setCell ⟨g, k, none⟩ (.int .i64 (c2 : Int)) = W := ⟨_, rfl⟩
  rw [e7] at Q7 HB7
  have B7 := Q7.B
  have C7 := Q7.C
  have F7 := Q7.F
  have Q8 := Q7.sB hij hjk hjm b2
  have HB8 : Hid (Below g w (W7.setCell ⟨g, j, none⟩ (.int .i64 (b2 : Int))) ∧ RI (W7.setCell ⟨g, j, none⟩ (.int .i64 (b2 : Int))) g (((((((((L).set i a1).set m d1).set k c1).set j b1).set i a2).set m d2).set k c2).set j b2) 61 ∧ RI (W7.setCell ⟨g, j, none⟩ (.int .i64 (b2 : Int))) (g + 1) (List.replicate 16 0) 61) := ⟨HB7.out.1.setCell (Nat.le_refl _) _, HB7.out.2.1.set _ _, HB7.out.2.2.other (by omega) _ _⟩
  obtain ⟨W8, e8⟩ : ∃ W, W7.setCell ⟨g, j, none⟩ (.int .i64 (b2 : Int)) = W := ⟨_, rfl⟩
  rw [e8] at Q8 HB8
  rw [← hLQ2] at HB8
  clear hLQ2 Q0 Q1 Q2 Q3 Q4 Q5 Q6 Q7 Q8 HB0 HB1 HB2 HB3 HB4 HB5 HB6 HB7
  have bi : (i : Int) < 16 := by omega
  have bj : (j : Int) < 16 := by omega
  have bk : (k : Int) < 16 := by omega
  have bm : (m : Int) < 16 := by omega
  clear hij hik him hjk hjm hkm hW0
  have HLN : Hid (LQ.length = 16) := lq
  clear lq
  go_enter Try.func25, Try.ntmps25
  go_wp2
  go_region
  go_wp2
  go_cut [] (fun wx => W2.drew.drew = wx)
  case first =>
    go_region_with (go_at_call 38; refine (T1.out _).mono ?_; rintro e w' ⟨rfl, rfl⟩)
    all_goals (go_wp2_with fail; go_meet; rfl)
  subst hcut
  go_wp2
  go_region
  go_wp2
  go_cut [] (fun wx => W4.drew.drew.drew.drew = wx)
  case first =>
    go_region_with (go_at_call 38; refine (T2.out _).mono ?_; rintro e w' ⟨rfl, rfl⟩)
    all_goals (go_wp2_with fail; go_meet; rfl)
  subst hcut
  go_wp2
  go_region
  go_wp2
  go_cut [] (fun wx => W6.drew.drew.drew.drew.drew.drew = wx)
  case first =>
    go_region_with (go_at_call 38; refine (T3.out _).mono ?_; rintro e w' ⟨rfl, rfl⟩)
    all_goals (go_wp2_with fail; go_meet; rfl)
  subst hcut
  go_wp2
  go_region
  go_wp2
  go_cut [] (fun wx => W8.drew.drew.drew.drew.drew.drew.drew.drew = wx)
  case first =>
    go_region_with (go_at_call 38; refine (T4.out _).mono ?_; rintro e w' ⟨rfl, rfl⟩)
    all_goals (go_wp2_with fail; go_meet; rfl)
  subst hcut
  have HR8 : Hid (RI W8.drew.drew.drew.drew.drew.drew.drew.drew g LQ 61 ∧ RI W8.drew.drew.drew.drew.drew.drew.drew.drew (g + 1) (List.replicate 16 0) 61 ∧ Below g w W8.drew.drew.drew.drew.drew.drew.drew.drew) := ⟨HB8.out.2.1, HB8.out.2.2, HB8.out.1.drew.drew.drew.drew.drew.drew.drew.drew⟩
  go_wp2_with (with_reducible refine at_list ?_; first | (refine wpList_load_row rfl 61 (.tmp 5) rfl g rfl 61 (VN .i64 LQ) (0, 0) _ HR8.out.1 Try.underlying61 rfl (info16i HLN.out) ?_) | (refine wpList_store_row rfl 61 (.tmp 10) (.tmp 91) rfl (g + 1) (VN .i64 LQ) rfl rfl 61 (VN .i64 (List.replicate 16 0)) HR8.out.2.1 (info16i HLN.out) (by rw [VN_size, VN_size, HLN.out, List.length_replicate]) (VN_one _ _) ?_))
  refine bodyPost_ret (v := .agg (VN .i64 LQ)) ?_ rfl ⟨by rw [HLQ.out], below_setRow (by rw [HG.out]; exact HR8.out.2.2) _ (by rw [HG.out]; omega) _⟩
  exact results_cell_row (P := Try.prog) (fn := Try.f25) (p := 10) (ty := 61) rfl _ _ (g + 1) 61 (VN .i64 LQ) (0, 0) _ rfl (setRow_heap _ _ _ _ 61 _ HR8.out.2.1) Try.underlying61 rfl (info16i HLN.out)
end Go.Proofs.Ytefnlaookmpbhaa
