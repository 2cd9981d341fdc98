import Derived.Test.YteimmjdiaophoaaFldV
namespace Go.Proofs.Yteimmjdiaophoaa
set_option linter.unusedSimpArgs false
open Go.ChangeShapes Go.WideShapes Go.ChangeAt Go.RowKit Go.Pin Go.Fld
set_option maxRecDepth 100000 in
set_option maxHeartbeats 8000000 in
theorem known_any (w : World) : Calls Try.prog 15 #[] w fun e w' => e = .returned (.bool true) ∧ Below w.heap.size w w' := by
  have D3 : Hid (∀ w, Calls Try.prog 18 #[.agg #[.int .u8 3, .int .u8 0, .int .u8 0, .int .u8 0, .int .u8 0, .int .u8 0, .int .u8 0, .int .u8 0, .int .u8 0, .int .u8 0, .int .u8 0, .int .u8 0, .int .u8 0, .int .u8 0, .int .u8 0, .int .u8 0, .int .u8 0, .int .u8 0, .int .u8 0, .int .u8 0, .int .u8 0, .int .u8 0, .int .u8 0, .int .u8 0, .int .u8 0, .int .u8 0, .int .u8 0, .int .u8 0, .int .u8 0, .int .u8 0, .int .u8 0, .int .u8 0]] w fun e w' => e = .returned (.agg #[.int .u64 3, .int .u64 0, .int .u64 0, .int .u64 0, .int .u64 0]) ∧ Below w.heap.size w w') := fun w => dec_is (n := 3) (by decide) (by decide) (by decide) w
  have D4 : Hid (∀ w, Calls Try.prog 18 #[.agg #[.int .u8 4, .int .u8 0, .int .u8 0, .int .u8 0, .int .u8 0, .int .u8 0, .int .u8 0, .int .u8 0, .int .u8 0, .int .u8 0, .int .u8 0, .int .u8 0, .int .u8 0, .int .u8 0, .int .u8 0, .int .u8 0, .int .u8 0, .int .u8 0, .int .u8 0, .int .u8 0, .int .u8 0, .int .u8 0, .int .u8 0, .int .u8 0, .int .u8 0, .int .u8 0, .int .u8 0, .int .u8 0, .int .u8 0, .int .u8 0, .int .u8 0, .int .u8 0]] w fun e w' => e = .returned (.agg #[.int .u64 4, .int .u64 0, .int .u64 0, .int .u64 0, .int .u64 0]) ∧ Below w.heap.size w w') := fun w => dec_is (n := 4) (by decide) (by decide) (by decide) w
  have D2 : Hid (∀ w, Calls Try.prog 18 #[.agg #[.int .u8 2, .int .u8 0, .int .u8 0, .int .u8 0, .int .u8 0, .int .u8 0, .int .u8 0, .int .u8 0, .int .u8 0, .int .u8 0, .int .u8 0, .int .u8 0, .int .u8 0, .int .u8 0, .int .u8 0, .int .u8 0, .int .u8 0, .int .u8 0, .int .u8 0, .int .u8 0, .int .u8 0, .int .u8 0, .int .u8 0, .int .u8 0, .int .u8 0, .int .u8 0, .int .u8 0, .int .u8 0, .int .u8 0, .int .u8 0, .int .u8 0, .int .u8 0]] w fun e w' => e = .returned (.agg #[.int .u64 2, .int .u64 0, .int .u64 0, .int .u64 0, .int .u64 0]) ∧ Below w.heap.size w w') := fun w => dec_is (n := 2) (by decide) (by decide) (by decide) w
  have l2 : Lim [2, 0, 0, 0, 0] := lim_small 2 (by decide) (by decide)
  have l3 : Lim [3, 0, 0, 0, 0] := lim_small 3 (by decide) (by decide)
  have l4 : Lim [4, 0, 0, 0, 0] := lim_small 4 (by decide) (by decide)
  have n2 : num [2, 0, 0, 0, 0] = 2 := num_small 2 (by decide)
  have n3 : num [3, 0, 0, 0, 0] = 3 := num_small 3 (by decide)
  have n4 : num [4, 0, 0, 0, 0] = 4 := num_small 4 (by decide)
  have n20 : num [20, 0, 0, 0, 0] = 20 := num_small 20 (by decide)
  obtain ⟨h0, h1, h2, h3, h4, eh⟩ := five (qw_lim l2 5).len
  have limh : Lim [h0, h1, h2, h3, h4] := eh ▸ qw_lim l2 5
  have numh : num [h0, h1, h2, h3, h4] = qwn 2 5 := by rw [← eh, num_qw l2 5, n2]
  have vh : VI .u64 (qw [2, 0, 0, 0, 0] 5) = #[.int .u64 h0, .int .u64 h1, .int .u64 h2, .int .u64 h3, .int .u64 h4] := by rw [eh]; rfl
  obtain ⟨m0, m1, m2, m3, m4, em⟩ := five (prod_lim l3 l4).len
  have limm : Lim [m0, m1, m2, m3, m4] := em ▸ prod_lim l3 l4
  have numm : num [m0, m1, m2, m3, m4] = 12 := by rw [← em, num_prod l3 l4, n3, n4]; decide
  have vm : VI .u64 (prod [3, 0, 0, 0, 0] [4, 0, 0, 0, 0]) = #[.int .u64 m0, .int .u64 m1, .int .u64 m2, .int .u64 m3, .int .u64 m4] := by rw [em]; rfl
  obtain ⟨s0, s1, s2, s3, s4, es⟩ := five (add_lim l3 l4).len
  have lims : Lim [s0, s1, s2, s3, s4] := es ▸ add_lim l3 l4
  have nums : num [s0, s1, s2, s3, s4] = 7 := by rw [← es, num_add l3 l4, n3, n4]; decide
  have vs : VI .u64 (stl (List.zipWith (· + ·) [3, 0, 0, 0, 0] [4, 0, 0, 0, 0])) = #[.int .u64 s0, .int .u64 s1, .int .u64 s2, .int .u64 s3, .int .u64 s4] := by rw [es]; rfl
  obtain ⟨q0, q1, q2, q3, q4, eq⟩ := five (prod_lim l3 l3).len
  have limq : Lim [q0, q1, q2, q3, q4] := eq ▸ prod_lim l3 l3
  have numq : num [q0, q1, q2, q3, q4] = 9 := by rw [← eq, num_prod l3 l3, n3]; decide
  have vq : VI .u64 (prod [3, 0, 0, 0, 0] [3, 0, 0, 0, 0]) = #[.int .u64 q0, .int .u64 q1, .int .u64 q2, .int .u64 q3, .int .u64 q4] := by rw [eq]; rfl
  obtain ⟨d0, d1, d2, d3, d4, ed⟩ := five (subs_lim l4 l3).len
  have limd : Lim [d0, d1, d2, d3, d4] := ed ▸ subs_lim l4 l3
  have numd : num [d0, d1, d2, d3, d4] = 1 := by rw [← ed, num_sub l4 l3, n3, n4]; decide
  have vd : VI .u64 (stl (subL [4, 0, 0, 0, 0] [3, 0, 0, 0, 0])) = #[.int .u64 d0, .int .u64 d1, .int .u64 d2, .int .u64 d3, .int .u64 d4] := by rw [ed]; rfl
  obtain ⟨t0, t1, t2, t3, t4, et⟩ := five (prod_lim limh (lim_small 20 (by decide) (by decide))).len
  have limt : Lim [t0, t1, t2, t3, t4] := et ▸ prod_lim limh (lim_small 20 (by decide) (by decide))
  have numt : num [t0, t1, t2, t3, t4] = 10 := by rw [← et, num_prod limh (lim_small 20 (by decide) (by decide)), numh, n20]; exact inv_two
  have vt : VI .u64 (prod [h0, h1, h2, h3, h4] [20, 0, 0, 0, 0]) = #[.int .u64 t0, .int .u64 t1, .int .u64 t2, .int .u64 t3, .int .u64 t4] := by rw [et]; rfl
  have Cm : Hid (∀ w, Calls Try.prog 19 #[.agg #[.int .u64 m0, .int .u64 m1, .int .u64 m2, .int .u64 m3, .int .u64 m4]] w fun e w' => e = .returned (.agg (VI .u8 (kk 12))) ∧ Below w.heap.size w w') := fun w => enc_is (n := 12) limm (by rw [numm]; decide) w
  have Cs : Hid (∀ w, Calls Try.prog 19 #[.agg #[.int .u64 s0, .int .u64 s1, .int .u64 s2, .int .u64 s3, .int .u64 s4]] w fun e w' => e = .returned (.agg (VI .u8 (kk 7))) ∧ Below w.heap.size w w') := fun w => enc_is (n := 7) lims (by rw [nums]; decide) w
  have Cq : Hid (∀ w, Calls Try.prog 19 #[.agg #[.int .u64 q0, .int .u64 q1, .int .u64 q2, .int .u64 q3, .int .u64 q4]] w fun e w' => e = .returned (.agg (VI .u8 (kk 9))) ∧ Below w.heap.size w w') := fun w => enc_is (n := 9) limq (by rw [numq]; decide) w
  have Cd : Hid (∀ w, Calls Try.prog 19 #[.agg #[.int .u64 d0, .int .u64 d1, .int .u64 d2, .int .u64 d3, .int .u64 d4]] w fun e w' => e = .returned (.agg (VI .u8 (kk 1))) ∧ Below w.heap.size w w') := fun w => enc_is (n := 1) limd (by rw [numd]; decide) w
  have Ct : Hid (∀ w, Calls Try.prog 19 #[.agg #[.int .u64 t0, .int .u64 t1, .int .u64 t2, .int .u64 t3, .int .u64 t4]] w fun e w' => e = .returned (.agg (VI .u8 (kk 10))) ∧ Below w.heap.size w w') := fun w => enc_is (n := 10) limt (by rw [numt]; decide) w
  have C3 : Hid (∀ w, Calls Try.prog 19 #[.agg #[.int .u64 3, .int .u64 0, .int .u64 0, .int .u64 0, .int .u64 0]] w fun e w' => e = .returned (.agg (VI .u8 (kk 3))) ∧ Below w.heap.size w w') := fun w => enc_is (n := 3) l3 (by rw [n3]; decide) w
  have C4 : Hid (∀ w, Calls Try.prog 19 #[.agg #[.int .u64 4, .int .u64 0, .int .u64 0, .int .u64 0, .int .u64 0]] w fun e w' => e = .returned (.agg (VI .u8 (kk 4))) ∧ Below w.heap.size w w') := fun w => enc_is (n := 4) l4 (by rw [n4]; decide) w
  have Q12 : ∀ w, (Op.equalIn 10000 40 (.agg (VI .u8 (kk 12))) (.agg #[.int .u8 12, .int .u8 0, .int .u8 0, .int .u8 0, .int .u8 0, .int .u8 0, .int .u8 0, .int .u8 0, .int .u8 0, .int .u8 0, .int .u8 0, .int .u8 0, .int .u8 0, .int .u8 0, .int .u8 0, .int .u8 0, .int .u8 0, .int .u8 0, .int .u8 0, .int .u8 0, .int .u8 0, .int .u8 0, .int .u8 0, .int .u8 0, .int .u8 0, .int .u8 0, .int .u8 0, .int .u8 0, .int .u8 0, .int .u8 0, .int .u8 0, .int .u8 0])).run Try.prog w = .ok true w := fun w => run_equalIn_row w 9998 40 5 .u8 32 (kk 12) (kk 12) rfl rfl Try.underlying40 Try.underlying5 size5
  have Q7 : ∀ w, (Op.equalIn 10000 40 (.agg (VI .u8 (kk 7))) (.agg #[.int .u8 7, .int .u8 0, .int .u8 0, .int .u8 0, .int .u8 0, .int .u8 0, .int .u8 0, .int .u8 0, .int .u8 0, .int .u8 0, .int .u8 0, .int .u8 0, .int .u8 0, .int .u8 0, .int .u8 0, .int .u8 0, .int .u8 0, .int .u8 0, .int .u8 0, .int .u8 0, .int .u8 0, .int .u8 0, .int .u8 0, .int .u8 0, .int .u8 0, .int .u8 0, .int .u8 0, .int .u8 0, .int .u8 0, .int .u8 0, .int .u8 0, .int .u8 0])).run Try.prog w = .ok true w := fun w => run_equalIn_row w 9998 40 5 .u8 32 (kk 7) (kk 7) rfl rfl Try.underlying40 Try.underlying5 size5
  have Q9 : ∀ w, (Op.equalIn 10000 40 (.agg (VI .u8 (kk 9))) (.agg #[.int .u8 9, .int .u8 0, .int .u8 0, .int .u8 0, .int .u8 0, .int .u8 0, .int .u8 0, .int .u8 0, .int .u8 0, .int .u8 0, .int .u8 0, .int .u8 0, .int .u8 0, .int .u8 0, .int .u8 0, .int .u8 0, .int .u8 0, .int .u8 0, .int .u8 0, .int .u8 0, .int .u8 0, .int .u8 0, .int .u8 0, .int .u8 0, .int .u8 0, .int .u8 0, .int .u8 0, .int .u8 0, .int .u8 0, .int .u8 0, .int .u8 0, .int .u8 0])).run Try.prog w = .ok true w := fun w => run_equalIn_row w 9998 40 5 .u8 32 (kk 9) (kk 9) rfl rfl Try.underlying40 Try.underlying5 size5
  have Q1 : ∀ w, (Op.equalIn 10000 40 (.agg (VI .u8 (kk 1))) (.agg #[.int .u8 1, .int .u8 0, .int .u8 0, .int .u8 0, .int .u8 0, .int .u8 0, .int .u8 0, .int .u8 0, .int .u8 0, .int .u8 0, .int .u8 0, .int .u8 0, .int .u8 0, .int .u8 0, .int .u8 0, .int .u8 0, .int .u8 0, .int .u8 0, .int .u8 0, .int .u8 0, .int .u8 0, .int .u8 0, .int .u8 0, .int .u8 0, .int .u8 0, .int .u8 0, .int .u8 0, .int .u8 0, .int .u8 0, .int .u8 0, .int .u8 0, .int .u8 0])).run Try.prog w = .ok true w := fun w => run_equalIn_row w 9998 40 5 .u8 32 (kk 1) (kk 1) rfl rfl Try.underlying40 Try.underlying5 size5
  have Q10 : ∀ w, (Op.equalIn 10000 40 (.agg (VI .u8 (kk 10))) (.agg #[.int .u8 10, .int .u8 0, .int .u8 0, .int .u8 0, .int .u8 0, .int .u8 0, .int .u8 0, .int .u8 0, .int .u8 0, .int .u8 0, .int .u8 0, .int .u8 0, .int .u8 0, .int .u8 0, .int .u8 0, .int .u8 0, .int .u8 0, .int .u8 0, .int .u8 0, .int .u8 0, .int .u8 0, .int .u8 0, .int .u8 0, .int .u8 0, .int .u8 0, .int .u8 0, .int .u8 0, .int .u8 0, .int .u8 0, .int .u8 0, .int .u8 0, .int .u8 0])).run Try.prog w = .ok true w := fun w => run_equalIn_row w 9998 40 5 .u8 32 (kk 10) (kk 10) rfl rfl Try.underlying40 Try.underlying5 size5
  have Q3 : ∀ w, (Op.equalIn 10000 40 (.agg (VI .u8 (kk 3))) (.agg #[.int .u8 3, .int .u8 0, .int .u8 0, .int .u8 0, .int .u8 0, .int .u8 0, .int .u8 0, .int .u8 0, .int .u8 0, .int .u8 0, .int .u8 0, .int .u8 0, .int .u8 0, .int .u8 0, .int .u8 0, .int .u8 0, .int .u8 0, .int .u8 0, .int .u8 0, .int .u8 0, .int .u8 0, .int .u8 0, .int .u8 0, .int .u8 0, .int .u8 0, .int .u8 0, .int .u8 0, .int .u8 0, .int .u8 0, .int .u8 0, .int .u8 0, .int .u8 0])).run Try.prog w = .ok true w := fun w => run_equalIn_row w 9998 40 5 .u8 32 (kk 3) (kk 3) rfl rfl Try.underlying40 Try.underlying5 size5
  have Q4 : ∀ w, (Op.equalIn 10000 40 (.agg (VI .u8 (kk 4))) (.agg #[.int .u8 4, .int .u8 0, .int .u8 0, .int .u8 0, .int .u8 0, .int .u8 0, .int .u8 0, .int .u8 0, .int .u8 0, .int .u8 0, .int .u8 0, .int .u8 0, .int .u8 0, .int .u8 0, .int .u8 0, .int .u8 0, .int .u8 0, .int .u8 0, .int .u8 0, .int .u8 0, .int .u8 0, .int .u8 0, .int .u8 0, .int .u8 0, .int .u8 0, .int .u8 0, .int .u8 0, .int .u8 0, .int .u8 0, .int .u8 0, .int .u8 0, .int .u8 0])).run Try.prog w = .ok true w := fun w => run_equalIn_row w 9998 40 5 .u8 32 (kk 4) (kk 4) rfl rfl Try.underlying40 Try.underlying5 size5
  have Lh : Hid (Lim [h0, h1, h2, h3, h4]) := limh
  have Lm : Hid (Lim [m0, m1, m2, m3, m4]) := limm
  have Ls : Hid (Lim [s0, s1, s2, s3, s4]) := lims
  have Lq : Hid (Lim [q0, q1, q2, q3, q4]) := limq
  have Ld : Hid (Lim [d0, d1, d2, d3, d4]) := limd
  have Lt : Hid (Lim [t0, t1, t2, t3, t4]) := limt
  have L2 : Hid (Lim [2, 0, 0, 0, 0]) := l2
  have L3 : Hid (Lim [3, 0, 0, 0, 0]) := l3
  have L4 : Hid (Lim [4, 0, 0, 0, 0]) := l4
  clear eh em es eq ed et numh numm nums numq numd numt limh limm lims limq limd limt n2 n3 n4 n20 l2 l3 l4
  go_enter Try.func15, Try.ntmps15
  go_wp2_with (fail)
  refine (new_any _).mono ?_
  rintro e w1 ⟨rfl, hw1⟩
  have X1 : Hid (Env w.heap.size w w.heap.size [] [] w1) := by rw [hw1]; exact e_new w
  clear hw1
  obtain ⟨n, hn⟩ : ∃ n, w.heap.size = n := ⟨_, rfl⟩
  rw [hn] at X1
  go_wp2_with (fail)
  refine (D3.out _).mono ?_
  rintro e w2 ⟨rfl, hb⟩
  have X2 : Hid (Env n w n [] [] w2) := X1.out.below hb
  clear hb X1
  go_wp2_with (fail)
  obtain ⟨w3, hW⟩ : ∃ W, w2.alloc (.cells #[.int .u64 3, .int .u64 0, .int .u64 0, .int .u64 0, .int .u64 0] 27) = W := ⟨_, rfl⟩
  have hN := X2.out.new [3, 0, 0, 0, 0]
  rw [show w2.alloc (.cells (VI .u64 [3, 0, 0, 0, 0]) 27) = w3 from hW] at hN
  rw [hW]
  clear hW
  obtain ⟨ga, hg⟩ : ∃ g, w2.heap.size = g := ⟨_, rfl⟩
  rw [hg] at hN
  simp only [hg]
  clear hg
  have X3 : Hid (Env n w n [] [(ga, [3, 0, 0, 0, 0])] w3) := hN
  clear hN X2
  refine (D4.out _).mono ?_
  rintro e w4 ⟨rfl, hb⟩
  have X4 : Hid (Env n w n [] [(ga, [3, 0, 0, 0, 0])] w4) := X3.out.below hb
  clear hb X3
  go_wp2_with (fail)
  obtain ⟨w5, hW⟩ : ∃ W, w4.alloc (.cells #[.int .u64 4, .int .u64 0, .int .u64 0, .int .u64 0, .int .u64 0] 27) = W := ⟨_, rfl⟩
  have hN := X4.out.new [4, 0, 0, 0, 0]
  rw [show w4.alloc (.cells (VI .u64 [4, 0, 0, 0, 0]) 27) = w5 from hW] at hN
  rw [hW]
  clear hW
  obtain ⟨gb, hg⟩ : ∃ g, w4.heap.size = g := ⟨_, rfl⟩
  have Nb : Hid (ga < gb) := by have h0 := X4.out.lt (g := ga) (x := [3, 0, 0, 0, 0]) (by simp); rw [hg] at h0; exact h0
  rw [hg] at hN
  simp only [hg]
  clear hg
  have X5 : Hid (Env n w n [] [(gb, [4, 0, 0, 0, 0]), (ga, [3, 0, 0, 0, 0])] w5) := hN
  clear hN X4
  refine (D2.out _).mono ?_
  rintro e w6 ⟨rfl, hb⟩
  have X6 : Hid (Env n w n [] [(gb, [4, 0, 0, 0, 0]), (ga, [3, 0, 0, 0, 0])] w6) := X5.out.below hb
  clear hb X5
  go_wp2_with (fail)
  have hC := e_invert X6.out (by simp) L2.out
  rw [vh] at hC
  refine hC.mono ?_
  clear hC
  rintro e w7 ⟨rfl, hb⟩
  have X7 : Hid (Env n w n [(3, 6)] [(gb, [4, 0, 0, 0, 0]), (ga, [3, 0, 0, 0, 0])] w7) := hb
  clear hb X6
  obtain ⟨c00, c01, c02, c03, c04⟩ := cells5 (X7.out.row (g := ga) (x := [3, 0, 0, 0, 0]) (by simp))
  have k0 := X7.out.lt (g := ga) (x := [3, 0, 0, 0, 0]) (by simp)
  obtain ⟨c10, c11, c12, c13, c14⟩ := cells5 (X7.out.row (g := gb) (x := [4, 0, 0, 0, 0]) (by simp))
  have k1 := X7.out.lt (g := gb) (x := [4, 0, 0, 0, 0]) (by simp)
  go_wp2_with (fail)
  clear c00 c01 c02 c03 c04 k0
  clear c10 c11 c12 c13 c14 k1
  obtain ⟨w8, hW⟩ : ∃ W, w7.alloc (.cells #[.int .u64 h0, .int .u64 h1, .int .u64 h2, .int .u64 h3, .int .u64 h4] 27) = W := ⟨_, rfl⟩
  have hN := X7.out.new [h0, h1, h2, h3, h4]
  rw [show w7.alloc (.cells (VI .u64 [h0, h1, h2, h3, h4]) 27) = w8 from hW] at hN
  rw [hW]
  clear hW
  obtain ⟨gh, hg⟩ : ∃ g, w7.heap.size = g := ⟨_, rfl⟩
  have Nh : Hid (gb < gh) := by have h0 := X7.out.lt (g := gb) (x := [4, 0, 0, 0, 0]) (by simp); rw [hg] at h0; exact h0
  rw [hg] at hN
  simp only [hg]
  clear hg
  have X8 : Hid (Env n w n [(3, 6)] [(gh, [h0, h1, h2, h3, h4]), (gb, [4, 0, 0, 0, 0]), (ga, [3, 0, 0, 0, 0])] w8) := hN
  clear hN X7
  have hC := e_mul X8.out (by simp) L3.out L4.out
  rw [vm] at hC
  refine hC.mono ?_
  clear hC
  rintro e w9 ⟨rfl, hb⟩
  have X9 : Hid (Env n w n [(3, 6), (3, 3)] [(gh, [h0, h1, h2, h3, h4]), (gb, [4, 0, 0, 0, 0]), (ga, [3, 0, 0, 0, 0])] w9) := hb
  clear hb X8
  obtain ⟨c00, c01, c02, c03, c04⟩ := cells5 (X9.out.row (g := ga) (x := [3, 0, 0, 0, 0]) (by simp))
  have k0 := X9.out.lt (g := ga) (x := [3, 0, 0, 0, 0]) (by simp)
  obtain ⟨c10, c11, c12, c13, c14⟩ := cells5 (X9.out.row (g := gb) (x := [4, 0, 0, 0, 0]) (by simp))
  have k1 := X9.out.lt (g := gb) (x := [4, 0, 0, 0, 0]) (by simp)
  go_wp2_with (fail)
  clear c00 c01 c02 c03 c04 k0
  clear c10 c11 c12 c13 c14 k1
  obtain ⟨w10, hW⟩ : ∃ W, w9.alloc (.cells #[.int .u64 m0, .int .u64 m1, .int .u64 m2, .int .u64 m3, .int .u64 m4] 27) = W := ⟨_, rfl⟩
  have hN := X9.out.new [m0, m1, m2, m3, m4]
  rw [show w9.alloc (.cells (VI .u64 [m0, m1, m2, m3, m4]) 27) = w10 from hW] at hN
  rw [hW]
  clear hW
  obtain ⟨gm, hg⟩ : ∃ g, w9.heap.size = g := ⟨_, rfl⟩
  have Nm : Hid (gb < gm) := by have h0 := X9.out.lt (g := gb) (x := [4, 0, 0, 0, 0]) (by simp); rw [hg] at h0; exact h0
  rw [hg] at hN
  simp only [hg]
  clear hg
  have X10 : Hid (Env n w n [(3, 6), (3, 3)] [(gm, [m0, m1, m2, m3, m4]), (gh, [h0, h1, h2, h3, h4]), (gb, [4, 0, 0, 0, 0]), (ga, [3, 0, 0, 0, 0])] w10) := hN
  clear hN X9
  have hC := e_add X10.out (by simp) L3.out L4.out
  rw [vs] at hC
  refine hC.mono ?_
  clear hC
  rintro e w11 ⟨rfl, hb⟩
  have X11 : Hid (Env n w n [(3, 6), (3, 3), (3, 1)] [(gm, [m0, m1, m2, m3, m4]), (gh, [h0, h1, h2, h3, h4]), (gb, [4, 0, 0, 0, 0]), (ga, [3, 0, 0, 0, 0])] w11) := hb
  clear hb X10
  obtain ⟨c00, c01, c02, c03, c04⟩ := cells5 (X11.out.row (g := ga) (x := [3, 0, 0, 0, 0]) (by simp))
  have k0 := X11.out.lt (g := ga) (x := [3, 0, 0, 0, 0]) (by simp)
  go_wp2_with (fail)
  clear c00 c01 c02 c03 c04 k0
  obtain ⟨w12, hW⟩ : ∃ W, w11.alloc (.cells #[.int .u64 s0, .int .u64 s1, .int .u64 s2, .int .u64 s3, .int .u64 s4] 27) = W := ⟨_, rfl⟩
  have hN := X11.out.new [s0, s1, s2, s3, s4]
  rw [show w11.alloc (.cells (VI .u64 [s0, s1, s2, s3, s4]) 27) = w12 from hW] at hN
  rw [hW]
  clear hW
  obtain ⟨gs, hg⟩ : ∃ g, w11.heap.size = g := ⟨_, rfl⟩
  have Ns : Hid (gb < gs) := by have h0 := X11.out.lt (g := gb) (x := [4, 0, 0, 0, 0]) (by simp); rw [hg] at h0; exact h0
  rw [hg] at hN
  simp only [hg]
  clear hg
  have X12 : Hid (Env n w n [(3, 6), (3, 3), (3, 1)] [(gs, [s0, s1, s2, s3, s4]), (gm, [m0, m1, m2, m3, m4]), (gh, [h0, h1, h2, h3, h4]), (gb, [4, 0, 0, 0, 0]), (ga, [3, 0, 0, 0, 0])] w12) := hN
  clear hN X11
  have hC := e_square X12.out (by simp) L3.out
  rw [vq] at hC
  refine hC.mono ?_
  clear hC
  rintro e w13 ⟨rfl, hb⟩
  have X13 : Hid (Env n w n [(3, 6), (3, 3), (3, 1), (3, 4)] [(gs, [s0, s1, s2, s3, s4]), (gm, [m0, m1, m2, m3, m4]), (gh, [h0, h1, h2, h3, h4]), (gb, [4, 0, 0, 0, 0]), (ga, [3, 0, 0, 0, 0])] w13) := hb
  clear hb X12
  obtain ⟨c00, c01, c02, c03, c04⟩ := cells5 (X13.out.row (g := ga) (x := [3, 0, 0, 0, 0]) (by simp))
  have k0 := X13.out.lt (g := ga) (x := [3, 0, 0, 0, 0]) (by simp)
  obtain ⟨c10, c11, c12, c13, c14⟩ := cells5 (X13.out.row (g := gb) (x := [4, 0, 0, 0, 0]) (by simp))
  have k1 := X13.out.lt (g := gb) (x := [4, 0, 0, 0, 0]) (by simp)
  go_wp2_with (fail)
  clear c00 c01 c02 c03 c04 k0
  clear c10 c11 c12 c13 c14 k1
  obtain ⟨w14, hW⟩ : ∃ W, w13.alloc (.cells #[.int .u64 q0, .int .u64 q1, .int .u64 q2, .int .u64 q3, .int .u64 q4] 27) = W := ⟨_, rfl⟩
  have hN := X13.out.new [q0, q1, q2, q3, q4]
  rw [show w13.alloc (.cells (VI .u64 [q0, q1, q2, q3, q4]) 27) = w14 from hW] at hN
  rw [hW]
  clear hW
  obtain ⟨gq, hg⟩ : ∃ g, w13.heap.size = g := ⟨_, rfl⟩
  have Nq : Hid (gb < gq) := by have h0 := X13.out.lt (g := gb) (x := [4, 0, 0, 0, 0]) (by simp); rw [hg] at h0; exact h0
  rw [hg] at hN
  simp only [hg]
  clear hg
  have X14 : Hid (Env n w n [(3, 6), (3, 3), (3, 1), (3, 4)] [(gq, [q0, q1, q2, q3, q4]), (gs, [s0, s1, s2, s3, s4]), (gm, [m0, m1, m2, m3, m4]), (gh, [h0, h1, h2, h3, h4]), (gb, [4, 0, 0, 0, 0]), (ga, [3, 0, 0, 0, 0])] w14) := hN
  clear hN X13
  have hC := e_sub X14.out (by simp) L4.out L3.out
  rw [vd] at hC
  refine hC.mono ?_
  clear hC
  rintro e w15 ⟨rfl, hb⟩
  have X15 : Hid (Env n w n [(3, 6), (3, 3), (3, 1), (3, 4), (3, 2)] [(gq, [q0, q1, q2, q3, q4]), (gs, [s0, s1, s2, s3, s4]), (gm, [m0, m1, m2, m3, m4]), (gh, [h0, h1, h2, h3, h4]), (gb, [4, 0, 0, 0, 0]), (ga, [3, 0, 0, 0, 0])] w15) := hb
  clear hb X14
  obtain ⟨c00, c01, c02, c03, c04⟩ := cells5 (X15.out.row (g := gh) (x := [h0, h1, h2, h3, h4]) (by simp))
  have k0 := X15.out.lt (g := gh) (x := [h0, h1, h2, h3, h4]) (by simp)
  go_wp2_with (fail)
  clear c00 c01 c02 c03 c04 k0
  obtain ⟨w16, hW⟩ : ∃ W, w15.alloc (.cells #[.int .u64 d0, .int .u64 d1, .int .u64 d2, .int .u64 d3, .int .u64 d4] 27) = W := ⟨_, rfl⟩
  have hN := X15.out.new [d0, d1, d2, d3, d4]
  rw [show w15.alloc (.cells (VI .u64 [d0, d1, d2, d3, d4]) 27) = w16 from hW] at hN
  rw [hW]
  clear hW
  obtain ⟨gd, hg⟩ : ∃ g, w15.heap.size = g := ⟨_, rfl⟩
  have Nd : Hid (gb < gd) := by have h0 := X15.out.lt (g := gb) (x := [4, 0, 0, 0, 0]) (by simp); rw [hg] at h0; exact h0
  rw [hg] at hN
  simp only [hg]
  clear hg
  have X16 : Hid (Env n w n [(3, 6), (3, 3), (3, 1), (3, 4), (3, 2)] [(gd, [d0, d1, d2, d3, d4]), (gq, [q0, q1, q2, q3, q4]), (gs, [s0, s1, s2, s3, s4]), (gm, [m0, m1, m2, m3, m4]), (gh, [h0, h1, h2, h3, h4]), (gb, [4, 0, 0, 0, 0]), (ga, [3, 0, 0, 0, 0])] w16) := hN
  clear hN X15
  have hC := e_scale X16.out (by simp) Lh.out 20 (by decide) (by decide)
  rw [vt] at hC
  refine hC.mono ?_
  clear hC
  rintro e w17 ⟨rfl, hb⟩
  have X17 : Hid (Env n w n [(3, 6), (3, 3), (3, 1), (3, 4), (3, 2), (3, 5)] [(gd, [d0, d1, d2, d3, d4]), (gq, [q0, q1, q2, q3, q4]), (gs, [s0, s1, s2, s3, s4]), (gm, [m0, m1, m2, m3, m4]), (gh, [h0, h1, h2, h3, h4]), (gb, [4, 0, 0, 0, 0]), (ga, [3, 0, 0, 0, 0])] w17) := hb
  clear hb X16
  go_wp2_with (fail)
  obtain ⟨w18, hW⟩ : ∃ W, w17.alloc (.cells #[.int .u64 t0, .int .u64 t1, .int .u64 t2, .int .u64 t3, .int .u64 t4] 27) = W := ⟨_, rfl⟩
  have hN := X17.out.new [t0, t1, t2, t3, t4]
  rw [show w17.alloc (.cells (VI .u64 [t0, t1, t2, t3, t4]) 27) = w18 from hW] at hN
  rw [hW]
  clear hW
  obtain ⟨gt, hg⟩ : ∃ g, w17.heap.size = g := ⟨_, rfl⟩
  have Nt : Hid (gb < gt) := by have h0 := X17.out.lt (g := gb) (x := [4, 0, 0, 0, 0]) (by simp); rw [hg] at h0; exact h0
  rw [hg] at hN
  simp only [hg]
  clear hg
  have X18 : Hid (Env n w n [(3, 6), (3, 3), (3, 1), (3, 4), (3, 2), (3, 5)] [(gt, [t0, t1, t2, t3, t4]), (gd, [d0, d1, d2, d3, d4]), (gq, [q0, q1, q2, q3, q4]), (gs, [s0, s1, s2, s3, s4]), (gm, [m0, m1, m2, m3, m4]), (gh, [h0, h1, h2, h3, h4]), (gb, [4, 0, 0, 0, 0]), (ga, [3, 0, 0, 0, 0])] w18) := hN
  clear hN X17
  have hS : Env n w n _ ((ga, [3, 0, 0, 0, 0]) :: (gb, [4, 0, 0, 0, 0]) :: [(gt, [t0, t1, t2, t3, t4]), (gd, [d0, d1, d2, d3, d4]), (gq, [q0, q1, q2, q3, q4]), (gs, [s0, s1, s2, s3, s4]), (gm, [m0, m1, m2, m3, m4]), (gh, [h0, h1, h2, h3, h4])]) w18 := X18.out.sub (by simp)
  have HAB : ga ≠ gb := by have := Nb.out; omega
  have HRX : ∀ p ∈ ([(gt, [t0, t1, t2, t3, t4]), (gd, [d0, d1, d2, d3, d4]), (gq, [q0, q1, q2, q3, q4]), (gs, [s0, s1, s2, s3, s4]), (gm, [m0, m1, m2, m3, m4]), (gh, [h0, h1, h2, h3, h4])] : List (Nat × List Int)), p.1 ≠ ga ∧ p.1 ≠ gb := by
    have := Nb.out; have := Nh.out; have := Nm.out; have := Ns.out; have := Nq.out; have := Nd.out; have := Nt.out
    simp only [List.mem_cons, List.not_mem_nil, or_false, forall_eq_or_imp, forall_eq]; omega
  refine (e_swap hS (by simp) L3.out L4.out HAB HRX 1 (by decide) (by decide)).mono ?_
  rintro e w19 ⟨rfl, hb⟩
  have Y0 : Hid (Env n w n [(3, 6), (3, 3), (3, 1), (3, 4), (3, 2), (3, 5), (3, 7)] [(ga, [4, 0, 0, 0, 0]), (gb, [3, 0, 0, 0, 0]), (gt, [t0, t1, t2, t3, t4]), (gd, [d0, d1, d2, d3, d4]), (gq, [q0, q1, q2, q3, q4]), (gs, [s0, s1, s2, s3, s4]), (gm, [m0, m1, m2, m3, m4]), (gh, [h0, h1, h2, h3, h4])] w19) := hb
  clear hb hS HAB HRX X18
  obtain ⟨c0, c1, c2, c3, c4⟩ := cells5 (Y0.out.row (g := gm) (x := [m0, m1, m2, m3, m4]) (by simp))
  go_wp2_with (fail)
  refine (Cm.out _).mono ?_
  rintro e z0 ⟨rfl, hb⟩
  have Y1 : Hid (Env n w n [(3, 6), (3, 3), (3, 1), (3, 4), (3, 2), (3, 5), (3, 7)] [(ga, [4, 0, 0, 0, 0]), (gb, [3, 0, 0, 0, 0]), (gt, [t0, t1, t2, t3, t4]), (gd, [d0, d1, d2, d3, d4]), (gq, [q0, q1, q2, q3, q4]), (gs, [s0, s1, s2, s3, s4]), (gm, [m0, m1, m2, m3, m4]), (gh, [h0, h1, h2, h3, h4])] z0) := Y0.out.below hb
  clear hb Y0 c0 c1 c2 c3 c4
  obtain ⟨c0, c1, c2, c3, c4⟩ := cells5 (Y1.out.row (g := gs) (x := [s0, s1, s2, s3, s4]) (by simp))
  go_wp2_with (fail)
  refine (Cs.out _).mono ?_
  rintro e z1 ⟨rfl, hb⟩
  have Y2 : Hid (Env n w n [(3, 6), (3, 3), (3, 1), (3, 4), (3, 2), (3, 5), (3, 7)] [(ga, [4, 0, 0, 0, 0]), (gb, [3, 0, 0, 0, 0]), (gt, [t0, t1, t2, t3, t4]), (gd, [d0, d1, d2, d3, d4]), (gq, [q0, q1, q2, q3, q4]), (gs, [s0, s1, s2, s3, s4]), (gm, [m0, m1, m2, m3, m4]), (gh, [h0, h1, h2, h3, h4])] z1) := Y1.out.below hb
  clear hb Y1 c0 c1 c2 c3 c4
  obtain ⟨c0, c1, c2, c3, c4⟩ := cells5 (Y2.out.row (g := gq) (x := [q0, q1, q2, q3, q4]) (by simp))
  go_wp2_with (fail)
  refine (Cq.out _).mono ?_
  rintro e z2 ⟨rfl, hb⟩
  have Y3 : Hid (Env n w n [(3, 6), (3, 3), (3, 1), (3, 4), (3, 2), (3, 5), (3, 7)] [(ga, [4, 0, 0, 0, 0]), (gb, [3, 0, 0, 0, 0]), (gt, [t0, t1, t2, t3, t4]), (gd, [d0, d1, d2, d3, d4]), (gq, [q0, q1, q2, q3, q4]), (gs, [s0, s1, s2, s3, s4]), (gm, [m0, m1, m2, m3, m4]), (gh, [h0, h1, h2, h3, h4])] z2) := Y2.out.below hb
  clear hb Y2 c0 c1 c2 c3 c4
  obtain ⟨c0, c1, c2, c3, c4⟩ := cells5 (Y3.out.row (g := gd) (x := [d0, d1, d2, d3, d4]) (by simp))
  go_wp2_with (fail)
  refine (Cd.out _).mono ?_
  rintro e z3 ⟨rfl, hb⟩
  have Y4 : Hid (Env n w n [(3, 6), (3, 3), (3, 1), (3, 4), (3, 2), (3, 5), (3, 7)] [(ga, [4, 0, 0, 0, 0]), (gb, [3, 0, 0, 0, 0]), (gt, [t0, t1, t2, t3, t4]), (gd, [d0, d1, d2, d3, d4]), (gq, [q0, q1, q2, q3, q4]), (gs, [s0, s1, s2, s3, s4]), (gm, [m0, m1, m2, m3, m4]), (gh, [h0, h1, h2, h3, h4])] z3) := Y3.out.below hb
  clear hb Y3 c0 c1 c2 c3 c4
  obtain ⟨c0, c1, c2, c3, c4⟩ := cells5 (Y4.out.row (g := gt) (x := [t0, t1, t2, t3, t4]) (by simp))
  go_wp2_with (fail)
  refine (Ct.out _).mono ?_
  rintro e z4 ⟨rfl, hb⟩
  have Y5 : Hid (Env n w n [(3, 6), (3, 3), (3, 1), (3, 4), (3, 2), (3, 5), (3, 7)] [(ga, [4, 0, 0, 0, 0]), (gb, [3, 0, 0, 0, 0]), (gt, [t0, t1, t2, t3, t4]), (gd, [d0, d1, d2, d3, d4]), (gq, [q0, q1, q2, q3, q4]), (gs, [s0, s1, s2, s3, s4]), (gm, [m0, m1, m2, m3, m4]), (gh, [h0, h1, h2, h3, h4])] z4) := Y4.out.below hb
  clear hb Y4 c0 c1 c2 c3 c4
  obtain ⟨c0, c1, c2, c3, c4⟩ := cells5 (Y5.out.row (g := ga) (x := [4, 0, 0, 0, 0]) (by simp))
  go_wp2_with (fail)
  refine (C4.out _).mono ?_
  rintro e z5 ⟨rfl, hb⟩
  have Y6 : Hid (Env n w n [(3, 6), (3, 3), (3, 1), (3, 4), (3, 2), (3, 5), (3, 7)] [(ga, [4, 0, 0, 0, 0]), (gb, [3, 0, 0, 0, 0]), (gt, [t0, t1, t2, t3, t4]), (gd, [d0, d1, d2, d3, d4]), (gq, [q0, q1, q2, q3, q4]), (gs, [s0, s1, s2, s3, s4]), (gm, [m0, m1, m2, m3, m4]), (gh, [h0, h1, h2, h3, h4])] z5) := Y5.out.below hb
  clear hb Y5 c0 c1 c2 c3 c4
  obtain ⟨c0, c1, c2, c3, c4⟩ := cells5 (Y6.out.row (g := gb) (x := [3, 0, 0, 0, 0]) (by simp))
  go_wp2_with (fail)
  refine (C3.out _).mono ?_
  rintro e z6 ⟨rfl, hb⟩
  have Y7 : Hid (Env n w n [(3, 6), (3, 3), (3, 1), (3, 4), (3, 2), (3, 5), (3, 7)] [(ga, [4, 0, 0, 0, 0]), (gb, [3, 0, 0, 0, 0]), (gt, [t0, t1, t2, t3, t4]), (gd, [d0, d1, d2, d3, d4]), (gq, [q0, q1, q2, q3, q4]), (gs, [s0, s1, s2, s3, s4]), (gm, [m0, m1, m2, m3, m4]), (gh, [h0, h1, h2, h3, h4])] z6) := Y6.out.below hb
  clear hb Y6 c0 c1 c2 c3 c4
  go_wp2_with (fail)
  refine (e_total Y7.out).mono ?_
  rintro e z7 ⟨rfl, hz⟩
  obtain rfl := hz
  go_wp2
  go_ret
  exact ⟨rfl, hn ▸ Y7.out.old⟩
end Go.Proofs.Yteimmjdiaophoaa
