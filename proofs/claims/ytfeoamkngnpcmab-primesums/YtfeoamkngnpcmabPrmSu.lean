import Derived.Test.YtfeoamkngnpcmabPrmH
namespace Go.Proofs.Ytfeoamkngnpcmab
set_option linter.unusedSimpArgs false
open Go.ChangeShapes Go.WideShapes Go.ChangeAt Go.RowKit Go.Pin Go.Prm
theorem cr_zero {b : List Int} (hb : ∀ x ∈ b, 0 ≤ x ∧ x < 256) : ∀ k, cr b (List.replicate 16 0) k = 0
  | 0 => rfl
  | k + 1 => by
    have h1 := byte_at hb k
    have h2 : (List.replicate 16 (0 : Int)).getD k 0 = 0 := by
      rw [List.getD_eq_getElem?_getD, List.getElem?_replicate]; split <;> rfl
    rw [cr, cr_zero hb k, h2]
    omega
theorem smt_zero {b : List Int} (hb : ∀ x ∈ b, 0 ≤ x ∧ x < 256) (i : Nat) (hi : i < 16) : (smt b (List.replicate 16 0)).getD i 0 = b.getD i 0 := by
  have h1 := byte_at hb i
  have h2 : (List.replicate 16 (0 : Int)).getD i 0 = 0 := by
    rw [List.getD_eq_getElem?_getD, List.getElem?_replicate]; split <;> rfl
  have h3 : i < (smt b (List.replicate 16 0)).length := by simpa using hi
  rw [List.getD_eq_getElem?_getD, List.getElem?_eq_getElem h3, Option.getD_some, smt_at _ _ _ hi, cr_zero hb, h2]
  omega
theorem eq16 {a b : List Int} (ha : a.length = 16) (hb : b.length = 16) (w : World) : (Op.equalIn 10000 30 (.agg (VI .u8 a)) (.agg (VI .u8 b))).run Try.prog w = .ok (a == b) w :=
  run_equalIn_row w 9998 30 5 .u8 16 a b ha hb Try.underlying30 Try.underlying5 size5
theorem zero_key : Key16 (List.replicate 16 0) := ⟨rfl, by decide⟩
theorem smt_key (b s : List Int) : Key16 (smt b s) := ⟨smt_len b s, smt_bd b s⟩
theorem Bx.set {w0 W : World} {bx : List (Nat × Obj)} {g : Nat} {l : List Int} {T : TypeId} (h : Bx w0 ((g, .cells (VI .u8 l) T) :: bx) W) (hn : ∀ p ∈ bx, p.1 ≠ g) (i : Nat) (v : Int) : Bx w0 ((g, .cells (VI .u8 (l.set i v)) T) :: bx) (W.setCell ⟨g, i, none⟩ (.int .u8 v)) := by
  have hg := h.ge (g, .cells (VI .u8 l) T) (by simp)
  refine ⟨h.old.setCell hg _, fun p hp => ?_, fun p hp => ?_⟩
  · rcases List.mem_cons.1 hp with rfl | hp
    · exact rowB_set (h.row (by simp)) i v
    · exact row_other (h.rows p (by simp [hp])) (hn p hp) _
  · rcases List.mem_cons.1 hp with rfl | hp
    · exact hg
    · exact h.ge p (by simp [hp])
theorem Bx.sub {w0 W : World} {bx by' : List (Nat × Obj)} (h : Bx w0 bx W) (hs : ∀ p ∈ by', p ∈ bx) : Bx w0 by' W :=
  ⟨h.old, fun p hp => h.rows p (hs p hp), fun p hp => h.ge p (hs p hp)⟩
set_option maxRecDepth 100000 in
set_option maxHeartbeats 8000000 in
theorem sums_walk (b s : List Int) (hb : Key17 b) (hs : Key16 s) (w : World) :
    Calls Try.prog 3 #[.agg (VI .u8 b), .agg (VI .u8 s)] w fun e w' => e = .returned (.bool true) ∧ Below w.heap.size w w' := by
  obtain ⟨x0, x1, x2, x3, x4, lx, nx, CX⟩ := block_f hb
  obtain ⟨c, hc⟩ : ∃ c, bts (num [x0, x1, x2, x3, x4]) = c := ⟨_, rfl⟩
  have CB := bytes_f lx hc
  obtain ⟨t, ht⟩ : ∃ t, smt c s = t := ⟨_, rfl⟩
  obtain ⟨z, hz⟩ : ∃ z, smt c (List.replicate 16 0) = z := ⟨_, rfl⟩
  have CS := sum_f lx hs (b := t) (by rw [hc]; exact ht)
  have CZ := sum_f lx zero_key (b := z) (by rw [hc]; exact hz)
  have kc : Key17 c := by rw [← hc]; exact bts_key _
  have kt : Key16 t := by rw [← ht]; exact smt_key _ _
  have kz : Key16 z := by rw [← hz]; exact smt_key _ _
  have HZ : Hid (∀ i, i < 16 → z.getD i 0 = c.getD i 0) := fun i hi => by rw [← hz]; exact smt_zero kc.bd i hi
  have HT : Hid (smt c s = t) := ht
  have HKB : Hid (Key17 b) := hb
  have HKS : Hid (Key16 s) := hs
  have HKC : Hid (Key17 c) := kc
  have HKT : Hid (Key16 t) := kt
  have HKZ : Hid (Key16 z) := kz
  have hq : ∀ w, (Op.equalIn 10000 30 (.agg (VI .u8 t)) (.agg (VI .u8 t))).run Try.prog w = .ok true w := fun w => (eq16 kt.len kt.len w).trans (by rw [beq_self_eq_true])
  have HQ : Hid (∀ w, (Op.equalIn 10000 30 (.agg (VI .u8 t)) (.agg (VI .u8 t))).run Try.prog w = .ok true w) := hq
  clear lx nx hc ht hz kc kt kz hb hs hq
  have X0 : Hid (Bx w [(w.heap.size + 1, .cells (VI .u8 s) 23), (w.heap.size, .cells (VI .u8 b) 22)] ((w.alloc (.cells (VI .u8 b) 22)).alloc (.cells (VI .u8 s) 23))) := bx2 w _ _
  obtain ⟨n, hn⟩ : ∃ n, w.heap.size = n := ⟨_, rfl⟩
  obtain ⟨W0, hW0⟩ : ∃ W, (w.alloc (.cells (VI .u8 b) 22)).alloc (.cells (VI .u8 s) 23) = W := ⟨_, rfl⟩
  rw [hW0, hn] at X0
  go_enter Try.func3, Try.ntmps3
  go_wp2_with (with_reducible refine at_list ?_; refine wpList_load_row rfl 22 (.tmp 2) rfl n rfl 22 (VI .u8 b) (0, 0) _ (X0.out.row (by simp)) Try.underlying22 rfl HKB.out.info ?_)
  refine (CX.out _).mono ?_
  rintro e W1 ⟨rfl, hb⟩
  have X1 : Hid (Bx w [(n + 1, .cells (VI .u8 s) 23), (n, .cells (VI .u8 b) 22)] W1) := X0.out.below hb
  clear hb X0 hW0 CX
  go_wp2_with (fail)
  have hN := X1.out.new (.cells #[.int .u64 x0, .int .u64 x1, .int .u64 x2, .int .u64 x3, .int .u64 x4] 27)
  obtain ⟨W2, hW2⟩ : ∃ W, W1.alloc (.cells #[.int .u64 x0, .int .u64 x1, .int .u64 x2, .int .u64 x3, .int .u64 x4] 27) = W := ⟨_, rfl⟩
  obtain ⟨gx, hgx⟩ : ∃ g, W1.heap.size = g := ⟨_, rfl⟩
  rw [hW2, hgx] at hN
  rw [hW2]
  simp only [hgx]
  refine (CB.out _).mono ?_
  rintro e W3 ⟨rfl, hb⟩
  have X3 : Hid (Bx w [(gx, .cells #[.int .u64 x0, .int .u64 x1, .int .u64 x2, .int .u64 x3, .int .u64 x4] 27), (n + 1, .cells (VI .u8 s) 23)] W3) := (hN.below hb).sub (by simp)
  clear hb X1 hN CB hW2 hgx
  go_wp2_with (with_reducible refine at_list ?_; refine hold_store 22 (.tmp 6) (.tmp 17) rfl ?_)
  refine store_row_new rfl 22 (.tmp 6) (.tmp 17) rfl W3.heap.size (VI .u8 c) rfl rfl rfl 22 (VI .u8 (List.replicate 17 0)) HKC.out.info (by rw [VI_size, VI_size, HKC.out.len]; rfl) (VI_one _ _) ?_
  have hN := X3.out.new (.cells (VI .u8 c) 22)
  obtain ⟨gc, hg⟩ : ∃ g, W3.heap.size = g := ⟨_, rfl⟩
  obtain ⟨W4, hW4⟩ : ∃ W, W3.alloc (.cells (VI .u8 c) 22) = W := ⟨_, rfl⟩
  rw [hW4, hg] at hN
  have X4 : Hid (Bx w [(gc, .cells (VI .u8 c) 22), (gx, .cells #[.int .u64 x0, .int .u64 x1, .int .u64 x2, .int .u64 x3, .int .u64 x4] 27), (n + 1, .cells (VI .u8 s) 23)] W4) := hN
  rw [hW4]
  simp only [hg]
  clear hN hW4 hg X3
  obtain ⟨c0, c1, c2, c3, c4⟩ := cells5 (X4.out.row (g := gx) (x := .cells #[.int .u64 x0, .int .u64 x1, .int .u64 x2, .int .u64 x3, .int .u64 x4] 27) (by simp))
  go_wp2_with (with_reducible refine at_list ?_; refine wpList_load_row rfl 23 (.tmp 3) rfl (n + 1) rfl 23 (VI .u8 s) (0, 0) _ (X4.out.row (by simp)) Try.underlying23 rfl HKS.out.info ?_)
  refine (CS.out _).mono ?_
  rintro e W5 ⟨rfl, hb⟩
  have X5 := X4.out.below hb
  clear hb X4 CS c0 c1 c2 c3 c4
  have X5' : Hid _ := X5
  clear X5
  go_wp2_with (with_reducible refine at_list ?_; refine hold_store 30 (.tmp 7) (.tmp 20) rfl ?_)
  refine store_row_new rfl 30 (.tmp 7) (.tmp 20) rfl W5.heap.size (VI .u8 t) rfl rfl rfl 30 (VI .u8 (List.replicate 16 0)) HKT.out.infoT (by rw [VI_size, VI_size, HKT.out.len]; rfl) (VI_one _ _) ?_
  have hN := (X5'.out.new (.cells (VI .u8 t) 30)).new (.cells (VI .u8 (List.replicate 16 0)) 30)
  rw [size_alloc] at hN
  obtain ⟨gt, hg⟩ : ∃ g, W5.heap.size = g := ⟨_, rfl⟩
  obtain ⟨W6, hW6⟩ : ∃ W, W5.alloc (.cells (VI .u8 t) 30) = W := ⟨_, rfl⟩
  have hs6 : W6.heap.size = gt + 1 := by rw [← hW6, size_alloc, hg]
  obtain ⟨W7, hW7⟩ : ∃ W, W6.alloc (.cells (VI .u8 (List.replicate 16 0)) 30) = W := ⟨_, rfl⟩
  have hW7' : W6.alloc (.cells #[.int .u8 0, .int .u8 0, .int .u8 0, .int .u8 0, .int .u8 0, .int .u8 0, .int .u8 0, .int .u8 0, .int .u8 0, .int .u8 0, .int .u8 0, .int .u8 0, .int .u8 0, .int .u8 0, .int .u8 0, .int .u8 0] 30) = W7 := hW7
  rw [hW6, hW7, hg] at hN
  have hlx : gx < gt := by rw [← hg]; exact X5'.out.lt (g := gx) (x := .cells #[.int .u64 x0, .int .u64 x1, .int .u64 x2, .int .u64 x3, .int .u64 x4] 27) (by simp)
  have hlc : gc < gt := by rw [← hg]; exact X5'.out.lt (g := gc) (x := .cells (VI .u8 c) 22) (by simp)
  have hls : n + 1 < gt := by rw [← hg]; exact X5'.out.lt (g := n + 1) (x := .cells (VI .u8 s) 23) (by simp)
  have X7 : Hid (Bx w [(gt + 1, .cells (VI .u8 (List.replicate 16 0)) 30), (gt, .cells (VI .u8 t) 30), (gc, .cells (VI .u8 c) 22), (gx, .cells #[.int .u64 x0, .int .u64 x1, .int .u64 x2, .int .u64 x3, .int .u64 x4] 27), (n + 1, .cells (VI .u8 s) 23)] W7) := hN
  have HNE : Hid (∀ p ∈ ([(gt, .cells (VI .u8 t) 30), (gc, .cells (VI .u8 c) 22), (gx, .cells #[.int .u64 x0, .int .u64 x1, .int .u64 x2, .int .u64 x3, .int .u64 x4] 27), (n + 1, .cells (VI .u8 s) 23)] : List (Nat × Obj)), p.1 ≠ gt + 1) := by
    have : ∀ p ∈ ([(gt, .cells (VI .u8 t) 30), (gc, .cells (VI .u8 c) 22), (gx, .cells #[.int .u64 x0, .int .u64 x1, .int .u64 x2, .int .u64 x3, .int .u64 x4] 27), (n + 1, .cells (VI .u8 s) 23)] : List (Nat × Obj)), p.1 ≠ gt + 1 := by
      simp only [List.mem_cons, List.not_mem_nil, or_false, forall_eq_or_imp, forall_eq]
      omega
    exact this
  rw [hW6]
  simp only [hg]
  clear hN hW6 hW7 hg X5' hlx hlc hls
  go_wp2
  go_loopw [9, 10] (fun o i w' => ∃ k : Nat, k ≤ 16 ∧ i = .int .i64 k ∧ o = .int .i64 (cr c s k) ∧ Bx w [(gt + 1, .cells (VI .u8 ((smt c s).take k ++ (List.replicate 16 (0 : Int)).drop k)) 30), (gt, .cells (VI .u8 t) 30), (gc, .cells (VI .u8 c) 22), (gx, .cells #[.int .u64 x0, .int .u64 x1, .int .u64 x2, .int .u64 x3, .int .u64 x4] 27), (n + 1, .cells (VI .u8 s) 23)] w') (fun _ i _ => 16 - (intOf i).toNat)
  case atStart => exact ⟨0, Nat.zero_le _, rfl, rfl, X7.out⟩
  case round =>
    clear X7 hW7' hs6
    obtain ⟨k, hk, rfl, rfl, hp⟩ := hrel
    by_cases hlt : k < 16
    · have hcc := rowB_cell (hp.row (g := gc) (x := .cells (VI .u8 c) 22) (by simp)) (i := k) (by rw [HKC.out.len]; omega)
      have hcs := rowB_cell (hp.row (g := n + 1) (x := .cells (VI .u8 s) 23) (by simp)) (i := k) (by rw [HKS.out.len]; omega)
      have hrt := hp.rows _ (List.mem_cons_self ..)
      have hct := rowB_cell hrt (i := k) (by simp; omega)
      have hfz : wr.frozen? ⟨gt + 1, k, none⟩ = false := frozen_of_row wr _ _ _ _ hrt
      obtain ⟨b0, b1⟩ := byte_at HKC.out.bd k
      obtain ⟨s0, s1⟩ := byte_at HKS.out.bd k
      obtain ⟨d0, d1⟩ := cr_bd HKC.out.bd HKS.out.bd k
      have hst := hp.set HNE.out k ((smt c s)[k]'(by simpa using hlt))
      rw [set_step _ _ _ (by simpa using hlt) (by simpa using hlt), smt_at _ _ _ hlt] at hst
      have hst' := hst
      rw [show cr c s k + (c.getD k 0 + s.getD k 0) = cr c s k + c.getD k 0 + s.getD k 0 by omega] at hst'
      have HST : Hid _ := hst'
      have HCR : Hid (cr c s (k + 1) = (cr c s k + c.getD k 0 + s.getD k 0) / 256) := by
        have : cr c s (k + 1) = (cr c s k + (c.getD k 0 + s.getD k 0)) / 256 := rfl
        rw [this, Int.add_assoc]
        exact rfl
      clear hp hst hst' hrt
      generalize cr c s k = o at *
      generalize c.getD k 0 = x at *
      generalize s.getD k 0 = y at *
      generalize List.getD _ k 0 = zz at hct
      go_wp2
      go_region
      go_wp2
      go_roundw
      case rel => exact ⟨k + 1, by omega, by go_num, by rw [HCR.out], HST.out.drew⟩
      case measure => simp [intOf]; omega
    · have hk' : k = 16 := by omega
      subst hk'
      rw [List.take_of_length_le (by simp), List.drop_of_length_le (by simp), List.append_nil, HT.out] at hp
      have X8 := hp.new (.cells (VI .u8 (List.replicate 16 0)) 23)
      obtain ⟨gn, hg⟩ : ∃ g, wr.heap.size = g := ⟨_, rfl⟩
      obtain ⟨W8, hW8⟩ : ∃ W, wr.alloc (.cells (VI .u8 (List.replicate 16 0)) 23) = W := ⟨_, rfl⟩
      have hW8' : wr.alloc (.cells #[.int .u8 0, .int .u8 0, .int .u8 0, .int .u8 0, .int .u8 0, .int .u8 0, .int .u8 0, .int .u8 0, .int .u8 0, .int .u8 0, .int .u8 0, .int .u8 0, .int .u8 0, .int .u8 0, .int .u8 0, .int .u8 0] 23) = W8 := hW8
      rw [hW8, hg] at X8
      have X8' : Hid _ := X8
      obtain ⟨c0, c1, c2, c3, c4⟩ := cells5 (X8.row (g := gx) (x := .cells #[.int .u64 x0, .int .u64 x1, .int .u64 x2, .int .u64 x3, .int .u64 x4] 27) (by simp))
      clear X8 hp hlt hk hW8
      rw [show ((16 : Nat) : Int) = 16 from rfl]
      go_wp2_with (first | (with_reducible refine at_list ?_; refine wpList_load_row rfl 23 (.tmp 11) rfl gn rfl 23 (VI .u8 (List.replicate 16 0)) (0, 0) _ (X8'.out.row (by simp)) Try.underlying23 rfl zero_key.info ?_))
      refine (CZ.out _).mono ?_
      rintro e W9 ⟨rfl, hb⟩
      have X9 := X8'.out.below hb
      clear hb X8' CZ c0 c1 c2 c3 c4 hW8' hg
      have X9' : Hid _ := X9
      clear X9
      go_wp2_with (with_reducible refine at_list ?_; refine hold_store 30 (.tmp 12) (.tmp 45) rfl ?_)
      refine store_row_new rfl 30 (.tmp 12) (.tmp 45) rfl W9.heap.size (VI .u8 z) rfl rfl rfl 30 (VI .u8 (List.replicate 16 0)) HKZ.out.infoT (by rw [VI_size, VI_size, HKZ.out.len]; rfl) (VI_one _ _) ?_
      have hN := X9'.out.new (.cells (VI .u8 z) 30)
      obtain ⟨gz, hg⟩ : ∃ g, W9.heap.size = g := ⟨_, rfl⟩
      obtain ⟨WA, hWA⟩ : ∃ W, W9.alloc (.cells (VI .u8 z) 30) = W := ⟨_, rfl⟩
      rw [hWA, hg] at hN
      have XA : Hid (Bx w [(gz, .cells (VI .u8 z) 30), (gt + 1, .cells (VI .u8 t) 30), (gt, .cells (VI .u8 t) 30), (gc, .cells (VI .u8 c) 22)] WA) := hN.sub (by simp)
      rw [hWA]
      simp only [hg]
      clear hN hWA hg X9'
      go_wp2
      go_loopw [13] (fun i w' => ∃ j : Nat, j ≤ 16 ∧ i = .int .i64 j ∧ Bx w [(gz, .cells (VI .u8 z) 30), (gt + 1, .cells (VI .u8 t) 30), (gt, .cells (VI .u8 t) 30), (gc, .cells (VI .u8 c) 22)] w') (fun i _ => 16 - (intOf i).toNat)
      case atStart => exact ⟨0, Nat.zero_le _, rfl, XA.out⟩
      case round =>
        clear XA
        obtain ⟨j, hj, rfl, hp⟩ := hrel
        have HX : Hid (Bx w [(gz, .cells (VI .u8 z) 30), (gt + 1, .cells (VI .u8 t) 30), (gt, .cells (VI .u8 t) 30), (gc, .cells (VI .u8 c) 22)] wr) := hp
        by_cases hlt : j < 16
        · have h1 := rowB_cell (hp.row (g := gz) (x := .cells (VI .u8 z) 30) (by simp)) (i := j) (by rw [HKZ.out.len]; omega)
          have h2 := rowB_cell (hp.row (g := gc) (x := .cells (VI .u8 c) 22) (by simp)) (i := j) (by rw [HKC.out.len]; omega)
          rw [HZ.out j hlt] at h1
          clear hp
          generalize c.getD j 0 = y at *
          go_wp2
          go_region
          go_wp2
          go_roundw
          case rel => exact ⟨j + 1, by omega, by go_num, HX.out.drew⟩
          case measure => simp [intOf]; omega
        · have hj' : j = 16 := by omega
          subst hj'
          have hq := HQ.out
          clear hp hlt hj
          rw [show ((16 : Nat) : Int) = 16 from rfl]
          go_wp2_with (first | (with_reducible refine at_list ?_; first | (refine wpList_load_row rfl 30 (.tmp 7) rfl gt rfl 30 (VI .u8 t) (0, 0) _ (HX.out.row (by simp)) Try.underlying30 rfl HKT.out.infoT ?_) | (refine wpList_load_row rfl 30 (.tmp 8) rfl (gt + 1) rfl 30 (VI .u8 t) (0, 0) _ (HX.out.row (by simp)) Try.underlying30 rfl HKT.out.infoT ?_)))
          refine (known_f.out _).mono ?_
          rintro e WB ⟨rfl, hb⟩
          have XB := HX.out.below hb
          go_wp2
          go_ret
          exact ⟨rfl, hn ▸ XB.old⟩
end Go.Proofs.Ytfeoamkngnpcmab
