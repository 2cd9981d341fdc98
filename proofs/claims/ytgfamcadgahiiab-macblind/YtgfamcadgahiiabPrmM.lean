import Derived.Test.YtgfamcadgahiiabPrmO
namespace Go.Proofs.Ytgfamcadgahiiab
set_option linter.unusedSimpArgs false
open Go.ChangeShapes Go.WideShapes Go.ChangeAt Go.RowKit Go.Pin Go.Prm
/-- Mul's boxes: the row -/
structure MW1 (n : Nat) (W' : World) (a b R : List Int) (wr : World) : Prop where
  grow : Grow (fun k => n ≤ k ∧ k < n + 3) W' wr
  n3 : n + 3 ≤ W'.heap.size
  sz : wr.heap.size = W'.heap.size + 1
  ha : rowAt wr n a 69
  hb : rowAt wr (n + 1) b 69
  hr : rowAt wr (n + 2) (List.replicate 5 0) 69
  row : rowAt wr W'.heap.size R 93
theorem MW1.start {n : Nat} {W' : World} {a b : List Int} (h : AW n W' a b W') : MW1 n W' a b (List.replicate 10 0) (W'.alloc (.cells (VI .u64 (List.replicate 10 0)) 93)) := by
  have hs := h.sz
  refine ⟨(Grow.refl _ _).bel ((Below.refl _ _).alloc (Nat.le_refl _) _), hs, by simp [size_alloc], ?_, ?_, ?_, ?_⟩
  all_goals simp only [rowAt, heap_alloc_any]
  · rw [if_neg (by omega)]; exact h.ha
  · rw [if_neg (by omega)]; exact h.hb
  · rw [if_neg (by omega)]; exact h.hr
  · rw [if_pos trivial]
theorem MW1.set {n : Nat} {W' wr : World} {a b R : List Int} (h : MW1 n W' a b R wr) (i : Nat) (v : Int) : MW1 n W' a b (R.set i v) (wr.setCell ⟨W'.heap.size, i, none⟩ (.int .u64 v)) := by
  obtain ⟨h1, h0, h2, h3, h4, h5, h6⟩ := h
  exact ⟨h1.setCell (.inr (Nat.le_refl _)) _, h0, by simpa using h2, row_other h3 (by simp; omega) _, row_other h4 (by simp; omega) _, row_other h5 (by simp; omega) _, row_set h6 _ _⟩
structure MW2 (n : Nat) (W' : World) (a R c : List Int) (wr : World) : Prop where
  grow : Grow (fun k => n ≤ k ∧ k < n + 3) W' wr
  n3 : n + 3 ≤ W'.heap.size
  ha : rowAt wr n a 69
  hr : rowAt wr (n + 2) (List.replicate 5 0) 69
  row : rowAt wr W'.heap.size R 93
  lim : rowAt wr (W'.heap.size + 1) c 69
theorem MW1.next {n : Nat} {W' wr : World} {a b R : List Int} (h : MW1 n W' a b R wr) : MW2 n W' a R (List.replicate 5 0) (wr.alloc (.cells (VI .u64 (List.replicate 5 0)) 69)) := by
  obtain ⟨h1, h0, h2, h3, h4, h5, h6⟩ := h
  refine ⟨h1.bel ((Below.refl _ _).alloc (Nat.le_refl _) _), h0, ?_, ?_, ?_, ?_⟩
  all_goals simp only [rowAt, heap_alloc_any, h2]
  · rw [if_neg (by omega)]; exact h3
  · rw [if_neg (by omega)]; exact h5
  · rw [if_neg (by omega)]; exact h6
  · rw [if_pos trivial]
theorem MW2.set {n : Nat} {W' wr : World} {a R c : List Int} (h : MW2 n W' a R c wr) (i : Nat) (v : Int) : MW2 n W' a R (c.set i v) (wr.setCell ⟨W'.heap.size + 1, i, none⟩ (.int .u64 v)) := by
  obtain ⟨h1, h0, h3, h5, h6, h7⟩ := h
  exact ⟨h1.setCell (.inr (by simp)) _, h0, row_other h3 (by simp; omega) _, row_other h5 (by simp; omega) _, row_other h6 (by simp) _, row_set h7 _ _⟩
theorem MW2.drew {n : Nat} {W' wr : World} {a R c : List Int} (h : MW2 n W' a R c wr) : MW2 n W' a R c wr.drew := ⟨h.grow.drew, h.n3, h.ha, h.hr, h.row, h.lim⟩
theorem MW2.up {n : Nat} {W' wr w2 : World} {a R c y : List Int} (h : MW2 n W' a R c wr) (hu : Up (W'.heap.size + 1) 69 y wr w2) : MW2 n W' a R y w2 := by
  have h0 := h.n3
  exact ⟨h.grow.but hu.but (fun k hk => .inr (by omega)), h0, (hu.but.block _ (by omega)).trans h.ha, (hu.but.block _ (by omega)).trans h.hr, (hu.but.block _ (by omega)).trans h.row, hu.row⟩
theorem sums_len (a b : List Int) : (sums a b).length = 5 := rfl
theorem sums_get (a b : List Int) (k : Nat) (hk : k < 5) : (sums a b)[k]'(by rw [sums_len]; exact hk) = sm a (rw10 b) k 5 := by
  have h5 : k = 0 ∨ k = 1 ∨ k = 2 ∨ k = 3 ∨ k = 4 := by omega
  rcases h5 with rfl | rfl | rfl | rfl | rfl <;> rfl
set_option maxRecDepth 100000 in
set_option maxHeartbeats 8000000 in
theorem mul_any (rv : Value) (a b : List Int) (ha : Lim a) (hb : Lim b) (w : World) (Q : World → World → Prop) (hq : Opc rv 12 w Q) :
    Calls Try.prog 34 #[rv, .agg (VI .u64 a), .agg (VI .u64 b)] w fun e w' => e = .returned (.agg (VI .u64 (prod a b))) ∧ Opd Q w w' := by
  have HA : Hid (Lim a) := ha
  have HB : Hid (Lim b) := hb
  have HQ : Hid (Opc rv 12 w Q) := hq
  obtain ⟨r1, r2, r3, hs, hbw⟩ := alloc3_rows w a b
  obtain ⟨W, hW⟩ : ∃ W, ((w.alloc (.cells (VI .u64 a) 69)).alloc (.cells (VI .u64 b) 69)).alloc (.cells (VI .u64 (List.replicate 5 0)) 69) = W := ⟨_, rfl⟩
  have hW' : ((w.alloc (.cells (VI .u64 a) 69)).alloc (.cells (VI .u64 b) 69)).alloc (.cells #[.int .u64 0, .int .u64 0, .int .u64 0, .int .u64 0, .int .u64 0] 69) = W := hW
  rw [hW] at r1 r2 r3 hs hbw
  have HS : Hid (W.heap.size = w.heap.size + 3) := hs
  have HBW : Hid (Below w.heap.size w W) := hbw
  have HAW : Hid (∀ W1, Grow (fun k => k < w.heap.size) W W1 → AW w.heap.size W1 a b W1) := fun W1 hg => AW.start r1 r2 r3 hs hg
  obtain ⟨sb, sl⟩ := sums_bd ha hb
  have HSB : Hid (∀ x ∈ sums a b, 0 ≤ x ∧ x < 1152921504606846976) := sb
  clear hW r1 r2 r3 hs hbw hq ha hb sb
  go_enter Try.func34, Try.ntmps34
  go_wp2_with (go_at_call 39; refine (HQ.out.call _ HBW.out).mono ?_; rintro e W1 ⟨rfl, hQ⟩; have hp := HAW.out W1 (HQ.out.keep _ _ HBW.out hQ); have HP : Hid (MW1 w.heap.size W1 a b (List.replicate 10 0) (W1.alloc (.cells (VI .u64 (List.replicate 10 0)) 93))) := MW1.start hp; have HD : Hid (∀ w', Grow (fun k => w.heap.size ≤ k ∧ k < w.heap.size + 3) W1 w' → Opd Q w w') := (fun w' hg => ⟨W, W1, HBW.out, hQ, hg.mono (fun k hk => by rw [HS.out]; exact hk)⟩); clear hp HAW hQ hW' HQ HBW HS)
  obtain ⟨n, hn⟩ : ∃ n, w.heap.size = n := ⟨_, rfl⟩
  obtain ⟨G, hG⟩ : ∃ G, W1.heap.size = G := ⟨_, rfl⟩
  simp only [hn, hG] at HP HD ⊢
  go_loopw [14] (fun i w' => ∃ (k : Nat) (R : List Int), k ≤ 5 ∧ i = .int .i64 k ∧ R.length = 10 ∧ (∀ j, j < k → R.getD j 0 = 5 * b.getD j 0 ∧ R.getD (j + 5) 0 = b.getD j 0) ∧ MW1 n W1 a b R w') (fun i _ => 5 - (intOf i).toNat)
  case atStart => exact ⟨0, List.replicate 10 0, Nat.zero_le _, rfl, rfl, fun j hj => absurd hj (Nat.not_lt_zero j), HP.out⟩
  case round =>
    clear HP
    obtain ⟨k, R, hk, rfl, hl, hR, hp⟩ := hrel
    by_cases hlt : k < 5
    · have hcb := row_cell hp.hb (i := k) (by rw [HB.out.len]; exact hlt)
      have hc1 := row_cell hp.row (i := k) (by omega)
      have hc2 := row_cell hp.row (i := k + 5) (by omega)
      have hf1 : wr.frozen? ⟨W1.heap.size, k, none⟩ = false := frozen_of_row wr _ _ _ _ hp.row
      have hf2 : wr.frozen? ⟨W1.heap.size, k + 5, none⟩ = false := frozen_of_row wr _ _ _ _ hp.row
      have hn3 := hp.n3
      have hbk := lim_at HB.out hlt
      have HS : Hid (MW1 n W1 a b ((R.set k (5 * b.getD k 0)).set (k + 5) (b.getD k 0)) ((wr.setCell ⟨W1.heap.size, k, none⟩ (.int .u64 (5 * b.getD k 0))).setCell ⟨W1.heap.size, k + 5, none⟩ (.int .u64 (b.getD k 0)))) := (hp.set _ _).set _ _
      have HF : Hid (∀ j, j < k + 1 → ((R.set k (5 * b.getD k 0)).set (k + 5) (b.getD k 0)).getD j 0 = 5 * b.getD j 0 ∧ ((R.set k (5 * b.getD k 0)).set (k + 5) (b.getD k 0)).getD (j + 5) 0 = b.getD j 0) := fill_step b R k hl hlt hR
      have hlen : Hid (((R.set k (5 * b.getD k 0)).set (k + 5) (b.getD k 0)).length = 10) := by
        have : ((R.set k (5 * b.getD k 0)).set (k + 5) (b.getD k 0)).length = 10 := by simpa using hl
        exact this
      rw [hG] at hc1 hc2 hf1 hf2 hn3 HS
      obtain ⟨q0, q1⟩ := hbk
      clear hp hR hl
      generalize hbk : b.getD k 0 = bk at *
      generalize R.getD k 0 = rk1 at *
      generalize R.getD (k + 5) 0 = rk2 at *
      have HK : Hid (b.getD k 0 = bk) := hbk
      clear hbk
      go_wp2
      go_roundw
      case rel =>
        exact ⟨k + 1, _, by omega, by go_num, hlen.out, HF.out, HS.out⟩
      case measure => simp [intOf]; omega
    · have hk' : k = 5 := by omega
      subst hk'
      have hR10 : R = rw10 b := fill_done b R hl HB.out.len hR
      subst hR10
      have HN : Hid (MW2 n W1 a (rw10 b) (List.replicate 5 0) (wr.alloc (.cells (VI .u64 (List.replicate 5 0)) 69))) := hp.next
      obtain ⟨w1, hw1⟩ : ∃ w1, wr.alloc (.cells (VI .u64 (List.replicate 5 0)) 69) = w1 := ⟨_, rfl⟩
      have hw1' : wr.alloc (.cells #[.int .u64 0, .int .u64 0, .int .u64 0, .int .u64 0, .int .u64 0] 69) = w1 := hw1
      have hs : wr.heap.size = G + 1 := by rw [← hG]; exact hp.sz
      rw [hw1] at HN
      clear hp hR hl hk hlt hw1
      rw [show ((5 : Nat) : Int) = 5 from rfl]
      go_wp2
      go_loopw [32] (fun i w' => ∃ p : Nat, p ≤ 5 ∧ i = .int .i64 p ∧ MW2 n W1 a (rw10 b) ((sums a b).take p ++ (List.replicate 5 (0 : Int)).drop p) w') (fun i _ => 5 - (intOf i).toNat)
      case atStart => exact ⟨0, Nat.zero_le _, rfl, HN.out⟩
      case round =>
        clear HN hw1' hs
        clear w1
        obtain ⟨p, hpl, rfl, hp⟩ := hrel
        by_cases hlt : p < 5
        · have HS : Hid (MW2 n W1 a (rw10 b) (((sums a b).take p ++ (List.replicate 5 (0 : Int)).drop p).set p (sm a (rw10 b) p 0)) wr) := by
            have : (((sums a b).take p ++ (List.replicate 5 (0 : Int)).drop p).set p (sm a (rw10 b) p 0)) = (sums a b).take p ++ (List.replicate 5 (0 : Int)).drop p := by
              have h5 : p = 0 ∨ p = 1 ∨ p = 2 ∨ p = 3 ∨ p = 4 := by omega
              rcases h5 with rfl | rfl | rfl | rfl | rfl <;> rfl
            rw [this]; exact hp
          clear hp
          go_wp2
          go_loopw [35] (fun i w' => ∃ k : Nat, k ≤ 5 ∧ i = .int .i64 k ∧ MW2 n W1 a (rw10 b) (((sums a b).take p ++ (List.replicate 5 (0 : Int)).drop p).set p (sm a (rw10 b) p k)) w') (fun i _ => 5 - (intOf i).toNat)
          case atStart => exact ⟨0, Nat.zero_le _, rfl, HS.out⟩
          case round =>
            clear HS
            obtain ⟨k, hk, rfl, hp⟩ := hrel
            by_cases hlt' : k < 5
            · obtain ⟨j, hj⟩ : ∃ j : Nat, j = p + 5 - k := ⟨_, rfl⟩
              have hj' : (p : Int) - k + 5 = (j : Int) := by omega
              have hj10 : j < 10 := by omega
              have hca := row_cell hp.ha (i := k) (by rw [HA.out.len]; exact hlt')
              have hcr := row_cell hp.row (i := j) (by rw [rw10_len HB.out.len]; omega)
              have hcl := row_cell hp.lim (i := p) (by simp [sums_len]; omega)
              rw [show (((sums a b).take p ++ (List.replicate 5 (0 : Int)).drop p).set p (sm a (rw10 b) p k)).getD p 0 = sm a (rw10 b) p k by
                rw [List.getD_eq_getElem?_getD, List.getElem?_set_self (by simp [sums_len]; omega)]; rfl] at hcl
              have hfz : wr.frozen? ⟨W1.heap.size + 1, p, none⟩ = false := frozen_of_row wr _ _ _ _ hp.lim
              obtain ⟨y0, y1⟩ := lim_at HA.out hlt'
              obtain ⟨z0, z1⟩ := rw10_at HB.out hj10
              obtain ⟨s0, s1⟩ := sm_bd HA.out HB.out p k
              obtain ⟨m0, m1⟩ := bdq y0 y1 z0 z1
              have HST : Hid (MW2 n W1 a (rw10 b) (((sums a b).take p ++ (List.replicate 5 (0 : Int)).drop p).set p (sm a (rw10 b) p (k + 1))) (wr.setCell ⟨W1.heap.size + 1, p, none⟩ (.int .u64 (sm a (rw10 b) p k + a.getD k 0 * (rw10 b).getD j 0)))) := by
                have := hp.set p (sm a (rw10 b) p k + a.getD k 0 * (rw10 b).getD j 0)
                rw [List.set_set, hj] at this
                rw [hj]
                exact this
              have hn3 := hp.n3
              rw [hG] at hcr hcl hfz HST hn3
              clear hp
              generalize sm a (rw10 b) p k = s at *
              generalize a.getD k 0 = x at *
              generalize (rw10 b).getD j 0 = y at *
              have hw1 : IntKind.u64.wrap (x * y) = x * y := by rw [IntKind.wrap_u64]; omega
              have hw2 : IntKind.u64.wrap (s + x * y) = s + x * y := by rw [IntKind.wrap_u64]; omega
              have HJ : Hid (j = p + 5 - k) := hj
              clear hj y0 y1 z0 z1 s0 s1 m0 m1
              go_wp2
              go_region
              go_wp2
              go_roundw
              case rel => exact ⟨k + 1, by omega, by go_num, HST.out.drew⟩
              case measure => simp [intOf]; omega
            · have hk' : k = 5 := by omega
              subst hk'
              rw [← sums_get a b p hlt, set_step _ _ _ (by rw [sums_len]; exact hlt) (by simpa using hlt)] at hp
              have HP : Hid (MW2 n W1 a (rw10 b) ((sums a b).take (p + 1) ++ (List.replicate 5 (0 : Int)).drop (p + 1)) wr) := hp
              clear hp
              rw [show ((5 : Nat) : Int) = 5 from rfl]
              go_wp2
              go_roundw
              case rel => exact ⟨p + 1, by omega, by go_num, HP.out⟩
              case measure => simp [intOf]; omega
        · have hp' : p = 5 := by omega
          subst hp'
          rw [List.take_of_length_le (by rw [sums_len]; omega), List.drop_of_length_le (by simp), List.append_nil] at hp
          have HP : Hid (MW2 n W1 a (rw10 b) (sums a b) wr) := hp
          have hn3 := hp.n3
          have HSE : Hid (Calls Try.prog 40 #[.pointer (some ⟨G + 1, 0, none⟩)] wr fun e w' => e = .returned (.tuple #[]) ∧ Up (W1.heap.size + 1) 69 (stl (sums a b)) wr w') := by
            have := settle_any (W1.heap.size + 1) 69 (sums a b) sl HSB.out wr hp.lim
            rw [hG] at this ⊢
            exact this
          rw [hG] at hn3
          clear hp
          rw [show ((5 : Nat) : Int) = 5 from rfl]
          go_wp2_with (go_at_call 40; refine HSE.out.mono ?_; rintro e w2 ⟨rfl, hU⟩; have hp2 := HP.out.up hU; obtain ⟨x0, x1, x2, x3, x4, hxe, hx0, hx1, hx2, hx3, hx4, _, _, _, _, _⟩ := row5 hp2.lim (stl_lim _ sl HSB.out).1.len; obtain ⟨_, _, _, _, _, _, hy0, hy1, hy2, hy3, hy4, hz0, hz1, hz2, hz3, hz4⟩ := row5 hp2.hr (by simp); rw [hG] at hx0 hx1 hx2 hx3 hx4; have HP2 : Hid (MW2 n W1 a (rw10 b) (stl (sums a b)) w2) := hp2; clear hp2 hU)
          refine bodyPost_ret (v := .agg (VI .u64 [x0, x1, x2, x3, x4])) ?_ rfl ⟨by rw [prod, hxe.out], HD.out _ (((((HP2.out.grow.setCell ?_ _).setCell ?_ _).setCell ?_ _).setCell ?_ _).setCell ?_ _)⟩
          · exact results_cell_row (P := Try.prog) (fn := Try.f34) (p := 6) (ty := 69) rfl _ _ (n + 1 + 1) 69 (VI .u64 [x0, x1, x2, x3, x4]) (0, 0) _ rfl (store5 HP2.out.hr x0 x1 x2 x3 x4) Try.underlying69 rfl infoE
          all_goals (left; simp; omega)
end Go.Proofs.Ytgfamcadgahiiab
