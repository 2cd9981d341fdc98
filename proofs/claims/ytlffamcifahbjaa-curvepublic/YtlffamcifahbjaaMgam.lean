import Derived.Test.YtlffamcifahbjaaMgal
namespace Go.Proofs.Ytlffamcifahbjaa
set_option linter.unusedSimpArgs false
open Go.ChangeShapes Go.WideShapes Go.ChangeAt Go.RowKit Go.Pin Go.Fld
theorem D_set : ∀ (L : List Int) (j : Nat), j < L.length → ∀ v, D (L.set j (L.getD j 0 + v)) = D L + v * 65536 ^ j
  | [], j, h, _ => by simp at h
  | x :: L, 0, _, v => by simp only [List.set_cons_zero, List.getD_cons_zero, D_cons, Int.pow_zero]; omega
  | x :: L, j + 1, h, v => by
    have ih := D_set L j (by simpa using h) v
    simp only [List.set_cons_succ, List.getD_cons_succ, D_cons, ih, Int.pow_succ]
    grind
theorem D_take : ∀ (L : List Int) (k : Nat), k < L.length → D (L.take (k + 1)) = D (L.take k) + L.getD k 0 * 65536 ^ k
  | [], k, h => by simp at h
  | x :: L, 0, _ => by simp [D]
  | x :: L, k + 1, h => by
    have ih := D_take L k (by simpa using h)
    simp only [List.take_succ_cons, D_cons, ih, List.getD_cons_succ, Int.pow_succ]
    grind
/-- what the two loops of Mul know of w -/
structure MI (n m : Nat) (i k : Nat) (L : List Int) : Prop where
  len : L.length = 32
  bd : ∀ x ∈ L, 0 ≤ x ∧ x ≤ (16 * i + k : Nat) * 4294967296
  val : D L = D ((dg n).take i) * D (dg m) + (dg n).getD i 0 * 65536 ^ i * D ((dg m).take k)
theorem MI.step {n m i k : Nat} {L : List Int} (h : MI n m i k L) (hi : i < 16) (hk : k < 16) : MI n m i (k + 1) (L.set (i + k) (L.getD (i + k) 0 + (dg n).getD i 0 * (dg m).getD k 0)) := by
  obtain ⟨x0, x1⟩ := dg_bd n i
  obtain ⟨y0, y1⟩ := dg_bd m k
  have hp : 0 ≤ (dg n).getD i 0 * (dg m).getD k 0 ∧ (dg n).getD i 0 * (dg m).getD k 0 ≤ 4294967296 :=
    ⟨Int.mul_nonneg x0 y0, by have := Int.mul_le_mul_of_nonneg_right (show (dg n).getD i 0 ≤ 65536 by omega) y0; omega⟩
  refine ⟨by simp [h.len], fun x hx => ?_, ?_⟩
  · rcases List.mem_or_eq_of_mem_set hx with hx | rfl
    · have := h.bd x hx; omega
    · have := h.bd _ (getD_mem (t := L) (i := i + k) (by rw [h.len]; omega)); omega
  · rw [D_set L (i + k) (by rw [h.len]; omega), h.val, D_take (dg m) k (by simpa using hk), Int.pow_add]
    grind
theorem MI.next {n m i : Nat} {L : List Int} (h : MI n m i 16 L) (hi : i < 16) : MI n m (i + 1) 0 L := by
  refine ⟨h.len, fun x hx => by have := h.bd x hx; omega, ?_⟩
  have hd : (dg m).take 16 = dg m := List.take_of_length_le (by simp)
  rw [h.val, hd, D_take (dg n) i (by simpa using hi)]
  simp only [List.take_zero, D]
  grind
theorem MI.zero (n m : Nat) : MI n m 0 0 (List.replicate 32 0) := by
  refine ⟨by simp, fun x hx => by have := List.eq_of_mem_replicate hx; omega, ?_⟩
  have e : D (List.replicate 32 0) = 0 := by decide
  rw [e]; simp [D]
/-- folded once -/
def zmul (L : List Int) : List Int := (List.range 16).map fun i => L.getD i 0 + 38 * L.getD (i + 16) 0
theorem zmul_facts {n m : Nat} (hn : n < P) (hm : m < P) {L : List Int} (h : MI n m 16 0 L) : Big (zmul L) ∧ (D (zmul L)).toNat % P = n * m % P := by
  have hb : Big (zmul L) := ⟨by simp [zmul], fun x hx => by
    simp only [zmul, List.mem_map] at hx
    obtain ⟨i, hi, rfl⟩ := hx
    have hi' : i < 16 := by simpa using hi
    have h1 := h.bd _ (getD_mem (t := L) (i := i) (by rw [h.len]; omega))
    have h2 := h.bd _ (getD_mem (t := L) (i := i + 16) (by rw [h.len]; omega))
    omega⟩
  refine ⟨hb, ?_⟩
  have e : zmul L = List.zipWith (· + ·) (L.take 16) ((L.drop 16).map (38 * ·)) := by
    apply List.ext_getElem
    · simp [zmul, h.len]
    · intro i h1 h2
      have hi : i < 16 := by simpa [zmul] using h1
      simp only [zmul, List.getElem_map, List.getElem_range, List.getElem_zipWith, List.getElem_take, List.getElem_drop]
      rw [List.getD_eq_getElem?_getD, List.getElem?_eq_getElem (by rw [h.len]; omega), List.getD_eq_getElem?_getD, List.getElem?_eq_getElem (by rw [h.len]; omega)]
      simp [Nat.add_comm]
  have hmap : ∀ l : List Int, D (l.map (38 * ·)) = 38 * D l := fun l => by
    induction l with
    | nil => rfl
    | cons x l ih => simp only [List.map_cons, D_cons, ih]; omega
  have hD : D (zmul L) = D (L.take 16) + 38 * D (L.drop 16) := by rw [e, D_zip _ _ (by simp [h.len]), hmap]
  have hL : D L = D (L.take 16) + 65536 ^ 16 * D (L.drop 16) := by
    conv => lhs; rw [← List.take_append_drop 16 L]
    rw [D_app]; simp [h.len]
  have hv := h.val
  have hd : (dg n).take 16 = dg n := List.take_of_length_le (by simp)
  rw [hd, (Dig.of (P255 hn)).2, (Dig.of (P255 hm)).2] at hv
  simp only [List.take_zero, D, Int.mul_zero, Int.add_zero] at hv
  have e16 : (65536 : Int) ^ 16 = 115792089237316195423570985008687907853269984665640564039457584007913129639936 := by decide
  rw [e16] at hL
  have hpos : 0 ≤ D (zmul L) := by
    obtain ⟨hd', h2, h3, _⟩ := car_facts hb
    have := hd'.lt
    omega
  have e1 : (((D (zmul L)).toNat % P : Nat) : Int) = D (zmul L) % 57896044618658097711785492504343953926634992332820282019728792003956564819949 := by
    rw [Int.natCast_emod, Int.toNat_of_nonneg hpos]; rfl
  have e2 : ((n * m % P : Nat) : Int) = ((n : Int) * (m : Int)) % 57896044618658097711785492504343953926634992332820282019728792003956564819949 := by
    rw [Int.natCast_emod, Int.natCast_mul]; rfl
  rw [← hv, hL] at e2
  rw [hD] at e1
  have e3 : (D (L.take 16) + 115792089237316195423570985008687907853269984665640564039457584007913129639936 * D (L.drop 16)) % 57896044618658097711785492504343953926634992332820282019728792003956564819949 = (D (L.take 16) + 38 * D (L.drop 16)) % 57896044618658097711785492504343953926634992332820282019728792003956564819949 := by
    rw [show D (L.take 16) + 115792089237316195423570985008687907853269984665640564039457584007913129639936 * D (L.drop 16) = D (L.take 16) + 38 * D (L.drop 16) + 57896044618658097711785492504343953926634992332820282019728792003956564819949 * (2 * D (L.drop 16)) by omega, Int.add_mul_emod_self_left]
  rw [e3, ← e1] at e2
  rw [hD]
  exact (Int.ofNat_inj.1 e2).symm
structure KWr (n : Nat) (w : World) (a b L : List Int) (wr : World) : Prop where
  old : Below n w wr
  sz : n + 4 ≤ wr.heap.size
  ha : rowI wr n a 65
  hb : rowI wr (n + 1) b 65
  hr : rowI wr (n + 2) (List.replicate 16 0) 65
  hl : rowI wr (n + 3) L 91
theorem KWr.set {n : Nat} {w wr : World} {a b L : List Int} (h : KWr n w a b L wr) (i : Nat) (v : Int) : KWr n w a b (L.set i v) (wr.setCell ⟨n + 3, i, none⟩ (.int .i64 v)) :=
  ⟨h.old.setCell (by simp) _, by simpa using h.sz, row_other h.ha (by simp) _, row_other h.hb (by simp) _, row_other h.hr (by simp) _, rowI_set h.hl _ _⟩
theorem KWr.below {n : Nat} {w wr w' : World} {a b L : List Int} (h : KWr n w a b L wr) (k : Below (n + 4) wr w') : KWr n w a b L w' :=
  ⟨h.old.trans (k.mono (by omega)), Nat.le_trans h.sz k.size, (k.block _ (by omega)).trans h.ha, (k.block _ (by omega)).trans h.hb, (k.block _ (by omega)).trans h.hr, (k.block _ (by omega)).trans h.hl⟩
theorem kwr_start (w : World) (a b : List Int) : KWr w.heap.size w a b (List.replicate 32 0) ((((w.alloc (.cells (VI .i64 a) 65)).alloc (.cells (VI .i64 b) 65)).alloc (.cells (VI .i64 (List.replicate 16 0)) 65)).alloc (.cells (VI .i64 (List.replicate 32 0)) 91)) := by
  refine ⟨((((Below.refl _ _).alloc (Nat.le_refl _) _).alloc (by simp) _).alloc (by simp; omega) _).alloc (by simp; omega) _, by simp [size_alloc], ?_, ?_, ?_, ?_⟩
  all_goals simp only [rowI, heap_alloc_any, size_alloc]
  · rw [if_neg (by omega), if_neg (by omega), if_neg (by omega), if_pos trivial]
  · rw [if_neg (by omega), if_neg (by omega), if_pos trivial]
  · rw [if_neg (by omega), if_pos trivial]
  · rw [if_pos trivial]
set_option maxRecDepth 100000 in
set_option maxHeartbeats 8000000 in
theorem rmul_any (n m : Nat) (hn : n < P) (hm : m < P) (w : World) :
    Calls Try.prog 35 #[.agg (VI .i64 (dg n)), .agg (VI .i64 (dg m))] w fun e w' => e = .returned (.agg (VI .i64 (dg (n * m % P)))) ∧ Below w.heap.size w w' := by
  have hst := kwr_start w (dg n) (dg m)
  obtain ⟨W, hW⟩ : ∃ W, (((w.alloc (.cells (VI .i64 (dg n)) 65)).alloc (.cells (VI .i64 (dg m)) 65)).alloc (.cells (VI .i64 (List.replicate 16 0)) 65)).alloc (.cells (VI .i64 (List.replicate 32 0)) 91) = W := ⟨_, rfl⟩
  rw [hW] at hst
  have hW' : (((w.alloc (.cells (VI .i64 (dg n)) 65)).alloc (.cells (VI .i64 (dg m)) 65)).alloc (.cells #[.int .i64 0, .int .i64 0, .int .i64 0, .int .i64 0, .int .i64 0, .int .i64 0, .int .i64 0, .int .i64 0, .int .i64 0, .int .i64 0, .int .i64 0, .int .i64 0, .int .i64 0, .int .i64 0, .int .i64 0, .int .i64 0] 65)).alloc (.cells #[.int .i64 0, .int .i64 0, .int .i64 0, .int .i64 0, .int .i64 0, .int .i64 0, .int .i64 0, .int .i64 0, .int .i64 0, .int .i64 0, .int .i64 0, .int .i64 0, .int .i64 0, .int .i64 0, .int .i64 0, .int .i64 0, .int .i64 0, .int .i64 0, .int .i64 0, .int .i64 0, .int .i64 0, .int .i64 0, .int .i64 0, .int .i64 0, .int .i64 0, .int .i64 0, .int .i64 0, .int .i64 0, .int .i64 0, .int .i64 0, .int .i64 0, .int .i64 0] 91) = W := hW
  have HST : Hid (KWr w.heap.size w (dg n) (dg m) (List.replicate 32 0) W) := hst
  have HNM : Hid (n < P ∧ m < P) := ⟨hn, hm⟩
  clear hW hst hn hm
  go_enter Try.func35, Try.ntmps35
  go_wp2
  go_loopw [6] (fun i w' => ∃ (k : Nat) (L : List Int), k ≤ 16 ∧ i = .int .i64 k ∧ MI n m k 0 L ∧ KWr w.heap.size w (dg n) (dg m) L w') (fun i _ => 16 - (intOf i).toNat)
  case atStart => exact ⟨0, _, Nat.zero_le _, rfl, MI.zero n m, HST.out⟩
  case round =>
    clear HST hW'
    obtain ⟨i, L, hi, rfl, hmi, hp⟩ := hrel
    by_cases hlt : i < 16
    · have HM0 : Hid (MI n m i 0 L) := hmi
      have HP0 : Hid (KWr w.heap.size w (dg n) (dg m) L wr) := hp
      have hid : decide ((i : Int) < 16) = true := by simp; omega
      clear hmi hp
      go_wp2
      go_loopw [7] (fun j w' => ∃ (k : Nat) (L : List Int), k ≤ 16 ∧ j = .int .i64 k ∧ MI n m i k L ∧ KWr w.heap.size w (dg n) (dg m) L w') (fun j _ => 16 - (intOf j).toNat)
      case atStart => exact ⟨0, L, Nat.zero_le _, rfl, HM0.out, HP0.out⟩
      case round =>
        clear HM0 HP0
        obtain ⟨k, L, hk, rfl, hmi, hp⟩ := hrel
        by_cases hlk : k < 16
        · have hst := hp.set (i + k) (L.getD (i + k) 0 + (dg n).getD i 0 * (dg m).getD k 0)
          have hms := hmi.step hlt hlk
          have hca := rowI_cell hp.ha (i := i) (by simpa using hlt)
          have hcb := rowI_cell hp.hb (i := k) (by simpa using hlk)
          have hcl := rowI_cell hp.hl (i := i + k) (by rw [hmi.len]; omega)
          have hfz : wr.frozen? ⟨w.heap.size + 3, i + k, none⟩ = false := frozen_of_row wr _ _ _ _ hp.hl
          obtain ⟨x0, x1⟩ := dg_bd n i
          obtain ⟨y0, y1⟩ := dg_bd m k
          obtain ⟨z0, z1⟩ := hmi.bd _ (getD_mem (t := L) (i := i + k) (by rw [hmi.len]; omega))
          have hp1 : 0 ≤ (dg n).getD i 0 * (dg m).getD k 0 := Int.mul_nonneg x0 y0
          have hp2 : (dg n).getD i 0 * (dg m).getD k 0 ≤ 4294967296 := by have := Int.mul_le_mul_of_nonneg_right (show (dg n).getD i 0 ≤ 65536 by omega) y0; omega
          have z2 : L.getD (i + k) 0 ≤ 1099511627776 := by omega
          have hik : (i : Int) + (k : Int) = ((i + k : Nat) : Int) := by omega
          have hik32 : i + k < 32 := by omega
          have hikI : ((i + k : Nat) : Int) < 32 := by omega
          generalize i + k = ik at *
          generalize (dg n).getD i 0 = x at *
          generalize (dg m).getD k 0 = y at *
          generalize L.getD ik 0 = z at *
          have hw1 : IntKind.i64.wrap (x * y) = x * y := by rw [IntKind.wrap_i64]; omega
          have HS : Hid (KWr w.heap.size w (dg n) (dg m) (L.set ik (z + x * y)) (wr.setCell ⟨w.heap.size + 3, ik, none⟩ (.int .i64 (z + x * y)))) := hst
          have HM : Hid (MI n m i (k + 1) (L.set ik (z + x * y))) := hms
          clear hst hms hp hmi z1
          have hwz : IntKind.i64.wrap (z + x * y) = z + x * y := by rw [IntKind.wrap_i64]; omega
          go_wp2
          go_region
          go_wp2
          go_roundw
          case rel => exact ⟨k + 1, _, by omega, by go_num, HM.out, HS.out.below (Below.refl _ _).drew⟩
          case measure => simp [intOf]; omega
        · have hk' : k = 16 := by omega
          subst hk'
          have HM : Hid (MI n m (i + 1) 0 L) := hmi.next hlt
          have HP : Hid (KWr w.heap.size w (dg n) (dg m) L wr) := hp
          clear hmi hp
          go_wp2
          go_roundw
          case rel => exact ⟨i + 1, L, by omega, by go_num, HM.out, HP.out⟩
          case measure => simp [intOf]; omega
    · have hi' : i = 16 := by omega
      subst hi'
      obtain ⟨hbig, hmod⟩ := zmul_facts HNM.out.1 HNM.out.2 hmi
      have HWH : Hid (∀ w, Calls Try.prog 50 #[.agg (VI .i64 (zmul L))] w fun e w' => e = .returned (.agg (VI .i64 (dg (n * m % P)))) ∧ Below w.heap.size w w') := fun w => by
        have := whole_any _ hbig w
        rw [hmod] at this
        exact this
      have hzl : (zmul L).length = 16 := by simp [zmul]
      have HZL : Hid ((zmul L).length = 16) := hzl
      have HMI : Hid (MI n m 16 0 L) := hmi
      obtain ⟨G, hG⟩ : ∃ G, wr.heap.size = G := ⟨_, rfl⟩
      have hG4 : w.heap.size + 4 ≤ G := by rw [← hG]; exact hp.sz
      have hp2 : KWr w.heap.size w (dg n) (dg m) L (wr.alloc (.cells (VI .i64 (List.replicate 16 0)) 64)) ∧ rowI (wr.alloc (.cells (VI .i64 (List.replicate 16 0)) 64)) G (List.replicate 16 0) 64 := by
        refine ⟨hp.below ((Below.refl _ _).alloc hp.sz _), ?_⟩
        simp only [rowI, heap_alloc_any, hG, if_true]
      have HP2 : Hid (KWr w.heap.size w (dg n) (dg m) L (wr.alloc (.cells (VI .i64 (List.replicate 16 0)) 64)) ∧ rowI (wr.alloc (.cells (VI .i64 (List.replicate 16 0)) 64)) G (List.replicate 16 0) 64) := hp2
      clear hp hp2 hmi hbig hmod hlt hi
      rw [show ((16 : Nat) : Int) = 16 from rfl]
      go_wp2
      go_loopw [9] (fun j w' => ∃ k : Nat, k ≤ 16 ∧ j = .int .i64 k ∧ KWr w.heap.size w (dg n) (dg m) L w' ∧ rowI w' G ((zmul L).take k ++ (List.replicate 16 (0 : Int)).drop k) 64) (fun j _ => 16 - (intOf j).toNat)
      case atStart => exact ⟨0, Nat.zero_le _, rfl, HP2.out⟩
      case round =>
        clear HP2 hG
        obtain ⟨k, hk, rfl, hp, hpG⟩ := hrel
        by_cases hlk : k < 16
        · have es := set_stepD (zmul L) (List.replicate 16 (0 : Int)) k (by rw [hzl]; exact hlk) (by simpa using hlk)
          rw [show (zmul L).getD k 0 = L.getD k 0 + 38 * L.getD (k + 16) 0 from range_getD _ k hlk] at es
          have hst := rowI_set hpG k (L.getD k 0 + 38 * L.getD (k + 16) 0)
          rw [es] at hst
          have hc1 := rowI_cell hp.hl (i := k) (by rw [HMI.out.len]; omega)
          have hc2 := rowI_cell hp.hl (i := k + 16) (by rw [HMI.out.len]; omega)
          have hcl := rowI_cell hpG (i := k) (by rw [List.length_append, List.length_take, List.length_drop, hzl, List.length_replicate]; omega)
          have hfz : wr.frozen? ⟨G, k, none⟩ = false := frozen_of_row wr _ _ _ _ hpG
          obtain ⟨x0, x1⟩ := HMI.out.bd _ (getD_mem (t := L) (i := k) (by rw [HMI.out.len]; omega))
          obtain ⟨y0, y1⟩ := HMI.out.bd _ (getD_mem (t := L) (i := k + 16) (by rw [HMI.out.len]; omega))
          have x2 : L.getD k 0 ≤ 1099511627776 := by omega
          have y2 : L.getD (k + 16) 0 ≤ 1099511627776 := by omega
          generalize L.getD k 0 = x at *
          generalize L.getD (k + 16) 0 = y at *
          have HS : Hid (rowI (wr.setCell ⟨G, k, none⟩ (.int .i64 (x + 38 * y))) G ((zmul L).take (k + 1) ++ (List.replicate 16 (0 : Int)).drop (k + 1)) 64) := hst
          have HK : Hid (∀ v, KWr w.heap.size w (dg n) (dg m) L (wr.setCell ⟨G, k, none⟩ v)) := fun v => hp.below ((Below.refl _ _).setCell hG4 _)
          clear hp hpG hst es x1 y1
          generalize List.getD _ k 0 = zz at hcl
          go_wp2
          go_region
          go_wp2
          go_roundw
          case rel => exact ⟨k + 1, by omega, by go_num, (HK.out _).below (Below.refl _ _).drew, HS.out⟩
          case measure => simp [intOf]; omega
        · have hk' : k = 16 := by omega
          subst hk'
          rw [List.take_of_length_le (by rw [hzl]; omega), List.drop_of_length_le (by simp), List.append_nil] at hpG
          have HP : Hid (KWr w.heap.size w (dg n) (dg m) L wr) := hp
          have HG : Hid (rowI wr G (zmul L) 64) := hpG
          have hrl : (dg (n * m % P)).length = 16 := dg_len _
          generalize hres : dg (n * m % P) = res at *
          have HRES : Hid (dg (n * m % P) = res) := hres
          clear hres
          have HRL : Hid (res.length = 16) := hrl
          have HSZ : Hid ((VI .i64 (List.replicate 16 0)).size = (VI .i64 res).size) := by
            have : (VI .i64 (List.replicate 16 0)).size = (VI .i64 res).size := by rw [VI_size, VI_size, hrl, List.length_replicate]
            exact this
          clear hrl hp hpG hlk hk
          go_wp2_with (first | (go_at_call 50; refine (HWH.out wr).mono ?_; rintro e w4 ⟨rfl, hb4⟩; have HO4 : Hid (Below w.heap.size w w4) := HP.out.old.trans (hb4.mono (by have := HP.out.sz; omega)); have HR4 : Hid (rowI w4 (w.heap.size + 2) (List.replicate 16 0) 65) := (hb4.block _ (by have := HP.out.sz; omega)).trans HP.out.hr; clear hb4) | (with_reducible refine at_list ?_; first | (refine wpList_load_row rfl 64 (.tmp 8) rfl G rfl 64 (VI .i64 (zmul L)) (0, 0) _ HG.out Try.underlying64 rfl (info16 HZL.out) ?_) | (refine wpList_store_row rfl 65 (.tmp 4) (.tmp 51) rfl (w.heap.size + 1 + 1) (VI .i64 res) rfl rfl 65 (VI .i64 (List.replicate 16 0)) HR4.out (infoN16 HRL.out) HSZ.out (VI_one _ _) ?_)))
          refine bodyPost_ret (v := .agg (VI .i64 res)) ?_ rfl ⟨by rw [HRES.out], below_setRow HO4.out _ (by omega) _⟩
          exact results_cell_row (P := Try.prog) (fn := Try.f35) (p := 4) (ty := 65) rfl _ _ (w.heap.size + 1 + 1) 65 (VI .i64 res) (0, 0) _ rfl (setRow_heap _ _ _ _ 65 _ HR4.out) Try.underlying65 rfl (infoN16 HRL.out)
end Go.Proofs.Ytlffamcifahbjaa
namespace Go.Proofs.Ytlffamcifahbjaa
set_option linter.unusedSimpArgs false
open Go.ChangeShapes Go.WideShapes Go.ChangeAt Go.RowKit Go.Pin Go.Fld
theorem small_dg (n : Nat) (hn : n < 4294967296) : dg n = (n : Int) % 65536 :: (n : Int) / 65536 :: List.replicate 14 0 := by
  have hlt : n < 57896044618658097711785492504343953926634992332820282019728792003956564819968 := Nat.lt_trans hn (by decide)
  have hd : Dig ((n : Int) % 65536 :: (n : Int) / 65536 :: List.replicate 14 0) := ⟨by simp, fun x hx => by
    simp only [List.mem_cons] at hx
    rcases hx with rfl | rfl | hx
    · omega
    · omega
    · have := List.eq_of_mem_replicate hx; omega, by simp⟩
  have e := hd.eq
  rw [e]
  congr 1
  have hz : D (List.replicate 14 0) = 0 := by decide
  simp only [D_cons, hz]
  omega
set_option maxRecDepth 100000 in
set_option maxHeartbeats 2000000 in
theorem rsmall_any (n : Nat) (hn : n < 4294967296) (w : World) :
    Calls Try.prog 31 #[.int .i64 (n : Int)] w fun e w' => e = .returned (.agg (VI .i64 (dg n))) ∧ Below w.heap.size w w' := by
  have hsd := small_dg n hn
  have hlt : n < 57896044618658097711785492504343953926634992332820282019728792003956564819968 := Nat.lt_trans hn (by decide)
  have HWH : Hid (∀ w, Calls Try.prog 50 #[.agg (VI .i64 (dg n))] w fun e w' => e = .returned (.agg (VI .i64 (dg n))) ∧ Below w.heap.size w w') := fun w => by
    have := whole_any _ (dg_big n hlt) w
    rw [(Dig.of hlt).2, Int.toNat_natCast, Nat.mod_eq_of_lt (Nat.lt_trans hn (by decide))] at this
    exact this
  obtain ⟨W, hW⟩ : ∃ W, (w.alloc (.cells (VI .i64 (List.replicate 16 0)) 65)).alloc (.cells (VI .i64 (dg n)) 64) = W := ⟨_, rfl⟩
  have hr : rowI W w.heap.size (List.replicate 16 0) 65 ∧ rowI W (w.heap.size + 1) (dg n) 64 ∧ Below w.heap.size w W ∧ W.heap.size = w.heap.size + 2 := by
    rw [← hW]
    refine ⟨?_, ?_, ((Below.refl _ _).alloc (Nat.le_refl _) _).alloc (by simp) _, by simp [size_alloc]⟩
    all_goals simp only [rowI, heap_alloc_any, size_alloc]
    · rw [if_neg (by omega), if_pos trivial]
    · rw [if_pos trivial]
  have hv : VI .i64 (dg n) = #[.int .i64 ((n : Int) % 65536), .int .i64 ((n : Int) / 65536), .int .i64 0, .int .i64 0, .int .i64 0, .int .i64 0, .int .i64 0, .int .i64 0, .int .i64 0, .int .i64 0, .int .i64 0, .int .i64 0, .int .i64 0, .int .i64 0, .int .i64 0, .int .i64 0] := by rw [hsd]; rfl
  have hW' : (w.alloc (.cells #[.int .i64 0, .int .i64 0, .int .i64 0, .int .i64 0, .int .i64 0, .int .i64 0, .int .i64 0, .int .i64 0, .int .i64 0, .int .i64 0, .int .i64 0, .int .i64 0, .int .i64 0, .int .i64 0, .int .i64 0, .int .i64 0] 65)).alloc (.cells #[.int .i64 ((n : Int) % 65536), .int .i64 ((n : Int) / 65536), .int .i64 0, .int .i64 0, .int .i64 0, .int .i64 0, .int .i64 0, .int .i64 0, .int .i64 0, .int .i64 0, .int .i64 0, .int .i64 0, .int .i64 0, .int .i64 0, .int .i64 0, .int .i64 0] 64) = W := by rw [← hW, hv]; rfl
  have HR : Hid (rowI W w.heap.size (List.replicate 16 0) 65 ∧ rowI W (w.heap.size + 1) (dg n) 64 ∧ Below w.heap.size w W ∧ W.heap.size = w.heap.size + 2) := hr
  have HSZ : Hid ((VI .i64 (List.replicate 16 0)).size = (VI .i64 (dg n)).size) := by
    have : (VI .i64 (List.replicate 16 0)).size = (VI .i64 (dg n)).size := by rw [VI_size, VI_size, dg_len, List.length_replicate]
    exact this
  clear hr hW hsd hlt hv
  go_enter Try.func31, Try.ntmps31
  go_wp2_with (first | (go_at_call 50; refine (HWH.out W).mono ?_; rintro e w4 ⟨rfl, hb4⟩; have HO4 : Hid (Below w.heap.size w w4) := HR.out.2.2.1.trans (hb4.mono HR.out.2.2.1.size); have HR4 : Hid (rowI w4 w.heap.size (List.replicate 16 0) 65) := (hb4.block _ (by have := HR.out.2.2.2; omega)).trans HR.out.1; clear hb4) | (with_reducible refine at_list ?_; first | (refine wpList_load_row rfl 64 (.tmp 3) rfl (w.heap.size + 1) rfl 64 (VI .i64 (dg n)) (0, 0) _ HR.out.2.1 Try.underlying64 rfl (info16 (dg_len n)) ?_) | (refine wpList_store_row rfl 65 (.tmp 2) (.tmp 11) rfl w.heap.size (VI .i64 (dg n)) rfl rfl 65 (VI .i64 (List.replicate 16 0)) HR4.out (infoN16 (dg_len n)) HSZ.out (VI_one _ _) ?_)))
  refine bodyPost_ret (v := .agg (VI .i64 (dg n))) ?_ rfl ⟨rfl, below_setRow HO4.out _ (by omega) _⟩
  exact results_cell_row (P := Try.prog) (fn := Try.f31) (p := 2) (ty := 65) rfl _ _ w.heap.size 65 (VI .i64 (dg n)) (0, 0) _ rfl (setRow_heap _ _ _ _ 65 _ HR4.out) Try.underlying65 rfl (infoN16 (dg_len n))
set_option maxRecDepth 100000 in
set_option maxHeartbeats 4000000 in
theorem rscale_any (n m : Nat) (hn : n < P) (hm : m < 4294967296) (w : World) :
    Calls Try.prog 53 #[.agg (VI .i64 (dg n)), .int .i64 (m : Int)] w fun e w' => e = .returned (.agg (VI .i64 (dg (n * m % P)))) ∧ Below w.heap.size w w' := by
  have hmP : m < P := Nat.lt_trans hm (by decide)
  have CS : Hid (∀ w, Calls Try.prog 31 #[.int .i64 (m : Int)] w fun e w' => e = .returned (.agg (VI .i64 (dg m))) ∧ Below w.heap.size w w') := fun w => rsmall_any m hm w
  have CM : Hid (∀ w, Calls Try.prog 35 #[.agg (VI .i64 (dg n)), .agg (VI .i64 (dg m))] w fun e w' => e = .returned (.agg (VI .i64 (dg (n * m % P)))) ∧ Below w.heap.size w w') := fun w => rmul_any n m hn hmP w
  obtain ⟨W, hW⟩ : ∃ W, (w.alloc (.cells (VI .i64 (dg n)) 65)).alloc (.cells (VI .i64 (List.replicate 16 0)) 65) = W := ⟨_, rfl⟩
  have hr : rowI W w.heap.size (dg n) 65 ∧ rowI W (w.heap.size + 1) (List.replicate 16 0) 65 ∧ Below w.heap.size w W ∧ W.heap.size = w.heap.size + 2 := by
    rw [← hW]
    refine ⟨?_, ?_, ((Below.refl _ _).alloc (Nat.le_refl _) _).alloc (by simp) _, by simp [size_alloc]⟩
    all_goals simp only [rowI, heap_alloc_any, size_alloc]
    · rw [if_neg (by omega), if_pos trivial]
    · rw [if_pos trivial]
  have hW' : (w.alloc (.cells (VI .i64 (dg n)) 65)).alloc (.cells #[.int .i64 0, .int .i64 0, .int .i64 0, .int .i64 0, .int .i64 0, .int .i64 0, .int .i64 0, .int .i64 0, .int .i64 0, .int .i64 0, .int .i64 0, .int .i64 0, .int .i64 0, .int .i64 0, .int .i64 0, .int .i64 0] 65) = W := hW
  have HR : Hid (rowI W w.heap.size (dg n) 65 ∧ rowI W (w.heap.size + 1) (List.replicate 16 0) 65 ∧ Below w.heap.size w W ∧ W.heap.size = w.heap.size + 2) := hr
  have hrl : (dg (n * m % P)).length = 16 := dg_len _
  clear hr hW
  generalize hres : dg (n * m % P) = res at *
  have HRES : Hid (dg (n * m % P) = res) := hres
  have HRL : Hid (res.length = 16) := hrl
  have HSZ : Hid ((VI .i64 (List.replicate 16 0)).size = (VI .i64 res).size) := by
    have : (VI .i64 (List.replicate 16 0)).size = (VI .i64 res).size := by rw [VI_size, VI_size, hrl, List.length_replicate]
    exact this
  clear hres hrl
  go_enter Try.func53, Try.ntmps53
  go_wp2
  refine wp_region_held_drew (S := fun Y => rowI Y w.heap.size (dg n) 65 ∧ Below w.heap.size w Y) (by kernel_rfl) (⟨HR.out.1, HR.out.2.2.1.drew⟩) (fun hH => ?_)
  refine wpAnyH_take (i := 0) rfl (by kernel_rfl) (by kernel_rfl) (by kernel_rfl) (fun _ _ _ h => h) (yieldsIf_load_row (by kernel_rfl) 65 (.tmp 2) rfl w.heap.size rfl 65 (VI .i64 (dg n)) (0, 0) _ (fun _ h => h.1) Try.underlying65 rfl (infoN16 (dg_len n))) hH ?_
  try simp only [Act.put, List.setIfInBounds_toArray, List.set_cons_zero, List.set_cons_succ]
  refine wpAnyH_take (i := 1) (v := .int .i64 (m : Int)) rfl (by kernel_rfl) (by kernel_rfl) (by kernel_rfl) (fun _ _ _ h => h) (Or.inl ⟨by kernel_rfl, fun W hW => ?_⟩) hH ?_
  · go_simp
  try simp only [Act.put, List.setIfInBounds_toArray, List.set_cons_zero, List.set_cons_succ]
  refine wpAnyH_ready (rs := [2]) (by kernel_rfl) (by simp) (AllReadyH.cons rfl (fun K' hK => ?_) AllReadyH.nil)
  go_simp
  refine (CS.out _).mono ?_
  rintro e w3 ⟨rfl, hb3⟩
  have HR3 : Hid (rowI w3 (w.heap.size + 1) (List.replicate 16 0) 65 ∧ w.heap.size + 2 ≤ w3.heap.size) := ⟨(hb3.block _ (by have := HR.out.2.2.2; show _ < W.heap.size; omega)).trans HR.out.2.1, by have := HR.out.2.2.2; have h2 : W.heap.size ≤ w3.heap.size := hb3.size; omega⟩
  go_wp2_with fail
  refine hK.out _ _ ⟨(hb3.block _ (by have := HR.out.2.2.2; show _ < W.heap.size; omega)).trans hH.1, hH.2.trans (hb3.mono hH.2.size)⟩ (fun hH => ?_)
  clear hK K' hb3
  try simp only [Act.put, List.setIfInBounds_toArray, List.set_cons_zero, List.set_cons_succ]
  refine wpAnyH_ready (rs := [3]) (by kernel_rfl) (by simp) (AllReadyH.cons rfl (fun K' hK => ?_) AllReadyH.nil)
  go_simp
  refine (CM.out _).mono ?_
  rintro e w4 ⟨rfl, hb4⟩
  have HR4 : Hid (rowI w4 (w.heap.size + 1) (List.replicate 16 0) 65) := (hb4.block _ (by have := HR3.out.2; omega)).trans HR3.out.1
  go_wp2_with fail
  refine hK.out _ _ ⟨(hb4.block _ (by have := HR3.out.2; omega)).trans hH.1, hH.2.trans (hb4.mono hH.2.size)⟩ (fun hH => ?_)
  clear hK K' hb4
  try simp only [Act.put, List.setIfInBounds_toArray, List.set_cons_zero, List.set_cons_succ]
  refine wpAnyH_ready (rs := [4]) (by kernel_rfl) (by simp) (AllReadyH.cons rfl (fun K' hK => ?_) AllReadyH.nil)
  refine if_pos_mpr (by kernel_rfl) (wp_store_row 65 (.tmp 4) (.tmp 8) rfl (w.heap.size + 1) (VI .i64 res) rfl rfl 65 (VI .i64 (List.replicate 16 0)) HR4.out (infoN16 HRL.out) HSZ.out (VI_one _ _) ?_)
  refine hK.out _ _ ⟨(setRow_other _ _ _ _ (by omega)).trans hH.1, below_setRow hH.2 _ (by omega) _⟩ (fun hH => ?_)
  clear hK K'
  try simp only [Act.put, List.setIfInBounds_toArray, List.set_cons_zero, List.set_cons_succ]
  refine wpAnyH_done (by kernel_rfl) ?_ _
  try simp only [Act.put, List.getElem_toArray, List.getElem_cons_succ, List.getElem_cons_zero, List.getElem?_toArray, List.getElem?_cons_succ, List.getElem?_cons_zero, List.setIfInBounds_toArray, List.set_cons_zero, List.set_cons_succ]
  have HH : Hid (Below w.heap.size w (w4.setRow (w.heap.size + 1) (VI .i64 res))) := hH.2
  clear hH
  go_wp2
  refine bodyPost_ret (v := .agg (VI .i64 res)) ?_ rfl ⟨rfl, HH.out⟩
  exact results_cell_row (P := Try.prog) (fn := Try.f53) (p := 4) (ty := 65) rfl _ _ (w.heap.size + 1) 65 (VI .i64 res) (0, 0) _ rfl (setRow_heap _ _ _ _ 65 _ HR4.out) Try.underlying65 rfl (infoN16 HRL.out)
end Go.Proofs.Ytlffamcifahbjaa
