import Init
import Derived.Test.YtacofgmnmofkpaaMfah
import Derived.Test.YtacofgmnmofkpaaMfaf
namespace Go.Proofs.Ytacofgmnmofkpaa
set_option linter.unusedSimpArgs false
open Go.ChangeShapes Go.WideShapes Go.ChangeAt Go.RowKit Go.Pin Go.Fld
theorem D_set : ∀ (L : List Int) (j : Nat), j < L.length → ∀ v, D (L.set j (L.getD j 0 + v)) = D L + v * 65536 ^ j
  | [], j, h, _ => by simp at h
  | x :: L, 0, _, v => by simp only [List.set_cons_zero, List.getD_cons_zero, D_cons, Int.pow_zero]; omega
  | x :: L, j + 1, h, v => by
    have ih := D_set L j (by simpa using h) v
    simp only [List.set_cons_succ, List.getD_cons_succ, D_cons, ih, Int.pow_succ]
    grind
theorem D_take : ∀ (L : List Int) (k : Nat), k < L.length → D (L.take (k + 1)) = D (L.take k) + L.getD k 0 * 65536 ^ k
  | [], k, h => by simp at h
  | x :: L, 0, _ => by simp [D]
  | x :: L, k + 1, h => by
    have ih := D_take L k (by simpa using h)
    simp only [List.take_succ_cons, D_cons, ih, List.getD_cons_succ, Int.pow_succ]
    grind
/-- what the two loops of Mul know of w -/
structure MI (n m : Nat) (i k : Nat) (L : List Int) : Prop where
  len : L.length = 32
  bd : ∀ x ∈ L, 0 ≤ x ∧ x ≤ (16 * i + k : Nat) * 4294967296
  val : D L = D ((dg n).take i) * D (dg m) + (dg n).getD i 0 * 65536 ^ i * D ((dg m).take k)
theorem MI.step {n m i k : Nat} {L : List Int} (h : MI n m i k L) (hi : i < 16) (hk : k < 16) : MI n m i (k + 1) (L.set (i + k) (L.getD (i + k) 0 + (dg n).getD i 0 * (dg m).getD k 0)) := by
  obtain ⟨x0, x1⟩ := dg_bd n i
  obtain ⟨y0, y1⟩ := dg_bd m k
  have hp : 0 ≤ (dg n).getD i 0 * (dg m).getD k 0 ∧ (dg n).getD i 0 * (dg m).getD k 0 ≤ 4294967296 :=
    ⟨Int.mul_nonneg x0 y0, by have := Int.mul_le_mul_of_nonneg_right (show (dg n).getD i 0 ≤ 65536 by omega) y0; omega⟩
  refine ⟨by simp [h.len], fun x hx => ?_, ?_⟩
  · rcases List.mem_or_eq_of_mem_set hx with hx | rfl
    · have := h.bd x hx; omega
    · have := h.bd _ (getD_mem (t := L) (i := i + k) (by rw [h.len]; omega)); omega
  · rw [D_set L (i + k) (by rw [h.len]; omega), h.val, D_take (dg m) k (by simpa using hk), Int.pow_add]
    grind
theorem MI.next {n m i : Nat} {L : List Int} (h : MI n m i 16 L) (hi : i < 16) : MI n m (i + 1) 0 L := by
  refine ⟨h.len, fun x hx => by have := h.bd x hx; omega, ?_⟩
  have hd : (dg m).take 16 = dg m := List.take_of_length_le (by simp)
  rw [h.val, hd, D_take (dg n) i (by simpa using hi)]
  simp only [List.take_zero, D]
  grind
theorem MI.zero (n m : Nat) : MI n m 0 0 (List.replicate 32 0) := by
  refine ⟨by simp, fun x hx => by have := List.eq_of_mem_replicate hx; omega, ?_⟩
  have e : D (List.replicate 32 0) = 0 := by decide
  rw [e]; simp [D]
/-- folded once -/
def zmul (L : List Int) : List Int := (List.range 16).map fun i => L.getD i 0 + 38 * L.getD (i + 16) 0
theorem zmul_facts {n m : Nat} (hn : n < P) (hm : m < P) {L : List Int} (h : MI n m 16 0 L) : Big (zmul L) ∧ (D (zmul L)).toNat % P = n * m % P := by
  have hb : Big (zmul L) := ⟨by simp [zmul], fun x hx => by
    simp only [zmul, List.mem_map] at hx
    obtain ⟨i, hi, rfl⟩ := hx
    have hi' : i < 16 := by simpa using hi
    have h1 := h.bd _ (getD_mem (t := L) (i := i) (by rw [h.len]; omega))
    have h2 := h.bd _ (getD_mem (t := L) (i := i + 16) (by rw [h.len]; omega))
    omega⟩
  refine ⟨hb, ?_⟩
  have e : zmul L = List.zipWith (· + ·) (L.take 16) ((L.drop 16).map (38 * ·)) := by
    apply List.ext_getElem
    · simp [zmul, h.len]
    · intro i h1 h2
      have hi : i < 16 := by simpa [zmul] using h1
      simp only [zmul, List.getElem_map, List.getElem_range, List.getElem_zipWith, List.getElem_take, List.getElem_drop]
      rw [List.getD_eq_getElem?_getD, List.getElem?_eq_getElem (by rw [h.len]; omega), List.getD_eq_getElem?_getD, List.getElem?_eq_getElem (by rw [h.len]; omega)]
      simp [Nat.add_comm]
  have hmap : ∀ l : List Int, D (l.map (38 * ·)) = 38 * D l := fun l => by
    induction l with
    | nil => rfl
    | cons x l ih => simp only [List.map_cons, D_cons, ih]; omega
  have hD : D (zmul L) = D (L.take 16) + 38 * D (L.drop 16) := by rw [e, D_zip _ _ (by simp [h.len]), hmap]
  have hL : D L = D (L.take 16) + 65536 ^ 16 * D (L.drop 16) := by
    conv => lhs; rw [← List.take_append_drop 16 L]
    rw [D_app]; simp [h.len]
  have hv := h.val
  have hd : (dg n).take 16 = dg n := List.take_of_length_le (by simp)
  rw [hd, (Dig.of (P255 hn)).2, (Dig.of (P255 hm)).2] at hv
  simp only [List.take_zero, D, Int.mul_zero, Int.add_zero] at hv
  have e16 : (65536 : Int) ^ 16 = 115792089237316195423570985008687907853269984665640564039457584007913129639936 := by decide
  rw [e16] at hL
  have hpos : 0 ≤ D (zmul L) := by
    obtain ⟨hd', h2, h3, _⟩ := car_facts hb
    have := hd'.lt
    omega
  have e1 : (((D (zmul L)).toNat % P : Nat) : Int) = D (zmul L) % 57896044618658097711785492504343953926634992332820282019728792003956564819949 := by
    rw [Int.natCast_emod, Int.toNat_of_nonneg hpos]; rfl
  have e2 : ((n * m % P : Nat) : Int) = ((n : Int) * (m : Int)) % 57896044618658097711785492504343953926634992332820282019728792003956564819949 := by
    rw [Int.natCast_emod, Int.natCast_mul]; rfl
  rw [← hv, hL] at e2
  rw [hD] at e1
  have e3 : (D (L.take 16) + 115792089237316195423570985008687907853269984665640564039457584007913129639936 * D (L.drop 16)) % 57896044618658097711785492504343953926634992332820282019728792003956564819949 = (D (L.take 16) + 38 * D (L.drop 16)) % 57896044618658097711785492504343953926634992332820282019728792003956564819949 := by
    rw [show D (L.take 16) + 115792089237316195423570985008687907853269984665640564039457584007913129639936 * D (L.drop 16) = D (L.take 16) + 38 * D (L.drop 16) + 57896044618658097711785492504343953926634992332820282019728792003956564819949 * (2 * D (L.drop 16)) by omega, Int.add_mul_emod_self_left]
  rw [e3, ← e1] at e2
  rw [hD]
  exact (Int.ofNat_inj.1 e2).symm
structure KWr (n : Nat) (w : World) (a b L : List Int) (wr : World) : Prop where
  old : Below n w wr
  sz : n + 4 ≤ wr.heap.size
  ha : rowI wr n a 50
  hb : rowI wr (n + 1) b 50
  hr : rowI wr (n + 2) (List.replicate 16 0) 50
  hl : rowI wr (n + 3) L 109
theorem KWr.set {n : Nat} {w wr : World} {a b L : List Int} (h : KWr n w a b L wr) (i : Nat) (v : Int) : KWr n w a b (L.set i v) (wr.setCell ⟨n + 3, i, none⟩ (.int .i64 v)) :=
  ⟨h.old.setCell (by simp) _, by simpa using h.sz, row_other h.ha (by simp) _, row_other h.hb (by simp) _, row_other h.hr (by simp) _, rowI_set h.hl _ _⟩
theorem KWr.below {n : Nat} {w wr w' : World} {a b L : List Int} (h : KWr n w a b L wr) (k : Below (n + 4) wr w') : KWr n w a b L w' :=
  ⟨h.old.trans (k.mono (by omega)), Nat.le_trans h.sz k.size, (k.block _ (by omega)).trans h.ha, (k.block _ (by omega)).trans h.hb, (k.block _ (by omega)).trans h.hr, (k.block _ (by omega)).trans h.hl⟩
theorem kwr_start (w : World) (a b : List Int) : KWr w.heap.size w a b (List.replicate 32 0) ((((w.alloc (.cells (VI .i64 a) 50)).alloc (.cells (VI .i64 b) 50)).alloc (.cells (VI .i64 (List.replicate 16 0)) 50)).alloc (.cells (VI .i64 (List.replicate 32 0)) 109)) := by
  refine ⟨((((Below.refl _ _).alloc (Nat.le_refl _) _).alloc (by simp) _).alloc (by simp; omega) _).alloc (by simp; omega) _, by simp [size_alloc], ?_, ?_, ?_, ?_⟩
  all_goals simp only [rowI, heap_alloc_any, size_alloc]
  · rw [if_neg (by omega), if_neg (by omega), if_neg (by omega), if_pos trivial]
  · rw [if_neg (by omega), if_neg (by omega), if_pos trivial]
  · rw [if_neg (by omega), if_pos trivial]
  · rw [if_pos trivial]
set_option maxRecDepth 100000 in
set_option maxHeartbeats 8000000 in
theorem rmul_any (n m : Nat) (hn : n < P) (hm : m < P) (w : World) :
    Calls Try.prog 40 #[.agg (VI .i64 (dg n)), .agg (VI .i64 (dg m))] w fun e w' => e = .returned (.agg (VI .i64 (dg (n * m % P)))) ∧ Below w.heap.size w w' := by
  have hst := kwr_start w (dg n) (dg m)
  obtain ⟨W, hW⟩ : ∃ W, (((w.alloc (.cells (VI .i64 (dg n)) 50)).alloc (.cells (VI .i64 (dg m)) 50)).alloc (.cells (VI .i64 (List.replicate 16 0)) 50)).alloc (.cells (VI .i64 (List.replicate 32 0)) 109) = W := ⟨_, rfl⟩
  rw [hW] at hst
  have hW' : (((w.alloc (.cells (VI .i64 (dg n)) 50)).alloc (.cells (VI .i64 (dg m)) 50)).alloc (.cells #[.int .i64 0, .int .i64 0, .int .i64 0, .int .i64 0, .int .i64 0, .int .i64 0, .int .i64 0, .int .i64 0, .int .i64 0, .int .i64 0, .int .i64 0, .int .i64 0, .int .i64 0, .int .i64 0, .int .i64 0, .int .i64 0] 50)).alloc (.cells #[.int .i64 0, .int .i64 0, .int .i64 0, .int .i64 0, .int .i64 0, .int .i64 0, .int .i64 0, .int .i64 0, .int .i64 0, .int .i64 0, .int .i64 0, .int .i64 0, .int .i64 0, .int .i64 0, .int .i64 0, .int .i64 0, .int .i64 0, .int .i64 0, .int .i64 0, .int .i64 0, .int .i64 0, .int .i64 0, .int .i64 0, .int .i64 0, .int .i64 0, .int .i64 0, .int .i64 0, .int .i64 0, .int .i64 0, .int .i64 0, .int .i64 0, .int .i64 0] 109) = W := hW
  have HST : Hid (KWr w.heap.size w (dg n) (dg m) (List.replicate 32 0) W) := hst
  have HNM : Hid (n < P ∧ m < P) := ⟨hn, hm⟩
  clear hW hst hn hm
  go_enter Try.func40, Try.ntmps40
  go_wp2
  go_loopw [6] (fun i w' => ∃ (k : Nat) (L : List Int), k ≤ 16 ∧ i = .int .i64 k ∧ MI n m k 0 L ∧ KWr w.heap.size w (dg n) (dg m) L w') (fun i _ => 16 - (intOf i).toNat)
  case atStart => exact ⟨0, _, Nat.zero_le _, rfl, MI.zero n m, HST.out⟩
  case round =>
    clear HST hW'
    obtain ⟨i, L, hi, rfl, hmi, hp⟩ := hrel
    by_cases hlt : i < 16
    · have HM0 : Hid (MI n m i 0 L) := hmi
      have HP0 : Hid (KWr w.heap.size w (dg n) (dg m) L wr) := hp
      have hid : decide ((i : Int) < 16) = true := by simp; omega
      clear hmi hp
      go_wp2
      go_loopw [7] (fun j w' => ∃ (k : Nat) (L : List Int), k ≤ 16 ∧ j = .int .i64 k ∧ MI n m i k L ∧ KWr w.heap.size w (dg n) (dg m) L w') (fun j _ => 16 - (intOf j).toNat)
      case atStart => exact ⟨0, L, Nat.zero_le _, rfl, HM0.out, HP0.out⟩
      case round =>
        clear HM0 HP0
        obtain ⟨k, L, hk, rfl, hmi, hp⟩ := hrel
        by_cases hlk : k < 16
        · have hst := hp.set (i + k) (L.getD (i + k) 0 + (dg n).getD i 0 * (dg m).getD k 0)
          have hms := hmi.step hlt hlk
          have hca := rowI_cell hp.ha (i := i) (by simpa using hlt)
          have hcb := rowI_cell hp.hb (i := k) (by simpa using hlk)
          have hcl := rowI_cell hp.hl (i := i + k) (by rw [hmi.len]; omega)
          have hfz : wr.frozen? ⟨w.heap.size + 3, i + k, none⟩ = false := frozen_of_row wr _ _ _ _ hp.hl
          obtain ⟨x0, x1⟩ := dg_bd n i
          obtain ⟨y0, y1⟩ := dg_bd m k
          obtain ⟨z0, z1⟩ := hmi.bd _ (getD_mem (t := L) (i := i + k) (by rw [hmi.len]; omega))
          have hp1 : 0 ≤ (dg n).getD i 0 * (dg m).getD k 0 := Int.mul_nonneg x0 y0
          have hp2 : (dg n).getD i 0 * (dg m).getD k 0 ≤ 4294967296 := by have := Int.mul_le_mul_of_nonneg_right (show (dg n).getD i 0 ≤ 65536 by omega) y0; omega
          have z2 : L.getD (i + k) 0 ≤ 1099511627776 := by omega
          have hik : (i : Int) + (k : Int) = ((i + k : Nat) : Int) := by omega
          have hik32 : i + k < 32 := by omega
          have hikI : ((i + k : Nat) : Int) < 32 := by omega
          generalize i + k = ik at *
          generalize (dg n).getD i 0 = x at *
          generalize (dg m).getD k 0 = y at *
          generalize L.getD ik 0 = z at *
          have hw1 : IntKind.i64.wrap (x * y) = x * y := by rw [IntKind.wrap_i64]; omega
          have HS : Hid (KWr w.heap.size w (dg n) (dg m) (L.set ik (z + x * y)) (wr.setCell ⟨w.heap.size + 3, ik, none⟩ (.int .i64 (z + x * y)))) := hst
          have HM : Hid (MI n m i (k + 1) (L.set ik (z + x * y))) := hms
          clear hst hms hp hmi z1
          have hwz : IntKind.i64.wrap (z + x * y) = z + x * y := by rw [IntKind.wrap_i64]; omega
          go_wp2
          go_region
          go_wp2
          go_roundw
          case rel => exact ⟨k + 1, _, by omega, by go_num, HM.out, HS.out.below (Below.refl _ _).drew⟩
          case measure => simp [intOf]; omega
        · have hk' : k = 16 := by omega
          subst hk'
          have HM : Hid (MI n m (i + 1) 0 L) := hmi.next hlt
          have HP : Hid (KWr w.heap.size w (dg n) (dg m) L wr) := hp
          clear hmi hp
          go_wp2
          go_roundw
          case rel => exact ⟨i + 1, L, by omega, by go_num, HM.out, HP.out⟩
          case measure => simp [intOf]; omega
    · have hi' : i = 16 := by omega
      subst hi'
      obtain ⟨hbig, hmod⟩ := zmul_facts HNM.out.1 HNM.out.2 hmi
      have HWH : Hid (∀ w, Calls Try.prog 56 #[.agg (VI .i64 (zmul L))] w fun e w' => e = .returned (.agg (VI .i64 (dg (n * m % P)))) ∧ Below w.heap.size w w') := fun w => by
        have := whole_any _ hbig w
        rw [hmod] at this
        exact this
      have hzl : (zmul L).length = 16 := by simp [zmul]
      have HZL : Hid ((zmul L).length = 16) := hzl
      have HMI : Hid (MI n m 16 0 L) := hmi
      obtain ⟨G, hG⟩ : ∃ G, wr.heap.size = G := ⟨_, rfl⟩
      have hG4 : w.heap.size + 4 ≤ G := by rw [← hG]; exact hp.sz
      have hp2 : KWr w.heap.size w (dg n) (dg m) L (wr.alloc (.cells (VI .i64 (List.replicate 16 0)) 49)) ∧ rowI (wr.alloc (.cells (VI .i64 (List.replicate 16 0)) 49)) G (List.replicate 16 0) 49 := by
        refine ⟨hp.below ((Below.refl _ _).alloc hp.sz _), ?_⟩
        simp only [rowI, heap_alloc_any, hG, if_true]
      have HP2 : Hid (KWr w.heap.size w (dg n) (dg m) L (wr.alloc (.cells (VI .i64 (List.replicate 16 0)) 49)) ∧ rowI (wr.alloc (.cells (VI .i64 (List.replicate 16 0)) 49)) G (List.replicate 16 0) 49) := hp2
      clear hp hp2 hmi hbig hmod hlt hi
      rw [show ((16 : Nat) : Int) = 16 from rfl]
      go_wp2
      go_loopw [9] (fun j w' => ∃ k : Nat, k ≤ 16 ∧ j = .int .i64 k ∧ KWr w.heap.size w (dg n) (dg m) L w' ∧ rowI w' G ((zmul L).take k ++ (List.replicate 16 (0 : Int)).drop k) 49) (fun j _ => 16 - (intOf j).toNat)
      case atStart => exact ⟨0, Nat.zero_le _, rfl, HP2.out⟩
      case round =>
        clear HP2 hG
        obtain ⟨k, hk, rfl, hp, hpG⟩ := hrel
        by_cases hlk : k < 16
        · have es := set_stepD (zmul L) (List.replicate 16 (0 : Int)) k (by rw [hzl]; exact hlk) (by simpa using hlk)
          rw [show (zmul L).getD k 0 = L.getD k 0 + 38 * L.getD (k + 16) 0 from range_getD _ k hlk] at es
          have hst := rowI_set hpG k (L.getD k 0 + 38 * L.getD (k + 16) 0)
          rw [es] at hst
          have hc1 := rowI_cell hp.hl (i := k) (by rw [HMI.out.len]; omega)
          have hc2 := rowI_cell hp.hl (i := k + 16) (by rw [HMI.out.len]; omega)
          have hcl := rowI_cell hpG (i := k) (by rw [List.length_append, List.length_take, List.length_drop, hzl, List.length_replicate]; omega)
          have hfz : wr.frozen? ⟨G, k, none⟩ = false := frozen_of_row wr _ _ _ _ hpG
          obtain ⟨x0, x1⟩ := HMI.out.bd _ (getD_mem (t := L) (i := k) (by rw [HMI.out.len]; omega))
          obtain ⟨y0, y1⟩ := HMI.out.bd _ (getD_mem (t := L) (i := k + 16) (by rw [HMI.out.len]; omega))
          have x2 : L.getD k 0 ≤ 1099511627776 := by omega
          have y2 : L.getD (k + 16) 0 ≤ 1099511627776 := by omega
          generalize L.getD k 0 = x at *
          generalize L.getD (k + 16) 0 = y at *
          have HS : Hid (rowI (wr.setCell ⟨G, k, none⟩ (.int .i64 (x + 38 * y))) G ((zmul L).take (k + 1) ++ (List.replicate 16 (0 : Int)).drop (k + 1)) 49) := hst
          have HK : Hid (∀ v, KWr w.heap.size w (dg n) (dg m) L (wr.setCell ⟨G, k, none⟩ v)) := fun v => hp.below ((Below.refl _ _).setCell hG4 _)
          clear hp hpG hst es x1 y1
          generalize List.getD _ k 0 = zz at hcl
          go_wp2
          go_region
          go_wp2
          go_roundw
          case rel => exact ⟨k + 1, by omega, by go_num, (HK.out _).below (Below.refl _ _).drew, HS.out⟩
          case measure => simp [intOf]; omega
        · have hk' : k = 16 := by omega
          subst hk'
          rw [List.take_of_length_le (by rw [hzl]; omega), List.drop_of_length_le (by simp), List.append_nil] at hpG
          have HP : Hid (KWr w.heap.size w (dg n) (dg m) L wr) := hp
          have HG : Hid (rowI wr G (zmul L) 49) := hpG
          have hrl : (dg (n * m % P)).length = 16 := dg_len _
          generalize hres : dg (n * m % P) = res at *
          have HRES : Hid (dg (n * m % P) = res) := hres
          clear hres
          have HRL : Hid (res.length = 16) := hrl
          have HSZ : Hid ((VI .i64 (List.replicate 16 0)).size = (VI .i64 res).size) := by
            have : (VI .i64 (List.replicate 16 0)).size = (VI .i64 res).size := by rw [VI_size, VI_size, hrl, List.length_replicate]
            exact this
          clear hrl hp hpG hlk hk
          go_wp2_with (first | (go_at_call 56; refine (HWH.out wr).mono ?_; rintro e w4 ⟨rfl, hb4⟩; have HO4 : Hid (Below w.heap.size w w4) := HP.out.old.trans (hb4.mono (by have := HP.out.sz; omega)); have HR4 : Hid (rowI w4 (w.heap.size + 2) (List.replicate 16 0) 50) := (hb4.block _ (by have := HP.out.sz; omega)).trans HP.out.hr; clear hb4) | (with_reducible refine at_list ?_; first | (refine wpList_load_row rfl 49 (.tmp 8) rfl G rfl 49 (VI .i64 (zmul L)) (0, 0) _ HG.out Try.underlying49 rfl (info16 HZL.out) ?_) | (refine wpList_store_row rfl 50 (.tmp 4) (.tmp 51) rfl (w.heap.size + 1 + 1) (VI .i64 res) rfl rfl 50 (VI .i64 (List.replicate 16 0)) HR4.out (infoN16 HRL.out) HSZ.out (VI_one _ _) ?_)))
          refine bodyPost_ret (v := .agg (VI .i64 res)) ?_ rfl ⟨by rw [HRES.out], below_setRow HO4.out _ (by omega) _⟩
          exact results_cell_row (P := Try.prog) (fn := Try.f40) (p := 4) (ty := 50) rfl _ _ (w.heap.size + 1 + 1) 50 (VI .i64 res) (0, 0) _ rfl (setRow_heap _ _ _ _ 50 _ HR4.out) Try.underlying50 rfl (infoN16 HRL.out)
end Go.Proofs.Ytacofgmnmofkpaa
namespace Go.Proofs.Ytacofgmnmofkpaa
set_option linter.unusedSimpArgs false
open Go.ChangeShapes Go.WideShapes Go.ChangeAt Go.RowKit Go.Pin Go.Fld
theorem small_dg (n : Nat) (hn : n < 4294967296) : dg n = (n : Int) % 65536 :: (n : Int) / 65536 :: List.replicate 14 0 := by
  have hlt : n < 57896044618658097711785492504343953926634992332820282019728792003956564819968 := Nat.lt_trans hn (by decide)
  have hd : Dig ((n : Int) % 65536 :: (n : Int) / 65536 :: List.replicate 14 0) := ⟨by simp, fun x hx => by
    simp only [List.mem_cons] at hx
    rcases hx with rfl | rfl | hx
    · omega
    · omega
    · have := List.eq_of_mem_replicate hx; omega, by simp⟩
  have e := hd.eq
  rw [e]
  congr 1
  have hz : D (List.replicate 14 0) = 0 := by decide
  simp only [D_cons, hz]
  omega
set_option maxRecDepth 100000 in
set_option maxHeartbeats 2000000 in
theorem rsmall_any (n : Nat) (hn : n < 4294967296) (w : World) :
    Calls Try.prog 60 #[.int .i64 (n : Int)] w fun e w' => e = .returned (.agg (VI .i64 (dg n))) ∧ Below w.heap.size w w' := by
  have hsd := small_dg n hn
  have hlt : n < 57896044618658097711785492504343953926634992332820282019728792003956564819968 := Nat.lt_trans hn (by decide)
  have HWH : Hid (∀ w, Calls Try.prog 56 #[.agg (VI .i64 (dg n))] w fun e w' => e = .returned (.agg (VI .i64 (dg n))) ∧ Below w.heap.size w w') := fun w => by
    have := whole_any _ (dg_big n hlt) w
    rw [(Dig.of hlt).2, Int.toNat_natCast, Nat.mod_eq_of_lt (Nat.lt_trans hn (by decide))] at this
    exact this
  obtain ⟨W, hW⟩ : ∃ W, (w.alloc (.cells (VI .i64 (List.replicate 16 0)) 50)).alloc (.cells (VI .i64 (dg n)) 49) = W := ⟨_, rfl⟩
  have hr : rowI W w.heap.size (List.replicate 16 0) 50 ∧ rowI W (w.heap.size + 1) (dg n) 49 ∧ Below w.heap.size w W ∧ W.heap.size = w.heap.size + 2 := by
    rw [← hW]
    refine ⟨?_, ?_, ((Below.refl _ _).alloc (Nat.le_refl _) _).alloc (by simp) _, by simp [size_alloc]⟩
    all_goals simp only [rowI, heap_alloc_any, size_alloc]
    · rw [if_neg (by omega), if_pos trivial]
    · rw [if_pos trivial]
  have hv : VI .i64 (dg n) = #[.int .i64 ((n : Int) % 65536), .int .i64 ((n : Int) / 65536), .int .i64 0, .int .i64 0, .int .i64 0, .int .i64 0, .int .i64 0, .int .i64 0, .int .i64 0, .int .i64 0, .int .i64 0, .int .i64 0, .int .i64 0, .int .i64 0, .int .i64 0, .int .i64 0] := by rw [hsd]; rfl
  have hW' : (w.alloc (.cells #[.int .i64 0, .int .i64 0, .int .i64 0, .int .i64 0, .int .i64 0, .int .i64 0, .int .i64 0, .int .i64 0, .int .i64 0, .int .i64 0, .int .i64 0, .int .i64 0, .int .i64 0, .int .i64 0, .int .i64 0, .int .i64 0] 50)).alloc (.cells #[.int .i64 ((n : Int) % 65536), .int .i64 ((n : Int) / 65536), .int .i64 0, .int .i64 0, .int .i64 0, .int .i64 0, .int .i64 0, .int .i64 0, .int .i64 0, .int .i64 0, .int .i64 0, .int .i64 0, .int .i64 0, .int .i64 0, .int .i64 0, .int .i64 0] 49) = W := by rw [← hW, hv]; rfl
  have HR : Hid (rowI W w.heap.size (List.replicate 16 0) 50 ∧ rowI W (w.heap.size + 1) (dg n) 49 ∧ Below w.heap.size w W ∧ W.heap.size = w.heap.size + 2) := hr
  have HSZ : Hid ((VI .i64 (List.replicate 16 0)).size = (VI .i64 (dg n)).size) := by
    have : (VI .i64 (List.replicate 16 0)).size = (VI .i64 (dg n)).size := by rw [VI_size, VI_size, dg_len, List.length_replicate]
    exact this
  clear hr hW hsd hlt hv
  go_enter Try.func60, Try.ntmps60
  go_wp2_with (first | (go_at_call 56; refine (HWH.out W).mono ?_; rintro e w4 ⟨rfl, hb4⟩; have HO4 : Hid (Below w.heap.size w w4) := HR.out.2.2.1.trans (hb4.mono HR.out.2.2.1.size); have HR4 : Hid (rowI w4 w.heap.size (List.replicate 16 0) 50) := (hb4.block _ (by have := HR.out.2.2.2; omega)).trans HR.out.1; clear hb4) | (with_reducible refine at_list ?_; first | (refine wpList_load_row rfl 49 (.tmp 3) rfl (w.heap.size + 1) rfl 49 (VI .i64 (dg n)) (0, 0) _ HR.out.2.1 Try.underlying49 rfl (info16 (dg_len n)) ?_) | (refine wpList_store_row rfl 50 (.tmp 2) (.tmp 11) rfl w.heap.size (VI .i64 (dg n)) rfl rfl 50 (VI .i64 (List.replicate 16 0)) HR4.out (infoN16 (dg_len n)) HSZ.out (VI_one _ _) ?_)))
  refine bodyPost_ret (v := .agg (VI .i64 (dg n))) ?_ rfl ⟨rfl, below_setRow HO4.out _ (by omega) _⟩
  exact results_cell_row (P := Try.prog) (fn := Try.f60) (p := 2) (ty := 50) rfl _ _ w.heap.size 50 (VI .i64 (dg n)) (0, 0) _ rfl (setRow_heap _ _ _ _ 50 _ HR4.out) Try.underlying50 rfl (infoN16 (dg_len n))
theorem round_math (a : Int) : (wrap64 (a.tmod 8 + 8)).tmod 8 = a % 8 := by
  have h1 : a.tmod 8 < 8 := Int.tmod_lt_of_pos a (by decide)
  have h2 : -8 < a.tmod 8 := by
    have := Int.tmod_lt_of_pos (-a) (show (0 : Int) < 8 by decide)
    rw [Int.neg_tmod] at this
    omega
  have h3 := Int.tmod_def a 8
  have hw : wrap64 (a.tmod 8 + 8) = a.tmod 8 + 8 := by
    unfold wrap64
    omega
  rw [hw, Int.tmod_eq_emod_of_nonneg (by omega)]
  omega
theorem round_any (a : Int) (w : World) : Calls Try.prog 32 #[.int .i64 a] w fun e w' => e = .returned (.int .i64 (a % 8)) ∧ w' = w := by
  go_enter Try.func32, Try.ntmps32
  go_wp2
  go_ret
  exact ⟨ret_int (round_math a), rfl⟩
set_option maxRecDepth 100000 in
set_option maxHeartbeats 4000000 in
theorem rscale_any (n m : Nat) (hn : n < P) (hm : m < 4294967296) (w : World) :
    Calls Try.prog 43 #[.agg (VI .i64 (dg n)), .int .i64 (m : Int)] w fun e w' => e = .returned (.agg (VI .i64 (dg (n * m % P)))) ∧ Below w.heap.size w w' := by
  have hmP : m < P := Nat.lt_trans hm (by decide)
  have CS : Hid (∀ w, Calls Try.prog 60 #[.int .i64 (m : Int)] w fun e w' => e = .returned (.agg (VI .i64 (dg m))) ∧ Below w.heap.size w w') := fun w => rsmall_any m hm w
  have CM : Hid (∀ w, Calls Try.prog 40 #[.agg (VI .i64 (dg n)), .agg (VI .i64 (dg m))] w fun e w' => e = .returned (.agg (VI .i64 (dg (n * m % P)))) ∧ Below w.heap.size w w') := fun w => rmul_any n m hn hmP w
  obtain ⟨W, hW⟩ : ∃ W, (w.alloc (.cells (VI .i64 (dg n)) 50)).alloc (.cells (VI .i64 (List.replicate 16 0)) 50) = W := ⟨_, rfl⟩
  have hr : rowI W w.heap.size (dg n) 50 ∧ rowI W (w.heap.size + 1) (List.replicate 16 0) 50 ∧ Below w.heap.size w W ∧ W.heap.size = w.heap.size + 2 := by
    rw [← hW]
    refine ⟨?_, ?_, ((Below.refl _ _).alloc (Nat.le_refl _) _).alloc (by simp) _, by simp [size_alloc]⟩
    all_goals simp only [rowI, heap_alloc_any, size_alloc]
    · rw [if_neg (by omega), if_pos trivial]
    · rw [if_pos trivial]
  have hW' : (w.alloc (.cells (VI .i64 (dg n)) 50)).alloc (.cells #[.int .i64 0, .int .i64 0, .int .i64 0, .int .i64 0, .int .i64 0, .int .i64 0, .int .i64 0, .int .i64 0, .int .i64 0, .int .i64 0, .int .i64 0, .int .i64 0, .int .i64 0, .int .i64 0, .int .i64 0, .int .i64 0] 50) = W := hW
  have HR : Hid (rowI W w.heap.size (dg n) 50 ∧ rowI W (w.heap.size + 1) (List.replicate 16 0) 50 ∧ Below w.heap.size w W ∧ W.heap.size = w.heap.size + 2) := hr
  have hrl : (dg (n * m % P)).length = 16 := dg_len _
  clear hr hW
  generalize hres : dg (n * m % P) = res at *
  have HRES : Hid (dg (n * m % P) = res) := hres
  have HRL : Hid (res.length = 16) := hrl
  have HSZ : Hid ((VI .i64 (List.replicate 16 0)).size = (VI .i64 res).size) := by
    have : (VI .i64 (List.replicate 16 0)).size = (VI .i64 res).size := by rw [VI_size, VI_size, hrl, List.length_replicate]
    exact this
  clear hres hrl
  go_enter Try.func43, Try.ntmps43
  go_wp2
  refine wp_region_held_drew (S := fun Y => rowI Y w.heap.size (dg n) 50 ∧ Below w.heap.size w Y) (by kernel_rfl) (⟨HR.out.1, HR.out.2.2.1.drew⟩) (fun hH => ?_)
  refine wpAnyH_take (i := 0) rfl (by kernel_rfl) (by kernel_rfl) (by kernel_rfl) (fun _ _ _ h => h) (yieldsIf_load_row (by kernel_rfl) 50 (.tmp 2) rfl w.heap.size rfl 50 (VI .i64 (dg n)) (0, 0) _ (fun _ h => h.1) Try.underlying50 rfl (infoN16 (dg_len n))) hH ?_
  try simp only [Act.put, List.setIfInBounds_toArray, List.set_cons_zero, List.set_cons_succ]
  refine wpAnyH_take (i := 1) (v := .int .i64 (m : Int)) rfl (by kernel_rfl) (by kernel_rfl) (by kernel_rfl) (fun _ _ _ h => h) (Or.inl ⟨by kernel_rfl, fun W hW => ?_⟩) hH ?_
  · go_simp
  try simp only [Act.put, List.setIfInBounds_toArray, List.set_cons_zero, List.set_cons_succ]
  refine wpAnyH_ready (rs := [2]) (by kernel_rfl) (by simp) (AllReadyH.cons rfl (fun K' hK => ?_) AllReadyH.nil)
  go_simp
  refine (CS.out _).mono ?_
  rintro e w3 ⟨rfl, hb3⟩
  have HR3 : Hid (rowI w3 (w.heap.size + 1) (List.replicate 16 0) 50 ∧ w.heap.size + 2 ≤ w3.heap.size) := ⟨(hb3.block _ (by have := HR.out.2.2.2; show _ < W.heap.size; omega)).trans HR.out.2.1, by have := HR.out.2.2.2; have h2 : W.heap.size ≤ w3.heap.size := hb3.size; omega⟩
  go_wp2_with fail
  refine hK.out _ _ ⟨(hb3.block _ (by have := HR.out.2.2.2; show _ < W.heap.size; omega)).trans hH.1, hH.2.trans (hb3.mono hH.2.size)⟩ (fun hH => ?_)
  clear hK K' hb3
  try simp only [Act.put, List.setIfInBounds_toArray, List.set_cons_zero, List.set_cons_succ]
  refine wpAnyH_ready (rs := [3]) (by kernel_rfl) (by simp) (AllReadyH.cons rfl (fun K' hK => ?_) AllReadyH.nil)
  go_simp
  refine (CM.out _).mono ?_
  rintro e w4 ⟨rfl, hb4⟩
  have HR4 : Hid (rowI w4 (w.heap.size + 1) (List.replicate 16 0) 50) := (hb4.block _ (by have := HR3.out.2; omega)).trans HR3.out.1
  go_wp2_with fail
  refine hK.out _ _ ⟨(hb4.block _ (by have := HR3.out.2; omega)).trans hH.1, hH.2.trans (hb4.mono hH.2.size)⟩ (fun hH => ?_)
  clear hK K' hb4
  try simp only [Act.put, List.setIfInBounds_toArray, List.set_cons_zero, List.set_cons_succ]
  refine wpAnyH_ready (rs := [4]) (by kernel_rfl) (by simp) (AllReadyH.cons rfl (fun K' hK => ?_) AllReadyH.nil)
  refine if_pos_mpr (by kernel_rfl) (wp_store_row 50 (.tmp 4) (.tmp 8) rfl (w.heap.size + 1) (VI .i64 res) rfl rfl 50 (VI .i64 (List.replicate 16 0)) HR4.out (infoN16 HRL.out) HSZ.out (VI_one _ _) ?_)
  refine hK.out _ _ ⟨(setRow_other _ _ _ _ (by omega)).trans hH.1, below_setRow hH.2 _ (by omega) _⟩ (fun hH => ?_)
  clear hK K'
  try simp only [Act.put, List.setIfInBounds_toArray, List.set_cons_zero, List.set_cons_succ]
  refine wpAnyH_done (by kernel_rfl) ?_ _
  try simp only [Act.put, List.getElem_toArray, List.getElem_cons_succ, List.getElem_cons_zero, List.getElem?_toArray, List.getElem?_cons_succ, List.getElem?_cons_zero, List.setIfInBounds_toArray, List.set_cons_zero, List.set_cons_succ]
  have HH : Hid (Below w.heap.size w (w4.setRow (w.heap.size + 1) (VI .i64 res))) := hH.2
  clear hH
  go_wp2
  refine bodyPost_ret (v := .agg (VI .i64 res)) ?_ rfl ⟨rfl, HH.out⟩
  exact results_cell_row (P := Try.prog) (fn := Try.f43) (p := 4) (ty := 50) rfl _ _ (w.heap.size + 1) 50 (VI .i64 res) (0, 0) _ rfl (setRow_heap _ _ _ _ 50 _ HR4.out) Try.underlying50 rfl (infoN16 HRL.out)
end Go.Proofs.Ytacofgmnmofkpaa
namespace Go.Proofs.Ytacofgmnmofkpaa
set_option linter.unusedSimpArgs false
open Go.ChangeShapes Go.WideShapes Go.ChangeAt Go.RowKit Go.Pin Go.Fld
/-- one round of Power -/
def pst (n x : Nat) (b : Int) : Nat := if b = 0 then x * x % P else x * x % P * n % P
def pwr (n : Nat) (b : List Int) : Nat := b.foldl (pst n) 1
theorem pst_lt (n x : Nat) (b : Int) : pst n x b < P := by unfold pst; split <;> exact Nat.mod_lt _ (by decide)
theorem pwr_snoc (n : Nat) (b : List Int) (x : Int) : pwr n (b ++ [x]) = pst n (pwr n b) x := by simp [pwr]
theorem pwr_lt (n : Nat) (b : List Int) : pwr n b < P := by
  rcases List.eq_nil_or_concat b with rfl | ⟨l, x, rfl⟩
  · show 1 < P; decide
  · rw [List.concat_eq_append, pwr_snoc]; exact pst_lt _ _ _
theorem pwr_take (n : Nat) (b : List Int) (k : Nat) (hk : k < b.length) : pwr n (b.take (k + 1)) = pst n (pwr n (b.take k)) (b.getD k 0) := by
  rw [List.take_succ_eq_append_getElem hk, pwr_snoc, List.getD_eq_getElem?_getD, List.getElem?_eq_getElem hk]; rfl
structure QW (N X : Nat) (w : World) (a x : List Int) (wr : World) : Prop where
  old : Below N w wr
  sz : N + 2 ≤ X ∧ X < wr.heap.size
  ha : rowI wr N a 50
  hr : rowI wr (N + 1) (List.replicate 16 0) 50
  hx : rowI wr X x 50
theorem QW.below {N X : Nat} {w wr w' : World} {a x : List Int} (h : QW N X w a x wr) (hb : Below wr.heap.size wr w') : QW N X w a x w' :=
  have hs := h.sz
  ⟨h.old.trans (hb.mono (by omega)), ⟨hs.1, Nat.lt_of_lt_of_le hs.2 hb.size⟩, (hb.block _ (by omega)).trans h.ha, (hb.block _ (by omega)).trans h.hr, (hb.block _ hs.2).trans h.hx⟩
theorem QW.row {N X : Nat} {w wr : World} {a x : List Int} (h : QW N X w a x wr) (y : List Int) : QW N X w a y (wr.setRow X (VI .i64 y)) :=
  have b := but_setRow wr X (VI .i64 y)
  have hs := h.sz
  ⟨h.old.trans (b.below (fun k hk => by omega)), ⟨hs.1, by rw [b.size]; exact hs.2⟩, (b.block _ (by omega)).trans h.ha, (b.block _ (by omega)).trans h.hr, setRow_heap _ _ _ _ _ _ h.hx⟩
theorem sz16 {a b : List Int} (ha : a.length = 16) (hb : b.length = 16) : (VI .i64 a).size = (VI .i64 b).size := by rw [VI_size, VI_size, ha, hb]
set_option maxRecDepth 100000 in
set_option maxHeartbeats 8000000 in
theorem rpower_any (n : Nat) (hn : n < P) (b : List Int) (hbl : b.length ≤ 100000) (g cap : Nat) (w : World) (hg : g < w.heap.size) (hc : ∀ j, j < b.length → w.cell? ⟨g, j, none⟩ = some (.int .i64 (b.getD j 0))) :
    Calls Try.prog 61 #[.agg (VI .i64 (dg n)), .slice (some ⟨g, 0, none⟩) b.length cap] w fun e w' => e = .returned (.agg (VI .i64 (dg (pwr n b)))) ∧ Below w.heap.size w w' := by
  obtain ⟨W, hW⟩ : ∃ W, (w.alloc (.cells (VI .i64 (dg n)) 50)).alloc (.cells (VI .i64 (List.replicate 16 0)) 50) = W := ⟨_, rfl⟩
  have hr : rowI W w.heap.size (dg n) 50 ∧ rowI W (w.heap.size + 1) (List.replicate 16 0) 50 ∧ Below w.heap.size w W ∧ W.heap.size = w.heap.size + 2 := by
    rw [← hW]
    refine ⟨?_, ?_, ((Below.refl _ _).alloc (Nat.le_refl _) _).alloc (by simp) _, by simp [size_alloc]⟩
    all_goals simp only [rowI, heap_alloc_any, size_alloc]
    · rw [if_neg (by omega), if_pos trivial]
    · rw [if_pos trivial]
  have hW' : (w.alloc (.cells (VI .i64 (dg n)) 50)).alloc (.cells #[.int .i64 0, .int .i64 0, .int .i64 0, .int .i64 0, .int .i64 0, .int .i64 0, .int .i64 0, .int .i64 0, .int .i64 0, .int .i64 0, .int .i64 0, .int .i64 0, .int .i64 0, .int .i64 0, .int .i64 0, .int .i64 0] 50) = W := hW
  have HR : Hid (rowI W w.heap.size (dg n) 50 ∧ rowI W (w.heap.size + 1) (List.replicate 16 0) 50 ∧ Below w.heap.size w W ∧ W.heap.size = w.heap.size + 2) := hr
  have HN : Hid (n < P) := hn
  have HC : Hid (∀ j, j < b.length → w.cell? ⟨g, j, none⟩ = some (.int .i64 (b.getD j 0))) := hc
  have CS : Hid (∀ w, Calls Try.prog 60 #[.int .i64 1] w fun e w' => e = .returned (.agg (VI .i64 (dg 1))) ∧ Below w.heap.size w w') := fun w => rsmall_any 1 (by decide) w
  clear hr hW hn hc
  go_enter Try.func61, Try.ntmps61
  go_wp2_with (first | (go_at_call 60; refine (CS.out W).mono ?_; rintro e w1 ⟨rfl, hb1⟩; have HB1 : Hid (Below W.heap.size W w1) := hb1; clear hb1) | (with_reducible refine at_list ?_; refine hold_store 50 (.tmp 5) (.tmp 7) rfl ?_))
  refine store_row_new rfl 50 (.tmp 5) (.tmp 7) rfl w1.heap.size (VI .i64 (dg 1)) rfl rfl rfl 50 (VI .i64 (List.replicate 16 0)) (infoN16 (dg_len 1)) (sz16 (by simp) (dg_len 1)) (VI_one _ _) ?_
  have hq : QW w.heap.size w1.heap.size w (dg n) (dg (pwr n (b.take 0))) (w1.alloc (.cells (VI .i64 (dg 1)) 50)) := by
    have hs := HR.out.2.2.2
    have h1 := HB1.out.size
    refine ⟨(HR.out.2.2.1.trans (HB1.out.mono HR.out.2.2.1.size)).alloc (by omega) _, ⟨by omega, by simp [size_alloc]⟩, ?_, ?_, ?_⟩
    · simp only [rowI, heap_alloc_any]; rw [if_neg (by omega)]; exact (HB1.out.block _ (by omega)).trans HR.out.1
    · simp only [rowI, heap_alloc_any]; rw [if_neg (by omega)]; exact (HB1.out.block _ (by omega)).trans HR.out.2.1
    · simp only [rowI, heap_alloc_any, if_true]; rfl
  obtain ⟨X, hX⟩ : ∃ X, w1.heap.size = X := ⟨_, rfl⟩
  rw [hX] at hq
  simp only [hX]
  obtain ⟨W2, hW2⟩ : ∃ W2, w1.alloc (.cells (VI .i64 (dg 1)) 50) = W2 := ⟨_, rfl⟩
  rw [hW2] at hq ⊢
  have HQ : Hid (QW w.heap.size X w (dg n) (dg (pwr n (b.take 0))) W2) := hq
  clear hq hX hW2 HB1 HR hW'
  go_wp2
  go_loopw [6] (fun i w' => ∃ k : Nat, k ≤ b.length ∧ i = .int .i64 k ∧ QW w.heap.size X w (dg n) (dg (pwr n (b.take k))) w') (fun i _ => b.length - (intOf i).toNat)
  case atStart => exact ⟨0, Nat.zero_le _, rfl, HQ.out⟩
  case round =>
    clear HQ
    obtain ⟨k, hk, rfl, hp⟩ := hrel
    by_cases hlt : k < b.length
    · have hpt := pwr_take n b k hlt
      have hxl := pwr_lt n (b.take k)
      obtain ⟨x, hx⟩ : ∃ x, pwr n (b.take k) = x := ⟨_, rfl⟩
      rw [hx] at hpt hxl hp
      have HP : Hid (QW w.heap.size X w (dg n) (dg x) wr) := hp
      have CM1 : Hid (∀ w, Calls Try.prog 40 #[.agg (VI .i64 (dg x)), .agg (VI .i64 (dg x))] w fun e w' => e = .returned (.agg (VI .i64 (dg (x * x % P)))) ∧ Below w.heap.size w w') := fun w => rmul_any x x hxl hxl w
      have CM2 : Hid (∀ w, Calls Try.prog 40 #[.agg (VI .i64 (dg (x * x % P))), .agg (VI .i64 (dg n))] w fun e w' => e = .returned (.agg (VI .i64 (dg (x * x % P * n % P)))) ∧ Below w.heap.size w w') := fun w => rmul_any (x * x % P) n (Nat.mod_lt _ (by decide)) HN.out w
      have HCk : Hid (∀ Y, Below w.heap.size w Y → Y.cell? ⟨g, k, none⟩ = some (.int .i64 (b.getD k 0))) := fun Y hY => (hY.cell (p := ⟨g, k, none⟩) hg).trans (HC.out k hlt)
      have HPT : Hid (pwr n (b.take (k + 1)) = pst n x (b.getD k 0)) := hpt
      clear hpt hp hxl hx HC
      generalize b.getD k 0 = c at *
      generalize hq1 : x * x % P = q1 at *
      generalize hq2 : q1 * n % P = q2 at *
      have HQ1 : Hid (x * x % P = q1) := hq1
      have HQ2 : Hid (q1 * n % P = q2) := hq2
      clear hq1 hq2
      by_cases hc0 : c = 0
      · have hcd : decide (c = 0) = true := by simpa using hc0
        go_wp2_with (first | (go_at_call 40; refine (CM1.out _).mono ?_; rintro e w3 ⟨rfl, hb3⟩; have H3 : Hid (QW w.heap.size X w (dg n) (dg x) w3) := HP.out.below hb3; clear hb3; have H4 : Hid (QW w.heap.size X w (dg n) (dg q1) (w3.setRow X (VI .i64 (dg q1)))) := H3.out.row _; have hck := HCk.out _ H4.out.old) | (with_reducible refine at_list ?_; first | (refine wpList_load_row rfl 50 (.tmp 5) rfl X rfl 50 (VI .i64 (dg x)) (0, 0) _ HP.out.hx Try.underlying50 rfl (infoN16 (dg_len x)) ?_) | (refine wpList_store_row rfl 50 (.tmp 5) (.tmp 16) rfl X (VI .i64 (dg q1)) rfl rfl 50 (VI .i64 (dg x)) H3.out.hx (infoN16 (dg_len q1)) (sz16 (dg_len x) (dg_len q1)) (VI_one _ _) ?_)))
        go_roundw
        case rel => exact ⟨k + 1, by omega, by go_num, by rw [HPT.out, pst, if_pos hc0, HQ1.out]; exact H4.out⟩
        case measure => simp [intOf]; omega
      · have hcd : decide (c = 0) = false := by simpa using hc0
        go_wp2_with (first | (go_at_call 40; refine (CM1.out _).mono ?_; rintro e w3 ⟨rfl, hb3⟩; have H3 : Hid (QW w.heap.size X w (dg n) (dg x) w3) := HP.out.below hb3; clear hb3 CM1; have H4 : Hid (QW w.heap.size X w (dg n) (dg q1) (w3.setRow X (VI .i64 (dg q1)))) := H3.out.row _; have hck := HCk.out _ H4.out.old) | (go_at_call 40; refine (CM2.out _).mono ?_; rintro e w5 ⟨rfl, hb5⟩; have H5 : Hid (QW w.heap.size X w (dg n) (dg q1) w5) := H4.out.below hb5; clear hb5; have H6 : Hid (QW w.heap.size X w (dg n) (dg q2) (w5.setRow X (VI .i64 (dg q2)))) := H5.out.row _) | (with_reducible refine at_list ?_; first | (refine wpList_load_row rfl 50 (.tmp 5) rfl X rfl 50 (VI .i64 (dg x)) (0, 0) _ HP.out.hx Try.underlying50 rfl (infoN16 (dg_len x)) ?_) | (refine wpList_store_row rfl 50 (.tmp 5) (.tmp 16) rfl X (VI .i64 (dg q1)) rfl rfl 50 (VI .i64 (dg x)) H3.out.hx (infoN16 (dg_len q1)) (sz16 (dg_len x) (dg_len q1)) (VI_one _ _) ?_) | (refine wpList_load_row rfl 50 (.tmp 5) rfl X rfl 50 (VI .i64 (dg q1)) (0, 0) _ H4.out.hx Try.underlying50 rfl (infoN16 (dg_len q1)) ?_) | (refine wpList_load_row rfl 50 (.tmp 2) rfl w.heap.size rfl 50 (VI .i64 (dg n)) (0, 0) _ H4.out.ha Try.underlying50 rfl (infoN16 (dg_len n)) ?_) | (refine wpList_store_row rfl 50 (.tmp 5) (.tmp 24) rfl X (VI .i64 (dg q2)) rfl rfl 50 (VI .i64 (dg q1)) H5.out.hx (infoN16 (dg_len q2)) (sz16 (dg_len q1) (dg_len q2)) (VI_one _ _) ?_)))
        go_roundw
        case rel => exact ⟨k + 1, by omega, by go_num, by rw [HPT.out, pst, if_neg hc0, HQ1.out, HQ2.out]; exact H6.out⟩
        case measure => simp [intOf]; omega
    · have hk' : k = b.length := by omega
      subst hk'
      rw [List.take_length] at hp
      have HP : Hid (QW w.heap.size X w (dg n) (dg (pwr n b)) wr) := hp
      generalize hres : dg (pwr n b) = res at *
      have HRES : Hid (dg (pwr n b) = res) := hres
      have HRL : Hid (res.length = 16) := by
        have : res.length = 16 := by rw [← hres]; exact dg_len _
        exact this
      clear hp hres HC
      go_wp2_with (with_reducible refine at_list ?_; first | (refine wpList_load_row rfl 50 (.tmp 5) rfl X rfl 50 (VI .i64 res) (0, 0) _ HP.out.hx Try.underlying50 rfl (infoN16 HRL.out) ?_) | (refine wpList_store_row rfl 50 (.tmp 4) (.tmp 25) rfl (w.heap.size + 1) (VI .i64 res) rfl rfl 50 (VI .i64 (List.replicate 16 0)) HP.out.hr (infoN16 HRL.out) (sz16 (by simp) HRL.out) (VI_one _ _) ?_))
      refine bodyPost_ret (v := .agg (VI .i64 res)) ?_ rfl ⟨by first | rfl | rw [HRES.out], below_setRow HP.out.old _ (by omega) _⟩
      exact results_cell_row (P := Try.prog) (fn := Try.f61) (p := 4) (ty := 50) rfl _ _ (w.heap.size + 1) 50 (VI .i64 res) (0, 0) _ rfl (setRow_heap _ _ _ _ 50 _ HP.out.hr) Try.underlying50 rfl (infoN16 HRL.out)
end Go.Proofs.Ytacofgmnmofkpaa
namespace Go.Prm
/-- prime -/
structure Pr (r : Nat) : Prop where
  two : 2 ≤ r
  div : ∀ d, d ∣ r → d = 1 ∨ d = r
theorem Pr.euclid {r a b : Nat} (h : Pr r) (hd : r ∣ a * b) : r ∣ a ∨ r ∣ b := by
  rcases h.div (Nat.gcd r a) (Nat.gcd_dvd_left r a) with g | g
  · exact .inr (Nat.Coprime.dvd_of_dvd_mul_left g hd)
  · exact .inl (g ▸ Nat.gcd_dvd_right r a)
/-! binomials -/
def ch : Nat → Nat → Nat
  | _, 0 => 1
  | 0, _ + 1 => 0
  | n + 1, k + 1 => ch n k + ch n (k + 1)
theorem ch_zero (n : Nat) : ch n 0 = 1 := by cases n <;> rfl
theorem ch_big : ∀ n k, n < k → ch n k = 0
  | _, 0, h => by omega
  | 0, k + 1, _ => rfl
  | n + 1, k + 1, h => by rw [ch, ch_big n k (by omega), ch_big n (k + 1) (by omega)]
theorem ch_self : ∀ n, ch n n = 1
  | 0 => rfl
  | n + 1 => by rw [ch, ch_self n, ch_big n (n + 1) (by omega)]
theorem ch_mul : ∀ n k, (k + 1) * ch (n + 1) (k + 1) = (n + 1) * ch n k
  | 0, 0 => rfl
  | 0, k + 1 => by rw [ch_big 1 (k + 2) (by omega), ch_big 0 (k + 1) (by omega)]; rfl
  | n + 1, 0 => by
    have h := ch_mul n 0
    have e : ch (n + 1 + 1) (0 + 1) = ch (n + 1) 0 + ch (n + 1) (0 + 1) := rfl
    rw [ch_zero] at h
    rw [e, ch_zero]
    omega
  | n + 1, k + 1 => by
    have h1 := ch_mul n k
    have h2 := ch_mul n (k + 1)
    have e : ch (n + 1) (k + 1) = ch n k + ch n (k + 1) := rfl
    have e2 : ch (n + 2) (k + 2) = ch (n + 1) (k + 1) + ch (n + 1) (k + 2) := rfl
    rw [e2]
    have : (k + 2) * ch (n + 1) (k + 1) = (k + 1) * ch (n + 1) (k + 1) + ch (n + 1) (k + 1) := by rw [Nat.add_mul (k + 1) 1]; omega
    rw [Nat.mul_add, this, h1, h2, e]
    grind
def S (a n : Nat) : Nat → Nat
  | 0 => 0
  | m + 1 => S a n m + ch n m * a ^ m
theorem S_succ (a n : Nat) : ∀ m, S a (n + 1) (m + 1) = S a n (m + 1) + a * S a n m
  | 0 => by simp [S, ch_zero]
  | m + 1 => by
    have ih := S_succ a n m
    rw [S, ih]
    have e : ch (n + 1) (m + 1) = ch n m + ch n (m + 1) := rfl
    rw [e]
    simp only [S]
    grind
theorem S_pow (a : Nat) : ∀ n, (a + 1) ^ n = S a n (n + 1)
  | 0 => by simp [S, ch]
  | n + 1 => by
    rw [Nat.pow_succ, S_pow a n, S_succ]
    have : S a n (n + 2) = S a n (n + 1) := by rw [S, ch_big n (n + 1) (by omega)]; simp
    rw [this]
    grind
theorem Pr.ch_dvd {r : Nat} (h : Pr r) {k : Nat} (h0 : 0 < k) (h1 : k < r) : r ∣ ch r k := by
  obtain ⟨n, rfl⟩ : ∃ n, r = n + 1 := ⟨r - 1, by omega⟩
  obtain ⟨j, rfl⟩ : ∃ j, k = j + 1 := ⟨k - 1, by omega⟩
  have := ch_mul n j
  rcases h.euclid (a := j + 1) (b := ch (n + 1) (j + 1)) ⟨_, this⟩ with g | g
  · exact absurd (Nat.le_of_dvd (by omega) g) (by omega)
  · exact g
theorem Pr.S_mod {r : Nat} (h : Pr r) (a : Nat) : ∀ m, m < r → S a r (m + 1) % r = 1 % r
  | 0, _ => by simp [S, ch_zero]
  | m + 1, hm => by
    have ih := h.S_mod a m (by omega)
    rw [S, Nat.add_mod, ih]
    have hd : ch r (m + 1) * a ^ (m + 1) % r = 0 := Nat.mod_eq_zero_of_dvd (Nat.dvd_trans (h.ch_dvd (by omega) hm) (Nat.dvd_mul_right _ _))
    rw [hd]; simp
theorem Pr.fermat {r : Nat} (h : Pr r) : ∀ a, a ^ r % r = a % r
  | 0 => by
    have := h.two
    rw [Nat.zero_pow (by omega)]
  | a + 1 => by
    have ih := h.fermat a
    have h2 := h.two
    have hs := h.S_mod a (r - 1) (by omega)
    rw [show r - 1 + 1 = r by omega] at hs
    rw [S_pow, S, ch_self, Nat.one_mul, Nat.add_mod, hs, ih, ← Nat.add_mod, Nat.add_comm]
theorem Pr.little {r : Nat} (h : Pr r) {a : Nat} (ha : a % r ≠ 0) : a ^ (r - 1) % r = 1 := by
  have h2 := h.two
  have hf := h.fermat a
  have hpos : 0 < a := by
    rcases Nat.eq_zero_or_pos a with e | e
    · rw [e] at ha; simp at ha
    · exact e
  have h1 : 1 ≤ a ^ (r - 1) := Nat.pow_pos hpos
  have e : a ^ r = a * (a ^ (r - 1) - 1) + a := by
    have : a ^ r = a * a ^ (r - 1) := by rw [← Nat.pow_succ']; congr 1; omega
    rw [this, Nat.mul_sub, Nat.mul_one]
    have : a ≤ a * a ^ (r - 1) := Nat.le_mul_of_pos_right a h1
    omega
  have hd : r ∣ a * (a ^ (r - 1) - 1) := by
    rw [e] at hf
    have h3 : (a * (a ^ (r - 1) - 1) + a) % r = (0 + a) % r := by rw [hf, Nat.zero_add]
    have h4 := Nat.sub_mod_eq_zero_of_mod_eq h3
    rw [Nat.zero_add, Nat.add_sub_cancel] at h4
    exact Nat.dvd_of_mod_eq_zero h4
  rcases h.euclid hd with g | g
  · exact absurd (Nat.mod_eq_zero_of_dvd g) ha
  · obtain ⟨c, hc⟩ := g
    have : a ^ (r - 1) = r * c + 1 := by omega
    rw [this, Nat.mul_add_mod]
    exact Nat.mod_eq_of_lt (by omega)
theorem pow_gcd (a r : Nat) (hr : 1 < r) : ∀ m n, a ^ m % r = 1 → a ^ n % r = 1 → a ^ Nat.gcd m n % r = 1 := by
  intro m n
  induction m, n using Nat.gcd.induction with
  | H0 n => intro _ h; rw [Nat.gcd_zero_left]; exact h
  | H1 m n hm ih =>
    intro h1 h2
    rw [Nat.gcd_rec]
    apply ih _ h1
    have e : a ^ n = (a ^ m) ^ (n / m) * a ^ (n % m) := by rw [← Nat.pow_mul, ← Nat.pow_add, Nat.div_add_mod]
    rw [e, Nat.mul_mod, Nat.pow_mod, h1, Nat.one_pow, Nat.mod_eq_of_lt hr, Nat.one_mul, Nat.mod_mod] at h2
    exact h2
theorem least_div : ∀ n, 2 ≤ n → ∃ r, Pr r ∧ r ∣ n ∧ (r = n ∨ r * r ≤ n) := by
  intro n hn
  have key : ∀ m, m ≤ n → (∀ d, 2 ≤ d → d < m → ¬ d ∣ n) ∨ ∃ r, 2 ≤ r ∧ r ∣ n ∧ ∀ d, 2 ≤ d → d < r → ¬ d ∣ n := by
    intro m
    induction m with
    | zero => intro _; exact .inl (fun d _ h => by omega)
    | succ m ih =>
      intro hm
      rcases ih (by omega) with g | g
      · by_cases h : 2 ≤ m ∧ m ∣ n
        · exact .inr ⟨m, h.1, h.2, g⟩
        · refine .inl (fun d h2 hd hdn => ?_)
          by_cases e : d = m
          · subst e; exact h ⟨h2, hdn⟩
          · exact g d h2 (by omega) hdn
      · exact .inr g
  have : ∃ r, 2 ≤ r ∧ r ∣ n ∧ ∀ d, 2 ≤ d → d < r → ¬ d ∣ n := by
    rcases key n (Nat.le_refl _) with g | g
    · exact ⟨n, hn, Nat.dvd_refl n, g⟩
    · exact g
  obtain ⟨r, h2, hd, hmin⟩ := this
  refine ⟨r, ⟨h2, fun d hdr => ?_⟩, hd, ?_⟩
  · by_cases h1 : 2 ≤ d
    · have := Nat.le_of_dvd (by omega) hdr
      by_cases e : d = r
      · exact .inr e
      · exact absurd (Nat.dvd_trans hdr hd) (hmin d h1 (by omega))
    · have : 0 < d := Nat.pos_of_dvd_of_pos hdr (by omega)
      exact .inl (by omega)
  · obtain ⟨s, hs⟩ := hd
    by_cases e : r = n
    · exact .inl e
    · right
      have hs2 : 2 ≤ s := by
        rcases Nat.lt_or_ge s 2 with g | g
        · have : s = 0 ∨ s = 1 := by omega
          rcases this with rfl | rfl
          · omega
          · omega
        · exact g
      have : r ≤ s := by
        rcases Nat.lt_or_ge s r with g | g
        · exact absurd ⟨r, by rw [hs, Nat.mul_comm]⟩ (hmin s hs2 g)
        · exact g
      rw [hs]
      exact Nat.mul_le_mul_left r this
/-- a prime q that divides N - 1, and a witness: q divides r - 1 for each prime r of N -/
theorem pock {N q a m r : Nat} (hq : Pr q) (hN : N - 1 = q * m) (h1 : a ^ (N - 1) % N = 1) (hg : Nat.gcd (a ^ m % N + (N - 1)) N = 1) (hN2 : 2 ≤ N) (hr : Pr r) (hrN : r ∣ N) : q ∣ r - 1 := by
  have r2 := hr.two
  have one : ∀ x, x % N = 1 → x % r = 1 := fun x hx => by
    have := Nat.mod_mod_of_dvd x hrN
    rw [hx] at this
    rw [← this]
    exact Nat.mod_eq_of_lt (by omega)
  have ha : a ^ (N - 1) % r = 1 := one _ h1
  have ha0 : a % r ≠ 0 := by
    intro e
    have : a ^ (N - 1) % r = 0 := by
      rw [Nat.pow_mod, e, Nat.zero_pow (by omega), Nat.zero_mod]
    omega
  have hl := hr.little ha0
  have hgcd := pow_gcd a r (by omega) (N - 1) (r - 1) ha hl
  rcases hq.div (Nat.gcd q (Nat.gcd (N - 1) (r - 1))) (Nat.gcd_dvd_left _ _) with g | g
  · exfalso
    have hdm : Nat.gcd (N - 1) (r - 1) ∣ m := by
      have h3 : Nat.gcd (N - 1) (r - 1) ∣ m * q := by
        rw [Nat.mul_comm m q, ← hN]
        exact Nat.gcd_dvd_left _ _
      exact Nat.Coprime.dvd_of_dvd_mul_right (k := Nat.gcd (N - 1) (r - 1)) (n := q) (m := m) (Nat.Coprime.symm g) h3
    obtain ⟨c, hc⟩ := hdm
    have hm1 : a ^ m % r = 1 := by
      rw [hc, Nat.pow_mul, Nat.pow_mod, hgcd, Nat.one_pow]
      exact Nat.mod_eq_of_lt (by omega)
    have hx : r ∣ a ^ m % N + (N - 1) := by
      apply Nat.dvd_of_mod_eq_zero
      have e1 : a ^ m % N % r = 1 := by rw [Nat.mod_mod_of_dvd _ hrN]; exact hm1
      obtain ⟨t, ht⟩ := hrN
      have ht0 : 0 < t := by
        rcases Nat.eq_zero_or_pos t with e | e
        · rw [e] at ht; omega
        · exact e
      have e2 : (N - 1) % r = r - 1 := by
        obtain ⟨u, rfl⟩ : ∃ u, t = u + 1 := ⟨t - 1, by omega⟩
        have : N - 1 = r * u + (r - 1) := by rw [ht, Nat.mul_add]; omega
        rw [this, Nat.mul_add_mod]
        exact Nat.mod_eq_of_lt (by omega)
      rw [Nat.add_mod, e1, e2, show 1 + (r - 1) = r by omega, Nat.mod_self]
    have hd1 := Nat.dvd_gcd hx hrN
    rw [hg] at hd1
    have := Nat.le_of_dvd (by omega) hd1
    omega
  · have h3 : q ∣ Nat.gcd (N - 1) (r - 1) := by rw [← g]; exact Nat.gcd_dvd_right _ _
    exact Nat.dvd_trans h3 (Nat.gcd_dvd_right _ _)
theorem pock2 {N p q a m n : Nat} (hp : Pr p) (hq : Pr q) (hpq : p ≠ q) (hN2 : 2 ≤ N) (hm : N - 1 = p * m) (hn : N - 1 = q * n) (h1 : a ^ (N - 1) % N = 1)
    (gm : Nat.gcd (a ^ m % N + (N - 1)) N = 1) (gn : Nat.gcd (a ^ n % N + (N - 1)) N = 1) (hF : N < p * q * (p * q)) : Pr N := by
  obtain ⟨r, hr, hrN, hc⟩ := least_div N hN2
  rcases hc with rfl | hc
  · exact hr
  · exfalso
    have d1 := pock hp hm h1 gm hN2 hr hrN
    have d2 := pock hq hn h1 gn hN2 hr hrN
    have hcop : Nat.Coprime p q := by
      rcases hp.div (Nat.gcd p q) (Nat.gcd_dvd_left _ _) with g | g
      · exact g
      · have h3 : p ∣ q := by rw [← g]; exact Nat.gcd_dvd_right _ _
        rcases hq.div p h3 with e | e
        · have := hp.two; omega
        · exact absurd e hpq
    have d3 := Nat.Coprime.mul_dvd_of_dvd_of_dvd hcop d1 d2
    have r2 := hr.two
    have h4 := Nat.le_of_dvd (by omega) d3
    have h5 : p * q * (p * q) ≤ r * r := Nat.mul_le_mul (by omega) (by omega)
    omega
/-- powers by squaring -/
def pm (N : Nat) : Nat → Nat → Nat → Nat
  | 0, _, _ => 1 % N
  | f + 1, a, e => if e % 2 = 1 then a * pm N f (a * a % N) (e / 2) % N else pm N f (a * a % N) (e / 2)
theorem pm_eq (N : Nat) : ∀ f a e, e < 2 ^ f → pm N f a e = a ^ e % N
  | 0, a, e, h => by
    have : e = 0 := by omega
    subst this; simp [pm]
  | f + 1, a, e, h => by
    have ih := pm_eq N f (a * a % N) (e / 2) (by rw [Nat.pow_succ] at h; omega)
    have hsq : (a * a % N) ^ (e / 2) % N = a ^ (2 * (e / 2)) % N := by
      rw [← Nat.pow_mod, Nat.pow_mul, Nat.pow_two]
    rw [pm, ih, hsq]
    by_cases h2 : e % 2 = 1
    · rw [if_pos h2, Nat.mul_mod, Nat.mod_mod, ← Nat.mul_mod, ← Nat.pow_succ']
      congr 2; omega
    · rw [if_neg h2]
      congr 2; omega
theorem pock3 {N p q a m n : Nat} (f : Nat) (hf : N < 2 ^ f) (hp : Pr p) (hq : Pr q) (hpq : p ≠ q) (hN2 : 2 ≤ N) (hm : N - 1 = p * m) (hn : N - 1 = q * n) (h1 : pm N f a (N - 1) = 1)
    (gm : Nat.gcd (pm N f a m + (N - 1)) N = 1) (gn : Nat.gcd (pm N f a n + (N - 1)) N = 1) (hF : N < p * q * (p * q)) : Pr N := by
  have hp0 : 0 < p := by have := hp.two; omega
  have hq0 : 0 < q := by have := hq.two; omega
  have lm : m ≤ N - 1 := by rw [hm]; exact Nat.le_mul_of_pos_left m hp0
  have ln : n ≤ N - 1 := by rw [hn]; exact Nat.le_mul_of_pos_left n hq0
  rw [pm_eq N f a _ (by omega)] at h1 gm gn
  exact pock2 hp hq hpq hN2 hm hn h1 gm gn hF
/-- trial division -/
def tri (n : Nat) : Nat → Nat → Bool
  | 0, _ => true
  | f + 1, d => n % d != 0 && tri n f (d + 1)
theorem tri_ok (n : Nat) : ∀ f d, tri n f d = true → ∀ x, d ≤ x → x < d + f → ¬ x ∣ n
  | 0, d, _, x, h1, h2 => by omega
  | f + 1, d, h, x, h1, h2 => by
    rw [tri, Bool.and_eq_true] at h
    by_cases e : x = d
    · subst e
      intro hd
      have := Nat.mod_eq_zero_of_dvd hd
      simp [this] at h
    · exact tri_ok n f (d + 1) h.2 x (by omega) (by omega)
theorem pr_trial {n f : Nat} (hn : 2 ≤ n) (h : tri n f 2 = true) (hf : n < (f + 2) * (f + 2)) : Pr n := by
  obtain ⟨r, hr, hrN, hc⟩ := least_div n hn
  rcases hc with rfl | hc
  · exact hr
  · exfalso
    have hlt : r < f + 2 := by
      rcases Nat.lt_or_ge r (f + 2) with g | g
      · exact g
      · have := Nat.mul_le_mul g g; omega
    exact tri_ok n f 2 h r hr.two (by omega) hrN
end Go.Prm
namespace Go.Proofs.Ytacofgmnmofkpaa
open Go.Fld Go.Prm
theorem pr_127 : Pr 127 := pr_trial (f := 11) (by decide) (by decide +kernel) (by decide)
theorem pr_57467 : Pr 57467 := pr_trial (f := 239) (by decide) (by decide +kernel) (by decide)
theorem pr_65147 : Pr 65147 := pr_trial (f := 255) (by decide) (by decide +kernel) (by decide)
theorem pr_75707 : Pr 75707 := pr_trial (f := 275) (by decide) (by decide +kernel) (by decide)
theorem pr_8574133 : Pr 8574133 := pr_trial (f := 2928) (by decide) (by decide +kernel) (by decide)
theorem pr_1919519569386763 : Pr 1919519569386763 := by
  exact pock3 (a := 2) (m := 223873314) (n := 15114327318006) 51 (by decide) pr_8574133 pr_127 (by decide) (by decide) (by decide) (by decide) (by decide +kernel) (by decide +kernel) (by decide +kernel) (by decide)
theorem pr_75445702479781427272750846543864801 : Pr 75445702479781427272750846543864801 := by
  exact pock3 (a := 2) (m := 39304471641247389600) (n := 996548568557483816196003626400) 116 (by decide) pr_1919519569386763 pr_75707 (by decide) (by decide) (by decide) (by decide) (by decide +kernel) (by decide +kernel) (by decide +kernel) (by decide)
theorem pr_74058212732561358302231226437062788676166966415465897661863160754340907 : Pr 74058212732561358302231226437062788676166966415465897661863160754340907 := by
  exact pock3 (a := 2) (m := 981609426360740691344999861639072106) (n := 1288708523719027586305727224964984924846728842909250485702458119518) 236 (by decide) pr_75445702479781427272750846543864801 pr_57467 (by decide) (by decide) (by decide) (by decide) (by decide +kernel) (by decide +kernel) (by decide +kernel) (by decide)
theorem pr_57896044618658097711785492504343953926634992332820282019728792003956564819949 : Pr 57896044618658097711785492504343953926634992332820282019728792003956564819949 := by
  exact pock3 (a := 2) (m := 781764) (n := 888698552790736299626774717244753464114003596985590771942357929052090884) 255 (by decide) pr_74058212732561358302231226437062788676166966415465897661863160754340907 pr_65147 (by decide) (by decide) (by decide) (by decide) (by decide +kernel) (by decide +kernel) (by decide +kernel) (by decide)
theorem prP : Pr P := pr_57896044618658097711785492504343953926634992332820282019728792003956564819949
/-! powers modulo P -/
theorem sqn_pow {a e f g : Nat} (x : Nat) (hx : x = a ^ e % P) (hf : f = a ^ g % P) : sqn x f = a ^ (2 * e + g) % P := by
  rw [sqn, hx, hf, ← Nat.mul_mod (a ^ e) (a ^ e), ← Nat.mul_mod, ← Nat.pow_add, ← Nat.pow_add]
  congr 2
  omega
theorem pwn_pow (a : Nat) (ha : a < P) : ∀ k, pwn a k = a ^ (2 ^ (k + 1) - 1) % P
  | 0 => by rw [pwn, show 2 ^ (0 + 1) - 1 = 1 from rfl, Nat.pow_one, Nat.mod_eq_of_lt ha]
  | k + 1 => by
    rw [pwn, sqn_pow (g := 1) _ (pwn_pow a ha k) (by rw [Nat.pow_one, Nat.mod_eq_of_lt ha])]
    congr 2
    have : 1 ≤ 2 ^ (k + 1) := Nat.pow_pos (by decide)
    rw [Nat.pow_succ 2 (k + 1)]
    omega
theorem one_pow0 (a : Nat) : 1 = a ^ 0 % P := by rw [Nat.pow_zero]; decide
theorem qwn_pow (a : Nat) (ha : a < P) : qwn a 5 = a ^ (P - 2) % P := by
  have h1 : a = a ^ 1 % P := by rw [Nat.pow_one, Nat.mod_eq_of_lt ha]
  have h := pwn_pow a ha 249
  have q1 : qwn a 1 = _ := sqn_pow (g := 0) _ h (one_pow0 a)
  have q2 : qwn a 2 = _ := sqn_pow (g := 1) _ q1 h1
  have q3 : qwn a 3 = _ := sqn_pow (g := 0) _ q2 (one_pow0 a)
  have q4 : qwn a 4 = _ := sqn_pow (g := 1) _ q3 h1
  have q5 : qwn a 5 = _ := sqn_pow (g := 1) _ q4 h1
  rw [q5]
  congr 2
theorem inv_mul (a : Nat) (ha : a < P) (h0 : a ≠ 0) : a * qwn a 5 % P = 1 := by
  have hl := prP.little (a := a) (by rw [Nat.mod_eq_of_lt ha]; exact h0)
  rw [qwn_pow a ha, Nat.mul_mod, Nat.mod_mod, ← Nat.mul_mod, ← Nat.pow_succ']
  exact hl
theorem inv_zero : qwn 0 5 = 0 := by decide +kernel
theorem inv_lt (a : Nat) : qwn a 5 < P := Nat.mod_lt _ (by decide)
theorem mul_zero_iff (a b : Nat) (ha : a < P) (hb : b < P) : a * b % P = 0 ↔ a = 0 ∨ b = 0 := by
  constructor
  · intro h
    rcases prP.euclid (Nat.dvd_of_mod_eq_zero h) with g | g
    · left
      rcases Nat.eq_zero_or_pos a with e | e
      · exact e
      · have := Nat.le_of_dvd e g; omega
    · right
      rcases Nat.eq_zero_or_pos b with e | e
      · exact e
      · have := Nat.le_of_dvd e g; omega
  · rintro (rfl | rfl)
    · simp
    · simp
theorem inv_inv (a : Nat) (ha : a < P) : qwn (qwn a 5) 5 = a := by
  by_cases h0 : a = 0
  · rw [h0, inv_zero, inv_zero]
  · have h1 := inv_mul a ha h0
    have hi : qwn a 5 ≠ 0 := fun e => by rw [e] at h1; simp at h1
    have h2 := inv_mul (qwn a 5) (inv_lt a) hi
    have h3 := inv_lt (qwn a 5)
    have e1 : qwn (qwn a 5) 5 = a * qwn a 5 % P * qwn (qwn a 5) 5 % P := by rw [h1, Nat.one_mul, Nat.mod_eq_of_lt h3]
    rw [e1, Nat.mul_mod, Nat.mod_mod, ← Nat.mul_mod, Nat.mul_assoc, Nat.mul_mod, h2, Nat.mul_one, Nat.mod_mod, Nat.mod_eq_of_lt ha]
theorem inv_prod (a b : Nat) (ha : a < P) (hb : b < P) : qwn (a * b % P) 5 = qwn a 5 * qwn b 5 % P := by
  rw [qwn_pow _ (Nat.mod_lt _ (by decide)), qwn_pow a ha, qwn_pow b hb, ← Nat.pow_mod, Nat.mul_pow, Nat.mul_mod]
end Go.Proofs.Ytacofgmnmofkpaa
