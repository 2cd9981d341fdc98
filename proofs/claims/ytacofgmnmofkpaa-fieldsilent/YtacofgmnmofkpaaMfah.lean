import Derived.Test.YtacofgmnmofkpaaMfag
namespace Go.Proofs.Ytacofgmnmofkpaa
set_option linter.unusedSimpArgs false
open Go.ChangeShapes Go.WideShapes Go.ChangeAt Go.RowKit Go.Pin Go.Fld
theorem bts_getD (n i : Nat) (h : i < 32) : (bts n).getD i 0 = ((n >>> (8 * i) % 256 : Nat) : Int) := by
  rw [List.getD_eq_getElem?_getD, List.getElem?_eq_getElem (by simpa using h), Option.getD_some, bts_at n i h]
theorem pair_dg (n i : Nat) (hi : i < 16) : (dg n).getD i 0 = (bts n).getD (2 * i) 0 + 256 * (bts n).getD (2 * i + 1) 0 := by
  rw [dg_at n i hi, bts_getD n _ (by omega), bts_getD n _ (by omega)]
  have e1 : n >>> (8 * (2 * i)) = n / 2 ^ (16 * i) := by rw [Nat.shiftRight_eq_div_pow, show 8 * (2 * i) = 16 * i by omega]
  have e2 : n >>> (8 * (2 * i + 1)) = n / 2 ^ (16 * i) / 256 := by rw [Nat.shiftRight_eq_div_pow, show 8 * (2 * i + 1) = 16 * i + 8 by omega, Nat.pow_add, ← Nat.div_div_eq_div_mul]
  rw [e1, e2, Nat.shiftRight_eq_div_pow]
  omega
theorem dg_mask (n : Nat) : (dg n).set 15 ((dg n).getD 15 0 % 32768) = dg (n % 2 ^ 255) := by
  apply List.ext_getElem
  · simp
  · intro i h1 h2
    have hi : i < 16 := by simpa using h2
    have hg := dg_at (n % 2 ^ 255) i hi
    rw [List.getD_eq_getElem?_getD, List.getElem?_eq_getElem h2, Option.getD_some] at hg
    rw [hg, List.getElem_set, dg_at n 15 (by decide)]
    by_cases h15 : 15 = i
    · rw [if_pos h15, ← h15]
      simp only [Nat.shiftRight_eq_div_pow, Nat.reduceMul, Nat.reducePow]
      omega
    · rw [if_neg h15]
      have hg' := dg_at n i hi
      rw [List.getD_eq_getElem?_getD, List.getElem?_eq_getElem (by simpa using hi), Option.getD_some] at hg'
      rw [hg']
      congr 1
      have hb : ∀ m : Nat, m >>> (16 * i) % 65536 = m >>> (16 * i) % 2 ^ 16 := fun _ => rfl
      rw [hb n, hb (n % 2 ^ 255)]
      apply Nat.eq_of_testBit_eq
      intro k
      rw [Nat.testBit_mod_two_pow, Nat.testBit_mod_two_pow, Nat.testBit_shiftRight, Nat.testBit_shiftRight, Nat.testBit_mod_two_pow]
      by_cases hk : k < 16
      · have : 16 * i + k < 255 := by omega
        simp [hk, this]
      · simp [hk]
theorem set_stepD (a b : List Int) (k : Nat) (h1 : k < a.length) (h2 : k < b.length) : (a.take k ++ b.drop k).set k (a.getD k 0) = a.take (k + 1) ++ b.drop (k + 1) := by
  have e : a.getD k 0 = a[k] := by rw [List.getD_eq_getElem?_getD, List.getElem?_eq_getElem h1]; rfl
  rw [e]
  exact set_step a b k h1 h2
/-- ref Decode's boxes -/
structure FW (n : Nat) (w : World) (b L : List Int) (wr : World) : Prop where
  old : Below n w wr
  sz : n + 3 ≤ wr.heap.size
  hb : rowB wr n b 57
  hr : rowI wr (n + 1) (List.replicate 16 0) 50
  hl : rowI wr (n + 2) L 49
theorem FW.set {n : Nat} {w wr : World} {b L : List Int} (h : FW n w b L wr) (i : Nat) (v : Int) : FW n w b (L.set i v) (wr.setCell ⟨n + 2, i, none⟩ (.int .i64 v)) :=
  ⟨h.old.setCell (by simp) _, by simpa using h.sz, row_other h.hb (by simp) _, row_other h.hr (by simp) _, rowI_set h.hl _ _⟩
theorem FW.drew {n : Nat} {w wr : World} {b L : List Int} (h : FW n w b L wr) : FW n w b L wr.drew := ⟨h.old.drew, h.sz, h.hb, h.hr, h.hl⟩
theorem fw_start (w : World) (b : List Int) : FW w.heap.size w b (List.replicate 16 0) (((w.alloc (.cells (VI .u8 b) 57)).alloc (.cells (VI .i64 (List.replicate 16 0)) 50)).alloc (.cells (VI .i64 (List.replicate 16 0)) 49)) := by
  refine ⟨(((Below.refl _ _).alloc (Nat.le_refl _) _).alloc (by simp) _).alloc (by simp; omega) _, by simp [size_alloc], ?_, ?_, ?_⟩
  all_goals simp only [rowI, rowB, heap_alloc_any, size_alloc]
  · rw [if_neg (by omega), if_neg (by omega), if_pos trivial]
  · rw [if_neg (by omega), if_pos trivial]
  · rw [if_pos trivial]
theorem dg_big (n : Nat) (hn : n < 57896044618658097711785492504343953926634992332820282019728792003956564819968) : Big (dg n) := ⟨dg_len n, fun x hx => by have := (Dig.of hn).1.bd x hx; omega⟩
set_option maxRecDepth 100000 in
set_option maxHeartbeats 4000000 in
theorem rdecode_any (b : List Int) (hb : Key32 b) (w : World) :
    Calls Try.prog 33 #[.agg (VI .u8 b)] w fun e w' => e = .returned (.agg (VI .i64 (dg (nb b % 2 ^ 255 % P)))) ∧ Below w.heap.size w w' := by
  have hst := fw_start w b
  obtain ⟨W, hW⟩ : ∃ W, ((w.alloc (.cells (VI .u8 b) 57)).alloc (.cells (VI .i64 (List.replicate 16 0)) 50)).alloc (.cells (VI .i64 (List.replicate 16 0)) 49) = W := ⟨_, rfl⟩
  rw [hW] at hst
  have hW' : ((w.alloc (.cells (VI .u8 b) 57)).alloc (.cells #[.int .i64 0, .int .i64 0, .int .i64 0, .int .i64 0, .int .i64 0, .int .i64 0, .int .i64 0, .int .i64 0, .int .i64 0, .int .i64 0, .int .i64 0, .int .i64 0, .int .i64 0, .int .i64 0, .int .i64 0, .int .i64 0] 50)).alloc (.cells #[.int .i64 0, .int .i64 0, .int .i64 0, .int .i64 0, .int .i64 0, .int .i64 0, .int .i64 0, .int .i64 0, .int .i64 0, .int .i64 0, .int .i64 0, .int .i64 0, .int .i64 0, .int .i64 0, .int .i64 0, .int .i64 0] 49) = W := hW
  have HST : Hid (FW w.heap.size w b (List.replicate 16 0) W) := hst
  have HB : Hid (Key32 b) := hb
  have hbn := bts_nb b hb.len hb.bd
  have HBN : Hid (bts (nb b) = b) := hbn
  clear hW hst hb hbn
  go_enter Try.func33, Try.ntmps33
  go_wp2
  go_loopw [4] (fun i w' => ∃ k : Nat, k ≤ 16 ∧ i = .int .i64 k ∧ FW w.heap.size w b ((dg (nb b)).take k ++ (List.replicate 16 (0 : Int)).drop k) w') (fun i _ => 16 - (intOf i).toNat)
  case atStart => exact ⟨0, Nat.zero_le _, rfl, HST.out⟩
  case round =>
    clear HST hW'
    obtain ⟨k, hk, rfl, hp⟩ := hrel
    by_cases hlt : k < 16
    · have hkg : k < (dg (nb b)).length := by simpa using hlt
      have hkz : k < (List.replicate 16 (0 : Int)).length := by simpa using hlt
      have e := pair_dg (nb b) k hlt
      rw [HBN.out] at e
      have h2 : 2 * k < b.length := by rw [HB.out.len]; omega
      have h3 : 2 * k + 1 < b.length := by rw [HB.out.len]; omega
      have hc0 := rowB_cell hp.hb (i := 2 * k) h2
      have hc1 := rowB_cell hp.hb (i := 2 * k + 1) h3
      have hcl := rowI_cell hp.hl (i := k) (by simp; omega)
      have hfz : wr.frozen? ⟨w.heap.size + 2, k, none⟩ = false := frozen_of_row wr _ _ _ _ hp.hl
      obtain ⟨x0, x1⟩ := HB.out.bd _ (getD_mem h2)
      obtain ⟨y0, y1⟩ := HB.out.bd _ (getD_mem h3)
      have es := set_stepD (dg (nb b)) (List.replicate 16 (0 : Int)) k hkg hkz
      have hst := hp.set k ((dg (nb b)).getD k 0)
      rw [es] at hst
      rw [e] at hst
      generalize b.getD (2 * k) 0 = x at *
      generalize b.getD (2 * k + 1) 0 = y at *
      have HS : Hid (FW w.heap.size w b ((dg (nb b)).take (k + 1) ++ (List.replicate 16 (0 : Int)).drop (k + 1)) (wr.setCell ⟨w.heap.size + 2, k, none⟩ (.int .i64 (x + 256 * y)))) := hst
      clear hp hst e es
      generalize List.getD _ k 0 = z at hcl
      go_wp2
      go_region
      go_wp2
      go_roundw
      case rel => exact ⟨k + 1, by omega, by go_num, HS.out.drew⟩
      case measure => simp [intOf]; omega
    · have hk' : k = 16 := by omega
      subst hk'
      rw [List.take_of_length_le (by simp), List.drop_of_length_le (by simp), List.append_nil] at hp
      have hcl := rowI_cell hp.hl (i := 15) (by simp)
      have hfz : wr.frozen? ⟨w.heap.size + 2, 15, none⟩ = false := frozen_of_row wr _ _ _ _ hp.hl
      have hd := dg_at (nb b) 15 (by decide)
      have h0 : 0 ≤ (dg (nb b)).getD 15 0 := by rw [hd]; omega
      have h1 : (dg (nb b)).getD 15 0 < 65536 := by rw [hd]; omega
      have hst := hp.set 15 ((dg (nb b)).getD 15 0 % 32768)
      rw [dg_mask] at hst
      have hlt255 : nb b % 2 ^ 255 < 57896044618658097711785492504343953926634992332820282019728792003956564819968 := Nat.mod_lt _ (by decide)
      have HBG : Hid (Big (dg (nb b % 2 ^ 255))) := dg_big _ hlt255
      have hDv : D (dg (nb b % 2 ^ 255)) = ((nb b % 2 ^ 255 : Nat) : Int) := (Dig.of hlt255).2
      have HWH : Hid (∀ w, Calls Try.prog 56 #[.agg (VI .i64 (dg (nb b % 2 ^ 255)))] w fun e w' => e = .returned (.agg (VI .i64 (dg (nb b % 2 ^ 255 % P)))) ∧ Below w.heap.size w w') := fun w => by
        have := whole_any _ (dg_big _ hlt255) w
        rw [hDv, Int.toNat_natCast] at this
        exact this
      generalize (dg (nb b)).getD 15 0 = z at *
      obtain ⟨W3, hW3⟩ : ∃ W3, wr.setCell ⟨w.heap.size + 2, 15, none⟩ (.int .i64 (z % 32768)) = W3 := ⟨_, rfl⟩
      rw [hW3] at hst
      have HS : Hid (FW w.heap.size w b (dg (nb b % 2 ^ 255)) W3) := hst
      clear hp hst hd hDv hlt255 hlt hk
      have hrl : (dg (nb b % 2 ^ 255 % P)).length = 16 := dg_len _
      generalize hres : dg (nb b % 2 ^ 255 % P) = res at *
      have HRES : Hid (dg (nb b % 2 ^ 255 % P) = res) := hres
      clear hres
      have HRL : Hid (res.length = 16) := hrl
      have HSZ : Hid ((VI .i64 (List.replicate 16 0)).size = (VI .i64 res).size) := by
        have : (VI .i64 (List.replicate 16 0)).size = (VI .i64 res).size := by rw [VI_size, VI_size, hrl, List.length_replicate]
        exact this
      clear hrl
      go_wp2_with (first | (go_at_call 56; refine (HWH.out W3).mono ?_; rintro e w4 ⟨rfl, hb4⟩; have HO4 : Hid (Below w.heap.size w w4) := HS.out.old.trans (hb4.mono (by have := HS.out.sz; omega)); have HR4 : Hid (rowI w4 (w.heap.size + 1) (List.replicate 16 0) 50) := (hb4.block _ (by have := HS.out.sz; omega)).trans HS.out.hr; clear hb4) | (with_reducible refine at_list ?_; first | (refine wpList_load_row rfl 49 (.tmp 3) rfl (w.heap.size + 1 + 1) rfl 49 (VI .i64 (dg (nb b % 2 ^ 255))) (0, 0) _ HS.out.hl Try.underlying49 rfl (info16 (dg_len _)) ?_) | (refine wpList_store_row rfl 50 (.tmp 2) (.tmp 29) rfl (w.heap.size + 1) (VI .i64 res) rfl rfl 50 (VI .i64 (List.replicate 16 0)) HR4.out (infoN16 HRL.out) HSZ.out (VI_one _ _) ?_)))
      refine bodyPost_ret (v := .agg (VI .i64 res)) ?_ rfl ⟨by rw [HRES.out], below_setRow HO4.out _ (by omega) _⟩
      exact results_cell_row (P := Try.prog) (fn := Try.f33) (p := 2) (ty := 50) rfl _ _ (w.heap.size + 1) 50 (VI .i64 res) (0, 0) _ rfl (setRow_heap _ _ _ _ 50 _ HR4.out) Try.underlying50 rfl (infoN16 HRL.out)
end Go.Proofs.Ytacofgmnmofkpaa
namespace Go.Proofs.Ytacofgmnmofkpaa
set_option linter.unusedSimpArgs false
open Go.ChangeShapes Go.WideShapes Go.ChangeAt Go.RowKit Go.Pin Go.Fld
/-- ref Encode's boxes -/
structure GW (n : Nat) (w : World) (a L : List Int) (wr : World) : Prop where
  old : Below n w wr
  ha : rowI wr n a 50
  hr : rowB wr (n + 1) (List.replicate 32 0) 57
  hl : rowB wr (n + 2) L 57
theorem GW.set {n : Nat} {w wr : World} {a L : List Int} (h : GW n w a L wr) (i : Nat) (v : Int) : GW n w a (L.set i v) (wr.setCell ⟨n + 2, i, none⟩ (.int .u8 v)) :=
  ⟨h.old.setCell (by simp) _, row_other h.ha (by simp) _, row_other h.hr (by simp) _, rowB_set h.hl _ _⟩
theorem gw_start (w : World) (a : List Int) : GW w.heap.size w a (List.replicate 32 0) (((w.alloc (.cells (VI .i64 a) 50)).alloc (.cells (VI .u8 (List.replicate 32 0)) 57)).alloc (.cells (VI .u8 (List.replicate 32 0)) 57)) := by
  refine ⟨(((Below.refl _ _).alloc (Nat.le_refl _) _).alloc (by simp) _).alloc (by simp; omega) _, ?_, ?_, ?_⟩
  all_goals simp only [rowI, rowB, heap_alloc_any, size_alloc]
  · rw [if_neg (by omega), if_neg (by omega), if_pos trivial]
  · rw [if_neg (by omega), if_pos trivial]
  · rw [if_pos trivial]
set_option maxRecDepth 100000 in
set_option maxHeartbeats 4000000 in
theorem rencode_any (n : Nat) (w : World) :
    Calls Try.prog 31 #[.agg (VI .i64 (dg n))] w fun e w' => e = .returned (.agg (VI .u8 (bts n))) ∧ Below w.heap.size w w' := by
  have hst := gw_start w (dg n)
  obtain ⟨W, hW⟩ : ∃ W, ((w.alloc (.cells (VI .i64 (dg n)) 50)).alloc (.cells (VI .u8 (List.replicate 32 0)) 57)).alloc (.cells (VI .u8 (List.replicate 32 0)) 57) = W := ⟨_, rfl⟩
  rw [hW] at hst
  have hW' : ((w.alloc (.cells (VI .i64 (dg n)) 50)).alloc (.cells #[.int .u8 0, .int .u8 0, .int .u8 0, .int .u8 0, .int .u8 0, .int .u8 0, .int .u8 0, .int .u8 0, .int .u8 0, .int .u8 0, .int .u8 0, .int .u8 0, .int .u8 0, .int .u8 0, .int .u8 0, .int .u8 0, .int .u8 0, .int .u8 0, .int .u8 0, .int .u8 0, .int .u8 0, .int .u8 0, .int .u8 0, .int .u8 0, .int .u8 0, .int .u8 0, .int .u8 0, .int .u8 0, .int .u8 0, .int .u8 0, .int .u8 0, .int .u8 0] 57)).alloc (.cells #[.int .u8 0, .int .u8 0, .int .u8 0, .int .u8 0, .int .u8 0, .int .u8 0, .int .u8 0, .int .u8 0, .int .u8 0, .int .u8 0, .int .u8 0, .int .u8 0, .int .u8 0, .int .u8 0, .int .u8 0, .int .u8 0, .int .u8 0, .int .u8 0, .int .u8 0, .int .u8 0, .int .u8 0, .int .u8 0, .int .u8 0, .int .u8 0, .int .u8 0, .int .u8 0, .int .u8 0, .int .u8 0, .int .u8 0, .int .u8 0, .int .u8 0, .int .u8 0] 57) = W := hW
  have HST : Hid (GW w.heap.size w (dg n) (List.replicate 32 0) W) := hst
  clear hW hst
  go_enter Try.func31, Try.ntmps31
  go_wp2
  go_loopw [4] (fun i w' => ∃ k : Nat, k ≤ 16 ∧ i = .int .i64 k ∧ GW w.heap.size w (dg n) ((bts n).take (2 * k) ++ (List.replicate 32 (0 : Int)).drop (2 * k)) w') (fun i _ => 16 - (intOf i).toNat)
  case atStart => exact ⟨0, Nat.zero_le _, rfl, HST.out⟩
  case round =>
    clear HST hW'
    obtain ⟨k, hk, rfl, hp⟩ := hrel
    by_cases hlt : k < 16
    · have h2 : 2 * k < (bts n).length := by rw [bts_len]; omega
      have h3 : 2 * k + 1 < (bts n).length := by rw [bts_len]; omega
      have z2 : 2 * k < (List.replicate 32 (0 : Int)).length := by simp; omega
      have z3 : 2 * k + 1 < (List.replicate 32 (0 : Int)).length := by simp; omega
      have hca := rowI_cell hp.ha (i := k) (by simpa using hlt)
      have e := pair_dg n k hlt
      obtain ⟨x0, x1⟩ := bts_bd n _ (getD_mem h2)
      obtain ⟨y0, y1⟩ := bts_bd n _ (getD_mem h3)
      have hcx := rowB_cell hp.hl (i := 2 * k) (by simp; omega)
      have hcy := rowB_cell hp.hl (i := 2 * k + 1) (by simp; omega)
      have hfz : wr.frozen? ⟨w.heap.size + 2, 2 * k, none⟩ = false := frozen_of_row wr _ _ _ _ hp.hl
      have hfy : wr.frozen? ⟨w.heap.size + 2, 2 * k + 1, none⟩ = false := frozen_of_row wr _ _ _ _ hp.hl
      have e2 := set_stepD (bts n) (List.replicate 32 (0 : Int)) (2 * k) h2 z2
      have e3 := set_stepD (bts n) (List.replicate 32 (0 : Int)) (2 * k + 1) h3 z3
      have hst := (hp.set (2 * k) ((bts n).getD (2 * k) 0)).set (2 * k + 1) ((bts n).getD (2 * k + 1) 0)
      rw [e2, e3, show 2 * k + 1 + 1 = 2 * (k + 1) by omega] at hst
      clear e2 e3
      rw [e] at hca
      generalize (bts n).getD (2 * k) 0 = x at *
      generalize (bts n).getD (2 * k + 1) 0 = y at *
      obtain ⟨v, hv⟩ : ∃ v, x + 256 * y = v := ⟨_, rfl⟩
      have hm1 : v % 256 = x := by omega
      have hm2 : v / 256 = y := by omega
      have v0 : 0 ≤ v := by omega
      have v1 : v < 65536 := by omega
      rw [hv] at hca
      clear hv
      have hy256 : y % 256 = y := by omega
      have hx256 : x % 256 = x := by omega
      have HS : Hid (GW w.heap.size w (dg n) ((bts n).take (2 * (k + 1)) ++ (List.replicate 32 (0 : Int)).drop (2 * (k + 1))) ((wr.setCell ⟨w.heap.size + 2, 2 * k, none⟩ (.int .u8 x)).setCell ⟨w.heap.size + 2, 2 * k + 1, none⟩ (.int .u8 y))) := hst
      clear hp hst e
      generalize List.getD _ (2 * k) 0 = z at hcx
      generalize List.getD _ (2 * k + 1) 0 = z' at hcy
      go_wp2
      go_roundw
      case rel => exact ⟨k + 1, by omega, by go_num, HS.out⟩
      case measure => simp [intOf]; omega
    · have hk' : k = 16 := by omega
      subst hk'
      rw [List.take_of_length_le (by simp), List.drop_of_length_le (by simp), List.append_nil] at hp
      have HP : Hid (GW w.heap.size w (dg n) (bts n) wr) := hp
      have HJ : Hid ((Try.prog.info? 57).map (·.size) = some (VI .u8 (bts n)).size) := by rw [VI_size, bts_len]; exact info40
      clear hp hlt hk
      go_wp2_with (with_reducible refine at_list ?_; first | (refine wpList_load_row rfl 57 (.tmp 3) rfl (w.heap.size + 1 + 1) rfl 57 (VI .u8 (bts n)) (0, 0) _ HP.out.hl Try.underlying57 rfl HJ.out ?_) | (refine wpList_store_row rfl 57 (.tmp 2) (.tmp 26) rfl (w.heap.size + 1) (VI .u8 (bts n)) rfl rfl 57 (VI .u8 (List.replicate 32 0)) HP.out.hr HJ.out (by simp) (VI_one _ _) ?_))
      refine bodyPost_ret (v := .agg (VI .u8 (bts n))) ?_ rfl ⟨rfl, below_setRow HP.out.old _ (by omega) _⟩
      exact results_cell_row (P := Try.prog) (fn := Try.f31) (p := 2) (ty := 57) rfl _ _ (w.heap.size + 1) 57 (VI .u8 (bts n)) (0, 0) _ rfl (setRow_heap wr _ _ _ 57 _ HP.out.hr) Try.underlying57 rfl HJ.out
end Go.Proofs.Ytacofgmnmofkpaa
namespace Go.Proofs.Ytacofgmnmofkpaa
set_option linter.unusedSimpArgs false
open Go.ChangeShapes Go.WideShapes Go.ChangeAt Go.RowKit Go.Pin Go.Fld
/-- ref Add's and Sub's boxes -/
structure JW (n : Nat) (w : World) (a b L : List Int) (wr : World) : Prop where
  old : Below n w wr
  sz : n + 4 ≤ wr.heap.size
  ha : rowI wr n a 50
  hb : rowI wr (n + 1) b 50
  hr : rowI wr (n + 2) (List.replicate 16 0) 50
  hl : rowI wr (n + 3) L 49
theorem JW.set {n : Nat} {w wr : World} {a b L : List Int} (h : JW n w a b L wr) (i : Nat) (v : Int) : JW n w a b (L.set i v) (wr.setCell ⟨n + 3, i, none⟩ (.int .i64 v)) :=
  ⟨h.old.setCell (by simp) _, by simpa using h.sz, row_other h.ha (by simp) _, row_other h.hb (by simp) _, row_other h.hr (by simp) _, rowI_set h.hl _ _⟩
theorem JW.drew {n : Nat} {w wr : World} {a b L : List Int} (h : JW n w a b L wr) : JW n w a b L wr.drew := ⟨h.old.drew, h.sz, h.ha, h.hb, h.hr, h.hl⟩
theorem jw_start (w : World) (a b : List Int) : JW w.heap.size w a b (List.replicate 16 0) ((((w.alloc (.cells (VI .i64 a) 50)).alloc (.cells (VI .i64 b) 50)).alloc (.cells (VI .i64 (List.replicate 16 0)) 50)).alloc (.cells (VI .i64 (List.replicate 16 0)) 49)) := by
  refine ⟨((((Below.refl _ _).alloc (Nat.le_refl _) _).alloc (by simp) _).alloc (by simp; omega) _).alloc (by simp; omega) _, by simp [size_alloc], ?_, ?_, ?_, ?_⟩
  all_goals simp only [rowI, heap_alloc_any, size_alloc]
  · rw [if_neg (by omega), if_neg (by omega), if_neg (by omega), if_pos trivial]
  · rw [if_neg (by omega), if_neg (by omega), if_pos trivial]
  · rw [if_neg (by omega), if_pos trivial]
  · rw [if_pos trivial]
theorem D_zip (a b : List Int) (h : a.length = b.length) : D (List.zipWith (· + ·) a b) = D a + D b := by
  induction a generalizing b with
  | nil => cases b with | nil => rfl | cons _ _ => simp at h
  | cons x a ih =>
    cases b with
    | nil => simp at h
    | cons y b =>
      have := ih b (by simpa using h)
      simp only [List.zipWith_cons_cons, D_cons, this]
      omega
theorem D_zips (a b : List Int) (h : a.length = b.length) : D (List.zipWith (· - ·) a b) = D a - D b := by
  induction a generalizing b with
  | nil => cases b with | nil => rfl | cons _ _ => simp at h
  | cons x a ih =>
    cases b with
    | nil => simp at h
    | cons y b =>
      have := ih b (by simpa using h)
      simp only [List.zipWith_cons_cons, D_cons, this]
      omega
theorem P255 {n : Nat} (h : n < P) : n < 57896044618658097711785492504343953926634992332820282019728792003956564819968 := Nat.lt_trans h (by decide)
theorem dg_bd (n : Nat) (i : Nat) : 0 ≤ (dg n).getD i 0 ∧ (dg n).getD i 0 < 65536 := by
  by_cases h : i < 16
  · rw [dg_at n i h]; omega
  · rw [List.getD_eq_getElem?_getD, List.getElem?_eq_none (by simp; omega)]; simp
/-- digit by digit -/
def zadd (n m : Nat) : List Int := (List.range 16).map fun i => (dg n).getD i 0 + (dg m).getD i 0
def zsub (n m : Nat) : List Int := (List.range 16).map fun i => (dg n).getD i 0 + pd.getD i 0 - (dg m).getD i 0
theorem range_getD (f : Nat → Int) (i : Nat) (h : i < 16) : ((List.range 16).map f).getD i 0 = f i := by
  rw [List.getD_eq_getElem?_getD, List.getElem?_eq_getElem (by simpa using h)]; simp
theorem pd_at_bd : ∀ i : Nat, i < 16 → 32767 ≤ pd.getD i 0 ∧ pd.getD i 0 < 65536 := by decide
theorem zadd_big (n m : Nat) : Big (zadd n m) := ⟨by simp [zadd], fun x hx => by
  simp only [zadd, List.mem_map] at hx
  obtain ⟨i, _, rfl⟩ := hx
  have := dg_bd n i
  have := dg_bd m i
  omega⟩
theorem zadd_D {n m : Nat} (hn : n < P) (hm : m < P) : D (zadd n m) = ((n + m : Nat) : Int) := by
  have e : zadd n m = List.zipWith (· + ·) (dg n) (dg m) := by
    apply List.ext_getElem
    · simp [zadd]
    · intro i h1 h2
      have hi : i < 16 := by simpa [zadd] using h1
      simp only [zadd, List.getElem_map, List.getElem_range, List.getElem_zipWith]
      rw [List.getD_eq_getElem?_getD, List.getElem?_eq_getElem (by simpa using hi), List.getD_eq_getElem?_getD, List.getElem?_eq_getElem (by simpa using hi)]
      rfl
  rw [e, D_zip _ _ (by simp), (Dig.of (P255 hn)).2, (Dig.of (P255 hm)).2]
  simp
set_option maxRecDepth 100000 in
set_option maxHeartbeats 4000000 in
theorem radd_any (n m : Nat) (hn : n < P) (hm : m < P) (w : World) :
    Calls Try.prog 35 #[.agg (VI .i64 (dg n)), .agg (VI .i64 (dg m))] w fun e w' => e = .returned (.agg (VI .i64 (dg ((n + m) % P)))) ∧ Below w.heap.size w w' := by
  have hst := jw_start w (dg n) (dg m)
  obtain ⟨W, hW⟩ : ∃ W, (((w.alloc (.cells (VI .i64 (dg n)) 50)).alloc (.cells (VI .i64 (dg m)) 50)).alloc (.cells (VI .i64 (List.replicate 16 0)) 50)).alloc (.cells (VI .i64 (List.replicate 16 0)) 49) = W := ⟨_, rfl⟩
  rw [hW] at hst
  have hW' : (((w.alloc (.cells (VI .i64 (dg n)) 50)).alloc (.cells (VI .i64 (dg m)) 50)).alloc (.cells #[.int .i64 0, .int .i64 0, .int .i64 0, .int .i64 0, .int .i64 0, .int .i64 0, .int .i64 0, .int .i64 0, .int .i64 0, .int .i64 0, .int .i64 0, .int .i64 0, .int .i64 0, .int .i64 0, .int .i64 0, .int .i64 0] 50)).alloc (.cells #[.int .i64 0, .int .i64 0, .int .i64 0, .int .i64 0, .int .i64 0, .int .i64 0, .int .i64 0, .int .i64 0, .int .i64 0, .int .i64 0, .int .i64 0, .int .i64 0, .int .i64 0, .int .i64 0, .int .i64 0, .int .i64 0] 49) = W := hW
  have HST : Hid (JW w.heap.size w (dg n) (dg m) (List.replicate 16 0) W) := hst
  have HWH : Hid (∀ w, Calls Try.prog 56 #[.agg (VI .i64 (zadd n m))] w fun e w' => e = .returned (.agg (VI .i64 (dg ((n + m) % P)))) ∧ Below w.heap.size w w') := fun w => by
    have := whole_any _ (zadd_big n m) w
    rw [zadd_D hn hm, Int.toNat_natCast] at this
    exact this
  clear hW hst hn hm
  have hzl : (zadd n m).length = 16 := by simp [zadd]
  have HZL : Hid ((zadd n m).length = 16) := hzl
  go_enter Try.func35, Try.ntmps35
  go_wp2
  go_loopw [6] (fun i w' => ∃ k : Nat, k ≤ 16 ∧ i = .int .i64 k ∧ JW w.heap.size w (dg n) (dg m) ((zadd n m).take k ++ (List.replicate 16 (0 : Int)).drop k) w') (fun i _ => 16 - (intOf i).toNat)
  case atStart => exact ⟨0, Nat.zero_le _, rfl, HST.out⟩
  case round =>
    clear HST hW'
    obtain ⟨k, hk, rfl, hp⟩ := hrel
    by_cases hlt : k < 16
    · have es := set_stepD (zadd n m) (List.replicate 16 (0 : Int)) k (by rw [hzl]; exact hlt) (by simpa using hlt)
      rw [show (zadd n m).getD k 0 = (dg n).getD k 0 + (dg m).getD k 0 from range_getD _ k hlt] at es
      have hst := hp.set k ((dg n).getD k 0 + (dg m).getD k 0)
      rw [es] at hst
      have hca := rowI_cell hp.ha (i := k) (by simpa using hlt)
      have hcb := rowI_cell hp.hb (i := k) (by simpa using hlt)
      have hcl := rowI_cell hp.hl (i := k) (by rw [List.length_append, List.length_take, List.length_drop, hzl, List.length_replicate]; omega)
      have hfz : wr.frozen? ⟨w.heap.size + 3, k, none⟩ = false := frozen_of_row wr _ _ _ _ hp.hl
      obtain ⟨x0, x1⟩ := dg_bd n k
      obtain ⟨y0, y1⟩ := dg_bd m k
      generalize (dg n).getD k 0 = x at *
      generalize (dg m).getD k 0 = y at *
      have HS : Hid (JW w.heap.size w (dg n) (dg m) ((zadd n m).take (k + 1) ++ (List.replicate 16 (0 : Int)).drop (k + 1)) (wr.setCell ⟨w.heap.size + 3, k, none⟩ (.int .i64 (x + y)))) := hst
      clear hp hst es
      generalize List.getD _ k 0 = zz at hcl
      go_wp2
      go_region
      go_wp2
      go_roundw
      case rel => exact ⟨k + 1, by omega, by go_num, HS.out.drew⟩
      case measure => simp [intOf]; omega
    · have hk' : k = 16 := by omega
      subst hk'
      rw [List.take_of_length_le (by rw [hzl]; omega), List.drop_of_length_le (by simp), List.append_nil] at hp
      have HS : Hid (JW w.heap.size w (dg n) (dg m) (zadd n m) wr) := hp
      have hrl : (dg ((n + m) % P)).length = 16 := dg_len _
      generalize hres : dg ((n + m) % P) = res at *
      have HRES : Hid (dg ((n + m) % P) = res) := hres
      clear hres
      have HRL : Hid (res.length = 16) := hrl
      have HSZ : Hid ((VI .i64 (List.replicate 16 0)).size = (VI .i64 res).size) := by
        have : (VI .i64 (List.replicate 16 0)).size = (VI .i64 res).size := by rw [VI_size, VI_size, hrl, List.length_replicate]
        exact this
      clear hrl hp hlt hk
      go_wp2_with (first | (go_at_call 56; refine (HWH.out wr).mono ?_; rintro e w4 ⟨rfl, hb4⟩; have HO4 : Hid (Below w.heap.size w w4) := HS.out.old.trans (hb4.mono (by have := HS.out.sz; omega)); have HR4 : Hid (rowI w4 (w.heap.size + 2) (List.replicate 16 0) 50) := (hb4.block _ (by have := HS.out.sz; omega)).trans HS.out.hr; clear hb4) | (with_reducible refine at_list ?_; first | (refine wpList_load_row rfl 49 (.tmp 5) rfl (w.heap.size + 1 + 1 + 1) rfl 49 (VI .i64 (zadd n m)) (0, 0) _ HS.out.hl Try.underlying49 rfl (info16 HZL.out) ?_) | (refine wpList_store_row rfl 50 (.tmp 4) (.tmp 21) rfl (w.heap.size + 1 + 1) (VI .i64 res) rfl rfl 50 (VI .i64 (List.replicate 16 0)) HR4.out (infoN16 HRL.out) HSZ.out (VI_one _ _) ?_)))
      refine bodyPost_ret (v := .agg (VI .i64 res)) ?_ rfl ⟨by rw [HRES.out], below_setRow HO4.out _ (by omega) _⟩
      exact results_cell_row (P := Try.prog) (fn := Try.f35) (p := 4) (ty := 50) rfl _ _ (w.heap.size + 1 + 1) 50 (VI .i64 res) (0, 0) _ rfl (setRow_heap _ _ _ _ 50 _ HR4.out) Try.underlying50 rfl (infoN16 HRL.out)
end Go.Proofs.Ytacofgmnmofkpaa
namespace Go.Proofs.Ytacofgmnmofkpaa
set_option linter.unusedSimpArgs false
open Go.ChangeShapes Go.WideShapes Go.ChangeAt Go.RowKit Go.Pin Go.Fld
/-- digits that have grown or stand a little below 0; the number does not -/
structure Bigz (t : List Int) : Prop where
  len : t.length = 16
  bd : ∀ x ∈ t, -65536 ≤ x ∧ x < 1125899906842624
  pos : 0 ≤ D t
theorem zo_bdz : ∀ (l : List Int) (o B : Int), -2 ≤ o → o ≤ B → (∀ x ∈ l, -65536 ≤ x ∧ x + B < 65536 * (B + 1)) → -2 ≤ zo o l ∧ zo o l ≤ B
  | [], o, B, h0, h1, _ => ⟨h0, h1⟩
  | x :: l, o, B, h0, h1, h => by
    have hx := h x (by simp)
    rw [zo]
    refine zo_bdz l _ B (by omega) ?_ (fun y hy => h y (by simp [hy]))
    have : (x + o) / 65536 < B + 1 := Int.ediv_lt_of_lt_mul (by decide) (by rw [Int.mul_comm]; omega)
    omega
theorem car_factsz {t : List Int} (h : Bigz t) : Dig (car t) ∧ D (car t) + 57896044618658097711785492504343953926634992332820282019728792003956564819968 * cout t = D t ∧ 0 ≤ cout t ∧ cout t ≤ 1099511627776 ∧ -2 ≤ zo 0 (t.take 15) ∧ zo 0 (t.take 15) ≤ 1099511627776 := by
  have hl : (t.take 15).length = 15 := by simp [h.len]
  have hz := zo_bdz (t.take 15) 0 1099511627776 (by decide) (by decide) (fun x hx => by have := h.bd x (List.mem_of_mem_take hx); omega)
  have hpos := h.pos
  have hv := cz_D (t.take 15) 0
  have ht := h.bd _ (getD_mem (t := t) (i := 15) (by rw [h.len]; decide))
  have hs := split16 h.len
  have hD : D t = D (t.take 15) + 65536 ^ 15 * D [t.getD 15 0] := by
    conv => lhs; rw [hs]
    rw [D_app, hl]
  rw [hl] at hv
  have e1 : D [t.getD 15 0] = t.getD 15 0 := by simp [D]
  rw [e1] at hD
  have hc : D (car t) = D (cz 0 (t.take 15)) + 65536 ^ 15 * ((t.getD 15 0 + zo 0 (t.take 15)) % 32768) := by
    rw [car, D_app, cz_len, hl]; simp [D]
  have e15 : (65536 : Int) ^ 15 = 1766847064778384329583297500742918515827483896875618958121606201292619776 := by decide
  have hcl := D_lt _ (cz_lt (t.take 15) 0)
  rw [cz_len, hl] at hcl
  rw [e15] at hv hD hc hcl
  refine ⟨⟨by simp [car, h.len], fun x hx => ?_, ?_⟩, ?_, ?_, ?_, hz.1, hz.2⟩
  · rw [car, List.mem_append] at hx
    rcases hx with hx | hx
    · exact cz_lt _ _ x hx
    · rw [List.mem_singleton] at hx; omega
  · have : (car t).getD 15 0 = (t.getD 15 0 + zo 0 (t.take 15)) % 32768 := by
      rw [car, List.getD_eq_getElem?_getD, List.getElem?_append_right (by simp [h.len])]
      simp [h.len]
    rw [this]; omega
  · rw [hc, cout]; omega
  · rw [cout]; rw [hD] at hpos; omega
  · rw [cout]; omega
set_option maxRecDepth 100000 in
set_option maxHeartbeats 2000000 in
theorem carriedz_any (t : List Int) (ht : Bigz t) (w : World) :
    Calls Try.prog 65 #[.agg (VI .i64 t)] w fun e w' => e = .returned (.tuple #[.agg (VI .i64 (car t)), .int .i64 (cout t)]) ∧ Below w.heap.size w w' := by
  obtain ⟨hdg, _, o0, o1, z0, z1⟩ := car_factsz ht
  have hl15 : (t.take 15).length = 15 := by simp [ht.len]
  have HT : Hid (Bigz t) := ht
  have HDG : Hid (Dig (car t)) := hdg
  have hst := cwx_start w t
  obtain ⟨W, hW⟩ : ∃ W, (w.alloc (.cells (VI .i64 t) 49)).alloc (.cells (VI .i64 (List.replicate 16 0)) 49) = W := ⟨_, rfl⟩
  rw [hW] at hst
  have hW' : (w.alloc (.cells (VI .i64 t) 49)).alloc (.cells #[.int .i64 0, .int .i64 0, .int .i64 0, .int .i64 0, .int .i64 0, .int .i64 0, .int .i64 0, .int .i64 0, .int .i64 0, .int .i64 0, .int .i64 0, .int .i64 0, .int .i64 0, .int .i64 0, .int .i64 0, .int .i64 0] 49) = W := hW
  have HST : Hid (CWx w.heap.size w t W) := hst
  have hsp := split16 ht.len
  have hd15 := ht.bd _ (getD_mem (t := t) (i := 15) (by rw [ht.len]; decide))
  obtain ⟨y, hy⟩ : ∃ y, t.getD 15 0 = y := ⟨_, rfl⟩
  rw [hy] at hsp hd15
  have HSP : Hid (t = t.take 15 ++ [y]) := hsp
  have HY : Hid (t.getD 15 0 = y) := hy
  clear hW hst ht hdg hsp hy
  go_enter Try.func65, Try.ntmps65
  go_wp2
  go_loopw [4, 5] (fun o i w' => ∃ (d r : List Int) (c : Int), i = .int .i64 (d.length : Nat) ∧ o = .int .i64 c ∧ -2 ≤ c ∧ c ≤ 1099511627776 ∧ d.length + r.length = 15 ∧ (∀ x ∈ r, -65536 ≤ x ∧ x < 1125899906842624) ∧ cz 0 (t.take 15) = d ++ cz c r ∧ zo 0 (t.take 15) = zo c r ∧ CWx w.heap.size w (d ++ r ++ [y]) w') (fun _ i _ => 15 - (intOf i).toNat)
  case atStart =>
    exact ⟨[], t.take 15, 0, rfl, rfl, by decide, by decide, by simpa using hl15, fun x hx => HT.out.bd x (List.mem_of_mem_take hx), rfl, rfl, by rw [List.nil_append, ← HSP.out]; exact HST.out⟩
  case round =>
    clear HST hW'
    obtain ⟨d, r, c, rfl, rfl, c0, c1, hl, hr, hcz, hzo, hp⟩ := hrel
    cases r with
    | cons x r =>
      obtain ⟨x0, x1⟩ := hr x (by simp)
      have hcell := rowI_cell hp.ht (i := d.length) (by simp)
      rw [show (d ++ x :: r ++ [y]).getD d.length 0 = x by simp] at hcell
      have hfr : wr.frozen? ⟨w.heap.size, d.length, none⟩ = false := frozen_of_row wr _ _ _ _ hp.ht
      have hlt : d.length < 15 := by simp at hl; omega
      have hm := mask16 (x + c)
      have hset := hp.set d.length ((x + c) % 65536)
      rw [show (d ++ x :: r ++ [y]).set d.length ((x + c) % 65536) = d ++ [(x + c) % 65536] ++ r ++ [y] by simp] at hset
      have HS : Hid (CWx w.heap.size w (d ++ [(x + c) % 65536] ++ r ++ [y]) (wr.setCell ⟨w.heap.size, d.length, none⟩ (.int .i64 ((x + c) % 65536)))) := hset
      have HR : Hid (∀ y ∈ x :: r, -65536 ≤ y ∧ y < 1125899906842624) := hr
      have H1 : Hid (cz 0 (t.take 15) = d ++ cz c (x :: r)) := hcz
      have H2 : Hid (zo 0 (t.take 15) = zo c (x :: r)) := hzo
      have HL : Hid (d.length + (x :: r).length = 15) := hl
      clear hr hcz hzo hl hp hset
      go_wp2
      go_roundw
      case rel =>
        exact ⟨d ++ [(x + c) % 65536], r, (x + c) / 65536, by simp, rfl, by omega, by omega, by have := HL.out; simp at this ⊢; omega, fun y hy => HR.out y (by simp [hy]), by rw [H1.out]; simp [cz], H2.out, HS.out⟩
      case measure => simp [intOf]; omega
    | nil =>
      have hd : d.length = 15 := by simpa using hl
      have hdi : ((d.length : Nat) : Int) = 15 := by omega
      have e1 : cz 0 (t.take 15) = d := by rw [hcz]; exact List.append_nil d
      have e2 : zo 0 (t.take 15) = c := hzo
      rw [List.append_nil] at hp
      have hcell := rowI_cell hp.ht (i := 15) (by simp [hd])
      rw [show (d ++ [y]).getD 15 0 = y by rw [List.getD_eq_getElem?_getD, List.getElem?_append_right (by omega)]; simp [hd]] at hcell
      have hfr : wr.frozen? ⟨w.heap.size, 15, none⟩ = false := frozen_of_row wr _ _ _ _ hp.ht
      have hm := mask15 (y + c)
      have hset := hp.set 15 ((y + c) % 32768)
      have ec : car t = d ++ [(y + c) % 32768] := by rw [car, e1, e2, HY.out]
      rw [show (d ++ [y]).set 15 ((y + c) % 32768) = d ++ [(y + c) % 32768] by rw [← hd]; simp, ← ec] at hset
      have HS : Hid (CWx w.heap.size w (car t) (wr.setCell ⟨w.heap.size, 15, none⟩ (.int .i64 ((y + c) % 32768)))) := hset
      have HO : Hid (cout t = (y + c) / 32768) := by
        have : cout t = (y + c) / 32768 := by rw [cout, e2, HY.out]
        exact this
      have HSZ : Hid ((VI .i64 (List.replicate 16 0)).size = (VI .i64 (car t)).size) := by
        have : (VI .i64 (List.replicate 16 0)).size = (VI .i64 (car t)).size := by rw [VI_size, VI_size, HDG.out.len, List.length_replicate]
        exact this
      clear hr hcz hzo hl hp hset e1 e2 ec
      go_wp2_with (with_reducible refine at_list ?_; first | (refine wpList_load_row rfl 49 (.tmp 1) rfl w.heap.size rfl 49 (VI .i64 (car t)) (0, 0) _ HS.out.ht Try.underlying49 rfl (info16 HDG.out.len) ?_) | (refine wpList_store_row rfl 49 (.tmp 2) (.tmp 30) rfl (w.heap.size + 1) (VI .i64 (car t)) rfl rfl 49 (VI .i64 (List.replicate 16 0)) HS.out.hr (info16 HDG.out.len) HSZ.out (VI_one _ _) ?_))
      refine bodyPost_ret (v := .tuple #[.agg (VI .i64 (car t)), .int .i64 ((y + c) / 32768)]) ?_ rfl ⟨by rw [HO.out], below_setRow HS.out.old _ (by omega) _⟩
      exact results_cell_tmp (P := Try.prog) (fn := Try.f65) (p := 2) (q := 3) (ty := 49) rfl _ _ (w.heap.size + 1) 49 (VI .i64 (car t)) (0, 0) _ _ rfl rfl (setRow_heap _ _ _ _ 49 _ HS.out.hr) Try.underlying49 rfl (info16 HDG.out.len)
theorem hw_modz {t s : List Int} (ht : Bigz t) (hs : Dig s) (hm : (D s + 57896044618658097711785492504343953926634992332820282019728792003956564819968 * 0) % 57896044618658097711785492504343953926634992332820282019728792003956564819949 = D t % 57896044618658097711785492504343953926634992332820282019728792003956564819949) : (D t).toNat % P = (D s).toNat % P := by
  have h1 := hs.lt
  have h5 := ht.pos
  have e1 : (((D t).toNat % P : Nat) : Int) = D t % 57896044618658097711785492504343953926634992332820282019728792003956564819949 := by
    rw [Int.natCast_emod, Int.toNat_of_nonneg h5]; rfl
  have e2 : (((D s).toNat % P : Nat) : Int) = D s % 57896044618658097711785492504343953926634992332820282019728792003956564819949 := by
    rw [Int.natCast_emod, Int.toNat_of_nonneg h1.1]; rfl
  rw [Int.mul_zero, Int.add_zero] at hm
  omega
set_option maxRecDepth 100000 in
set_option maxHeartbeats 4000000 in
theorem wholez_any (t : List Int) (ht : Bigz t) (w : World) :
    Calls Try.prog 56 #[.agg (VI .i64 t)] w fun e w' => e = .returned (.agg (VI .i64 (dg ((D t).toNat % P)))) ∧ Below w.heap.size w w' := by
  obtain ⟨hdg, hDv, o0, o1, _, _⟩ := car_factsz ht
  have HT : Hid (Bigz t) := ht
  have HDG : Hid (Dig (car t)) := hdg
  have hst := hw_start w t
  obtain ⟨W, hW⟩ : ∃ W, (w.alloc (.cells (VI .i64 t) 49)).alloc (.cells (VI .i64 (List.replicate 16 0)) 50) = W := ⟨_, rfl⟩
  rw [hW] at hst
  have hW' : (w.alloc (.cells (VI .i64 t) 49)).alloc (.cells #[.int .i64 0, .int .i64 0, .int .i64 0, .int .i64 0, .int .i64 0, .int .i64 0, .int .i64 0, .int .i64 0, .int .i64 0, .int .i64 0, .int .i64 0, .int .i64 0, .int .i64 0, .int .i64 0, .int .i64 0, .int .i64 0] 50) = W := hW
  have HST : Hid (HW w.heap.size w t W) := hst
  have HM : Hid ((D (car t) + 57896044618658097711785492504343953926634992332820282019728792003956564819968 * cout t) % 57896044618658097711785492504343953926634992332820282019728792003956564819949 = D t % 57896044618658097711785492504343953926634992332820282019728792003956564819949) := by
    have : (D (car t) + 57896044618658097711785492504343953926634992332820282019728792003956564819968 * cout t) % 57896044618658097711785492504343953926634992332820282019728792003956564819949 = D t % 57896044618658097711785492504343953926634992332820282019728792003956564819949 := by rw [hDv]
    exact this
  have HSZ : Hid ((VI .i64 t).size = (VI .i64 (car t)).size) := by
    have : (VI .i64 t).size = (VI .i64 (car t)).size := by rw [VI_size, VI_size, ht.len, hdg.len]
    exact this
  clear hW hst ht hdg hDv
  go_enter Try.func56, Try.ntmps56
  go_wp2_with (first | (go_at_call 65; refine (carriedz_any t HT.out W).mono ?_; rintro e w2 ⟨rfl, hb⟩; have H2 : Hid (HW w.heap.size w t w2) := HST.out.below hb; clear hb) | (with_reducible refine at_list ?_; first | (refine wpList_load_row rfl 49 (.tmp 1) rfl w.heap.size rfl 49 (VI .i64 t) (0, 0) _ HST.out.ht Try.underlying49 rfl (info16 HT.out.len) ?_) | (refine wpList_store_row rfl 49 (.tmp 1) (.tmp 7) rfl w.heap.size (VI .i64 (car t)) rfl rfl 49 (VI .i64 t) H2.out.ht (info16 HDG.out.len) HSZ.out (VI_one _ _) ?_)))
  have HR0 : Hid (HW w.heap.size w (car t) (w2.setRow w.heap.size (VI .i64 (car t)))) := H2.out.row _
  clear H2 HST hW'
  go_loopw [3] (fun c w' => ∃ (s : List Int) (k : Int), c = .int .i64 k ∧ Dig s ∧ 0 ≤ k ∧ k ≤ 1099511627776 ∧ (D s + 57896044618658097711785492504343953926634992332820282019728792003956564819968 * k) % 57896044618658097711785492504343953926634992332820282019728792003956564819949 = D t % 57896044618658097711785492504343953926634992332820282019728792003956564819949 ∧ HW w.heap.size w s w') (fun c w' => (Dw w' w.heap.size + 57896044618658097711785492504343953926634992332820282019728792003956564819968 * intOf c).toNat)
  case atStart => exact ⟨car t, cout t, rfl, HDG.out, o0, o1, HM.out, HR0.out⟩
  case round =>
    clear HR0 HM HDG HSZ o0 o1
    obtain ⟨s, k, rfl, hsd, k0, k1, hm, hp⟩ := hrel
    by_cases hk : k = 0
    · subst hk
      have hlt := hsd.lt
      have hDs : (D t).toNat % P = (D s).toNat % P := hw_modz HT.out hsd hm
      have hc0 := rowI_cell hp.ht (i := 0) (by rw [hsd.len]; decide)
      have h0 := hsd.bd _ (getD_mem (t := s) (i := 0) (by rw [hsd.len]; decide))
      have HP : Hid (HW w.heap.size w s wr) := hp
      have HSD : Hid (Dig s) := hsd
      have HBL : Hid (∀ w, Calls Try.prog 66 #[.agg (VI .i64 s)] w fun e w' => e = .returned (.bool (decide (D s < 57896044618658097711785492504343953926634992332820282019728792003956564819949))) ∧ Below w.heap.size w w') := fun w => below_any s hsd w
      have hlen : Hid (s.length = 16) := hsd.len
      by_cases hb : D s < 57896044618658097711785492504343953926634992332820282019728792003956564819949
      · have hd : decide (D s < 57896044618658097711785492504343953926634992332820282019728792003956564819949) = true := by simpa using hb
        have HRES : Hid (dg ((D t).toNat % P) = s) := by
          have : dg ((D t).toNat % P) = s := by rw [hDs, Nat.mod_eq_of_lt (by have e : P = 57896044618658097711785492504343953926634992332820282019728792003956564819949 := rfl; omega), ← hsd.eq]
          exact this
        rw [hd] at HBL
        clear hp hsd hm hlt hDs hc0 h0 hb hd
        go_wp2_with (first | (go_at_call 66; refine (HBL.out wr).mono ?_; rintro e w3 ⟨rfl, hb⟩; have H3 : Hid (HW w.heap.size w s w3) := HP.out.below hb; clear hb) | (with_reducible refine at_list ?_; first | (refine wpList_load_row rfl 49 (.tmp 1) rfl w.heap.size rfl 49 (VI .i64 s) (0, 0) _ H3.out.ht Try.underlying49 rfl (info16 hlen.out) ?_) | (refine wpList_load_row rfl 49 (.tmp 1) rfl w.heap.size rfl 49 (VI .i64 s) (0, 0) _ HP.out.ht Try.underlying49 rfl (info16 hlen.out) ?_) | (refine wpList_store_row rfl 50 (.tmp 2) (.tmp 30) rfl (w.heap.size + 1) (VI .i64 s) rfl rfl 50 (VI .i64 (List.replicate 16 0)) H3.out.hr (infoN16 hlen.out) (by rw [VI_size, VI_size, hlen.out, List.length_replicate]) (VI_one _ _) ?_)))
        refine bodyPost_ret (v := .agg (VI .i64 s)) ?_ rfl ⟨by rw [HRES.out], below_setRow H3.out.old _ (by omega) _⟩
        exact results_cell_row (P := Try.prog) (fn := Try.f56) (p := 2) (ty := 50) rfl _ _ (w.heap.size + 1) 50 (VI .i64 s) (0, 0) _ rfl (setRow_heap _ _ _ _ 50 _ H3.out.hr) Try.underlying50 rfl (infoN16 hlen.out)
      · have hd : decide (D s < 57896044618658097711785492504343953926634992332820282019728792003956564819949) = false := by simpa using hb
        have hres : dg ((D t).toNat % P) = (s.getD 0 0 - 65517) :: List.replicate 15 0 := by rw [hDs]; exact hsd.less (by omega)
        rw [hd] at HBL
        have h517 : 65517 ≤ s.getD 0 0 := dig_low hsd (by omega)
        obtain ⟨s0, hs0⟩ : ∃ s0, s.getD 0 0 = s0 := ⟨_, rfl⟩
        have HS0 : Hid (s.getD 0 0 = s0) := hs0
        rw [hs0] at hres h0 h517
        have HRES : Hid (dg ((D t).toNat % P) = (s0 - 65517) :: List.replicate 15 0) := hres
        have HPR : Hid (∀ w, Calls Try.prog 58 #[.int .i64 0] w fun e w' => e = .returned (.int .i64 65517) ∧ w' = w) := fun w => prime_any 0 (by decide) w
        obtain ⟨h00, h01⟩ := h0
        have hwr : IntKind.i64.wrap (s0 - 65517) = s0 - 65517 := by rw [IntKind.wrap_i64]; omega
        clear hp hsd hm hlt hDs hc0 hb hd hres hs0
        go_wp2_with (first | (go_at_call 66; refine (HBL.out wr).mono ?_; rintro e w3 ⟨rfl, hb⟩; have H3 : Hid (HW w.heap.size w s w3) := HP.out.below hb; clear hb) | (with_reducible refine at_list ?_; refine wpList_load_row rfl 49 (.tmp 1) rfl w.heap.size rfl 49 (VI .i64 s) (0, 0) _ HP.out.ht Try.underlying49 rfl (info16 hlen.out) ?_))
        refine wp_region_held_drew (S := fun Y => rowI Y w.heap.size s 49 ∧ Below w.heap.size w Y) (by kernel_rfl) (⟨H3.out.ht, H3.out.old.drew⟩) (fun hH => ?_)
        refine wpAnyH_take (i := 0) (v := .pointer (some ⟨w.heap.size, 0, none⟩)) rfl (by kernel_rfl) (by kernel_rfl) (by kernel_rfl) (fun _ _ _ h => h) (Or.inl ⟨by kernel_rfl, fun W hW => ?_⟩) hH ?_
        · go_simp
        try simp only [Act.put, List.setIfInBounds_toArray, List.set_cons_zero, List.set_cons_succ]
        refine wpAnyH_take (i := 1) (v := .int .i64 s0) rfl (by kernel_rfl) (by kernel_rfl) (by kernel_rfl) (fun _ _ _ h => h) (Or.inl ⟨by kernel_rfl, fun W hW => ?_⟩) hH ?_
        · have hc := rowI_cell hW.1 (i := 0) (by rw [hlen.out]; decide); rw [HS0.out] at hc; go_simp
        try simp only [Act.put, List.setIfInBounds_toArray, List.set_cons_zero, List.set_cons_succ]
        refine wpAnyH_ready (rs := [2]) (by kernel_rfl) (by simp) (AllReadyH.cons rfl (fun K' hK => ?_) AllReadyH.nil)
        go_simp
        refine (HPR.out _).mono ?_
        rintro e w4 ⟨rfl, rfl⟩
        go_wp2_with fail
        refine hK.out _ _ hH (fun hH => ?_)
        clear hK K'
        try simp only [Act.put, List.setIfInBounds_toArray, List.set_cons_zero, List.set_cons_succ]
        refine wpAnyH_take (i := 3) (v := .int .i64 (s0 - 65517)) rfl (by kernel_rfl) (by kernel_rfl) (by kernel_rfl) (fun _ _ _ h => h) (Or.inl ⟨by kernel_rfl, fun W hW => ?_⟩) hH ?_
        · go_simp
        try simp only [Act.put, List.setIfInBounds_toArray, List.set_cons_zero, List.set_cons_succ]
        refine wpAnyH_take (i := 4) (v := .agg (VI .i64 ((s0 - 65517) :: List.replicate 15 0))) rfl (by kernel_rfl) (by kernel_rfl) (by kernel_rfl) (fun _ _ _ h => h) (Or.inl ⟨by kernel_rfl, fun W hW => ?_⟩) hH ?_
        · (go_simp; rfl)
        try simp only [Act.put, List.setIfInBounds_toArray, List.set_cons_zero, List.set_cons_succ]
        refine wpAnyH_ready (rs := [5]) (by kernel_rfl) (by simp) (AllReadyH.cons rfl (fun K' hK => ?_) AllReadyH.nil)
        refine if_pos_mpr (by kernel_rfl) (wp_store_row 50 (.tmp 2) (.tmp 29) rfl (w.heap.size + 1) (VI .i64 ((s0 - 65517) :: List.replicate 15 0)) rfl rfl 50 (VI .i64 (List.replicate 16 0)) H3.out.hr (infoN16 (by simp)) (by rw [VI_size, VI_size]; rfl) (VI_one _ _) ?_)
        refine hK.out _ _ ⟨(setRow_other _ _ _ _ (by omega)).trans hH.1, below_setRow hH.2 _ (by omega) _⟩ (fun hH => ?_)
        clear hK K'
        try simp only [Act.put, List.setIfInBounds_toArray, List.set_cons_zero, List.set_cons_succ]
        refine wpAnyH_done (by kernel_rfl) ?_ _
        try simp only [Act.put, List.getElem_toArray, List.getElem_cons_succ, List.getElem_cons_zero, List.getElem?_toArray, List.getElem?_cons_succ, List.getElem?_cons_zero, List.setIfInBounds_toArray, List.set_cons_zero, List.set_cons_succ]
        have HH : Hid (Below w.heap.size w (w3.drew.setRow (w.heap.size + 1) (VI .i64 ((s0 - 65517) :: List.replicate 15 0)))) := hH.2
        clear hH
        go_wp2
        refine bodyPost_ret (v := .agg (VI .i64 ((s0 - 65517) :: List.replicate 15 0))) ?_ rfl ⟨by rw [HRES.out], HH.out⟩
        exact results_cell_row (P := Try.prog) (fn := Try.f56) (p := 2) (ty := 50) rfl _ _ (w.heap.size + 1) 50 (VI .i64 ((s0 - 65517) :: List.replicate 15 0)) (0, 0) _ rfl (setRow_heap w3.drew _ _ _ 50 _ H3.out.hr) Try.underlying50 rfl (infoN16 (by simp))
    · obtain ⟨hbig, hdig, q0, q1, hm2, hval⟩ := fold_step hsd k0 k1 hm
      have h0 := hsd.bd _ (getD_mem (t := s) (i := 0) (by rw [hsd.len]; decide))
      have hc0 := rowI_cell hp.ht (i := 0) (by rw [hsd.len]; decide)
      have hf0 : wr.frozen? ⟨w.heap.size, 0, none⟩ = false := frozen_of_row wr _ _ _ _ hp.ht
      have hmea : Hid (Dw wr w.heap.size = D s) := Dw_row hp.ht
      have hp2 := hp.set 0 (s.getD 0 0 + 19 * k)
      obtain ⟨s', hs'⟩ : ∃ s', s.set 0 (s.getD 0 0 + 19 * k) = s' := ⟨_, rfl⟩
      rw [hs'] at hbig hdig q0 q1 hm2 hval hp2
      have HP2 : Hid (HW w.heap.size w s' (wr.setCell ⟨w.heap.size, 0, none⟩ (.int .i64 (s.getD 0 0 + 19 * k)))) := hp2
      have HBG : Hid (Big s') := hbig
      have HDG : Hid (Dig (car s')) := hdig
      have HM2 : Hid ((D (car s') + 57896044618658097711785492504343953926634992332820282019728792003956564819968 * cout s') % 57896044618658097711785492504343953926634992332820282019728792003956564819949 = D t % 57896044618658097711785492504343953926634992332820282019728792003956564819949) := hm2
      have HVL : Hid (D (car s') + 57896044618658097711785492504343953926634992332820282019728792003956564819968 * cout s' = D s + 19 * k) := hval
      have HDS : Hid (0 ≤ D s) := hsd.lt.1
      have HDC : Hid (0 ≤ D (car s')) := hdig.lt.1
      have HSZ : Hid ((VI .i64 s').size = (VI .i64 (car s')).size) := by
        have : (VI .i64 s').size = (VI .i64 (car s')).size := by rw [VI_size, VI_size, hbig.len, hdig.len]
        exact this
      obtain ⟨h00, h01⟩ := h0
      clear hm hm2 hval hp hp2 hbig hdig hsd hs'
      generalize s.getD 0 0 = s0 at *
      have hkd : decide (k = 0) = false := by simpa using hk
      obtain ⟨W3, hW3⟩ : ∃ W3, wr.setCell ⟨w.heap.size, 0, none⟩ (.int .i64 (s0 + 19 * k)) = W3 := ⟨_, rfl⟩
      rw [hW3] at HP2
      go_wp2_with (first | (go_at_call 65; refine (carried_any s' HBG.out W3).mono ?_; rintro e w3 ⟨rfl, hb⟩; have H3 : Hid (HW w.heap.size w s' w3) := HP2.out.below hb; clear hb) | (with_reducible refine at_list ?_; first | (refine wpList_load_row rfl 49 (.tmp 1) rfl w.heap.size rfl 49 (VI .i64 s') (0, 0) _ HP2.out.ht Try.underlying49 rfl (info16 HBG.out.len) ?_) | (refine wpList_store_row rfl 49 (.tmp 1) (.tmp 20) rfl w.heap.size (VI .i64 (car s')) rfl rfl 49 (VI .i64 s') H3.out.ht (info16 HDG.out.len) HSZ.out (VI_one _ _) ?_)))
      have HR : Hid (HW w.heap.size w (car s') (w3.setRow w.heap.size (VI .i64 (car s')))) := H3.out.row _
      clear H3
      go_roundw
      case rel => exact ⟨car s', cout s', rfl, HDG.out, q0, q1, HM2.out, HR.out⟩
      case measure =>
        rw [Dw_row HR.out.ht, hmea.out]
        have := HVL.out
        have := HDS.out
        have := HDC.out
        simp only [intOf]
        omega
end Go.Proofs.Ytacofgmnmofkpaa
namespace Go.Proofs.Ytacofgmnmofkpaa
set_option linter.unusedSimpArgs false
open Go.ChangeShapes Go.WideShapes Go.ChangeAt Go.RowKit Go.Pin Go.Fld
theorem zsub_D {n m : Nat} (hn : n < P) (hm : m < P) : D (zsub n m) = ((n + (P - m) : Nat) : Int) := by
  have e : zsub n m = List.zipWith (· - ·) (List.zipWith (· + ·) (dg n) pd) (dg m) := by
    apply List.ext_getElem
    · simp [zsub, pd]
    · intro i h1 h2
      have hi : i < 16 := by simpa [zsub] using h1
      simp only [zsub, List.getElem_map, List.getElem_range, List.getElem_zipWith]
      rw [List.getD_eq_getElem?_getD, List.getElem?_eq_getElem (by simpa using hi), List.getD_eq_getElem?_getD, List.getElem?_eq_getElem (show i < pd.length from hi), List.getD_eq_getElem?_getD, List.getElem?_eq_getElem (by simpa using hi)]
      rfl
  rw [e, D_zips _ _ (by simp [pd]), D_zip _ _ (by simp [pd]), (Dig.of (P255 hn)).2, (Dig.of (P255 hm)).2, pd_D]
  have hP : (P : Int) = 57896044618658097711785492504343953926634992332820282019728792003956564819949 := rfl
  omega
theorem zsub_bigz {n m : Nat} (hn : n < P) (hm : m < P) : Bigz (zsub n m) := ⟨by simp [zsub], fun x hx => by
  simp only [zsub, List.mem_map] at hx
  obtain ⟨i, hi, rfl⟩ := hx
  have h0 := dg_bd n i
  have h1 := dg_bd m i
  have h2 := pd_at_bd i (by simpa using hi)
  omega, by rw [zsub_D hn hm]; omega⟩
set_option maxRecDepth 100000 in
set_option maxHeartbeats 4000000 in
theorem rsub_any (n m : Nat) (hn : n < P) (hm : m < P) (w : World) :
    Calls Try.prog 38 #[.agg (VI .i64 (dg n)), .agg (VI .i64 (dg m))] w fun e w' => e = .returned (.agg (VI .i64 (dg ((n + (P - m)) % P)))) ∧ Below w.heap.size w w' := by
  have hst := jw_start w (dg n) (dg m)
  obtain ⟨W, hW⟩ : ∃ W, (((w.alloc (.cells (VI .i64 (dg n)) 50)).alloc (.cells (VI .i64 (dg m)) 50)).alloc (.cells (VI .i64 (List.replicate 16 0)) 50)).alloc (.cells (VI .i64 (List.replicate 16 0)) 49) = W := ⟨_, rfl⟩
  rw [hW] at hst
  have hW' : (((w.alloc (.cells (VI .i64 (dg n)) 50)).alloc (.cells (VI .i64 (dg m)) 50)).alloc (.cells #[.int .i64 0, .int .i64 0, .int .i64 0, .int .i64 0, .int .i64 0, .int .i64 0, .int .i64 0, .int .i64 0, .int .i64 0, .int .i64 0, .int .i64 0, .int .i64 0, .int .i64 0, .int .i64 0, .int .i64 0, .int .i64 0] 50)).alloc (.cells #[.int .i64 0, .int .i64 0, .int .i64 0, .int .i64 0, .int .i64 0, .int .i64 0, .int .i64 0, .int .i64 0, .int .i64 0, .int .i64 0, .int .i64 0, .int .i64 0, .int .i64 0, .int .i64 0, .int .i64 0, .int .i64 0] 49) = W := hW
  have HST : Hid (JW w.heap.size w (dg n) (dg m) (List.replicate 16 0) W) := hst
  have HWH : Hid (∀ w, Calls Try.prog 56 #[.agg (VI .i64 (zsub n m))] w fun e w' => e = .returned (.agg (VI .i64 (dg ((n + (P - m)) % P)))) ∧ Below w.heap.size w w') := fun w => by
    have := wholez_any _ (zsub_bigz hn hm) w
    rw [zsub_D hn hm, Int.toNat_natCast] at this
    exact this
  clear hW hst hn hm
  have hzl : (zsub n m).length = 16 := by simp [zsub]
  have HZL : Hid ((zsub n m).length = 16) := hzl
  go_enter Try.func38, Try.ntmps38
  go_wp2
  go_loopw [6] (fun i w' => ∃ k : Nat, k ≤ 16 ∧ i = .int .i64 k ∧ JW w.heap.size w (dg n) (dg m) ((zsub n m).take k ++ (List.replicate 16 (0 : Int)).drop k) w') (fun i _ => 16 - (intOf i).toNat)
  case atStart => exact ⟨0, Nat.zero_le _, rfl, HST.out⟩
  case round =>
    clear HST hW'
    obtain ⟨k, hk, rfl, hp⟩ := hrel
    by_cases hlt : k < 16
    · have es := set_stepD (zsub n m) (List.replicate 16 (0 : Int)) k (by rw [hzl]; exact hlt) (by simpa using hlt)
      rw [show (zsub n m).getD k 0 = (dg n).getD k 0 + pd.getD k 0 - (dg m).getD k 0 from range_getD _ k hlt] at es
      have hst := hp.set k ((dg n).getD k 0 + pd.getD k 0 - (dg m).getD k 0)
      rw [es] at hst
      have hca := rowI_cell hp.ha (i := k) (by simpa using hlt)
      have hcb := rowI_cell hp.hb (i := k) (by simpa using hlt)
      have hcl := rowI_cell hp.hl (i := k) (by rw [List.length_append, List.length_take, List.length_drop, hzl, List.length_replicate]; omega)
      have hfz : wr.frozen? ⟨w.heap.size + 3, k, none⟩ = false := frozen_of_row wr _ _ _ _ hp.hl
      obtain ⟨x0, x1⟩ := dg_bd n k
      obtain ⟨y0, y1⟩ := dg_bd m k
      obtain ⟨p0, p1⟩ := pd_at_bd k hlt
      have HPR : Hid (∀ w, Calls Try.prog 58 #[.int .i64 (k : Int)] w fun e w' => e = .returned (.int .i64 (pd.getD k 0)) ∧ w' = w) := fun w => prime_any k hlt w
      generalize pd.getD k 0 = q at *
      generalize (dg n).getD k 0 = x at *
      generalize (dg m).getD k 0 = y at *
      have HS : Hid (JW w.heap.size w (dg n) (dg m) ((zsub n m).take (k + 1) ++ (List.replicate 16 (0 : Int)).drop (k + 1)) (wr.setCell ⟨w.heap.size + 3, k, none⟩ (.int .i64 (x + q - y)))) := hst
      clear hp hst es
      generalize List.getD _ k 0 = zz at hcl
      go_wp2
      go_region_with (go_at_call 58; refine (HPR.out _).mono ?_; rintro e w2 ⟨rfl, rfl⟩)
      all_goals (
        go_wp2
        go_roundw
        case rel => exact ⟨k + 1, by omega, by go_num, HS.out.drew⟩
        case measure => simp [intOf]; omega)
    · have hk' : k = 16 := by omega
      subst hk'
      rw [List.take_of_length_le (by rw [hzl]; omega), List.drop_of_length_le (by simp), List.append_nil] at hp
      have HS : Hid (JW w.heap.size w (dg n) (dg m) (zsub n m) wr) := hp
      have hrl : (dg ((n + (P - m)) % P)).length = 16 := dg_len _
      generalize hres : dg ((n + (P - m)) % P) = res at *
      have HRES : Hid (dg ((n + (P - m)) % P) = res) := hres
      clear hres
      have HRL : Hid (res.length = 16) := hrl
      have HSZ : Hid ((VI .i64 (List.replicate 16 0)).size = (VI .i64 res).size) := by
        have : (VI .i64 (List.replicate 16 0)).size = (VI .i64 res).size := by rw [VI_size, VI_size, hrl, List.length_replicate]
        exact this
      clear hrl hp hlt hk
      go_wp2_with (first | (go_at_call 56; refine (HWH.out wr).mono ?_; rintro e w4 ⟨rfl, hb4⟩; have HO4 : Hid (Below w.heap.size w w4) := HS.out.old.trans (hb4.mono (by have := HS.out.sz; omega)); have HR4 : Hid (rowI w4 (w.heap.size + 2) (List.replicate 16 0) 50) := (hb4.block _ (by have := HS.out.sz; omega)).trans HS.out.hr; clear hb4) | (with_reducible refine at_list ?_; first | (refine wpList_load_row rfl 49 (.tmp 5) rfl (w.heap.size + 1 + 1 + 1) rfl 49 (VI .i64 (zsub n m)) (0, 0) _ HS.out.hl Try.underlying49 rfl (info16 HZL.out) ?_) | (refine wpList_store_row rfl 50 (.tmp 4) (.tmp 24) rfl (w.heap.size + 1 + 1) (VI .i64 res) rfl rfl 50 (VI .i64 (List.replicate 16 0)) HR4.out (infoN16 HRL.out) HSZ.out (VI_one _ _) ?_)))
      refine bodyPost_ret (v := .agg (VI .i64 res)) ?_ rfl ⟨by rw [HRES.out], below_setRow HO4.out _ (by omega) _⟩
      exact results_cell_row (P := Try.prog) (fn := Try.f38) (p := 4) (ty := 50) rfl _ _ (w.heap.size + 1 + 1) 50 (VI .i64 res) (0, 0) _ rfl (setRow_heap _ _ _ _ 50 _ HR4.out) Try.underlying50 rfl (infoN16 HRL.out)
end Go.Proofs.Ytacofgmnmofkpaa
