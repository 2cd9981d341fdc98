import Derived.Test.YtlffamcifahbjaaMgaj
namespace Go.Proofs.Ytlffamcifahbjaa
set_option linter.unusedSimpArgs false
open Go.ChangeShapes Go.WideShapes Go.ChangeAt Go.RowKit Go.Pin Go.Fld
theorem bts_getD (n i : Nat) (h : i < 32) : (bts n).getD i 0 = ((n >>> (8 * i) % 256 : Nat) : Int) := by
  rw [List.getD_eq_getElem?_getD, List.getElem?_eq_getElem (by simpa using h), Option.getD_some, bts_at n i h]
theorem pair_dg (n i : Nat) (hi : i < 16) : (dg n).getD i 0 = (bts n).getD (2 * i) 0 + 256 * (bts n).getD (2 * i + 1) 0 := by
  rw [dg_at n i hi, bts_getD n _ (by omega), bts_getD n _ (by omega)]
  have e1 : n >>> (8 * (2 * i)) = n / 2 ^ (16 * i) := by rw [Nat.shiftRight_eq_div_pow, show 8 * (2 * i) = 16 * i by omega]
  have e2 : n >>> (8 * (2 * i + 1)) = n / 2 ^ (16 * i) / 256 := by rw [Nat.shiftRight_eq_div_pow, show 8 * (2 * i + 1) = 16 * i + 8 by omega, Nat.pow_add, ← Nat.div_div_eq_div_mul]
  rw [e1, e2, Nat.shiftRight_eq_div_pow]
  omega
theorem dg_mask (n : Nat) : (dg n).set 15 ((dg n).getD 15 0 % 32768) = dg (n % 2 ^ 255) := by
  apply List.ext_getElem
  · simp
  · intro i h1 h2
    have hi : i < 16 := by simpa using h2
    have hg := dg_at (n % 2 ^ 255) i hi
    rw [List.getD_eq_getElem?_getD, List.getElem?_eq_getElem h2, Option.getD_some] at hg
    rw [hg, List.getElem_set, dg_at n 15 (by decide)]
    by_cases h15 : 15 = i
    · rw [if_pos h15, ← h15]
      simp only [Nat.shiftRight_eq_div_pow, Nat.reduceMul, Nat.reducePow]
      omega
    · rw [if_neg h15]
      have hg' := dg_at n i hi
      rw [List.getD_eq_getElem?_getD, List.getElem?_eq_getElem (by simpa using hi), Option.getD_some] at hg'
      rw [hg']
      congr 1
      have hb : ∀ m : Nat, m >>> (16 * i) % 65536 = m >>> (16 * i) % 2 ^ 16 := fun _ => rfl
      rw [hb n, hb (n % 2 ^ 255)]
      apply Nat.eq_of_testBit_eq
      intro k
      rw [Nat.testBit_mod_two_pow, Nat.testBit_mod_two_pow, Nat.testBit_shiftRight, Nat.testBit_shiftRight, Nat.testBit_mod_two_pow]
      by_cases hk : k < 16
      · have : 16 * i + k < 255 := by omega
        simp [hk, this]
      · simp [hk]
theorem set_stepD (a b : List Int) (k : Nat) (h1 : k < a.length) (h2 : k < b.length) : (a.take k ++ b.drop k).set k (a.getD k 0) = a.take (k + 1) ++ b.drop (k + 1) := by
  have e : a.getD k 0 = a[k] := by rw [List.getD_eq_getElem?_getD, List.getElem?_eq_getElem h1]; rfl
  rw [e]
  exact set_step a b k h1 h2
/-- ref Decode's boxes -/
structure FW (n : Nat) (w : World) (b L : List Int) (wr : World) : Prop where
  old : Below n w wr
  sz : n + 3 ≤ wr.heap.size
  hb : rowB wr n b 23
  hr : rowI wr (n + 1) (List.replicate 16 0) 65
  hl : rowI wr (n + 2) L 64
theorem FW.set {n : Nat} {w wr : World} {b L : List Int} (h : FW n w b L wr) (i : Nat) (v : Int) : FW n w b (L.set i v) (wr.setCell ⟨n + 2, i, none⟩ (.int .i64 v)) :=
  ⟨h.old.setCell (by simp) _, by simpa using h.sz, row_other h.hb (by simp) _, row_other h.hr (by simp) _, rowI_set h.hl _ _⟩
theorem FW.drew {n : Nat} {w wr : World} {b L : List Int} (h : FW n w b L wr) : FW n w b L wr.drew := ⟨h.old.drew, h.sz, h.hb, h.hr, h.hl⟩
theorem fw_start (w : World) (b : List Int) : FW w.heap.size w b (List.replicate 16 0) (((w.alloc (.cells (VI .u8 b) 23)).alloc (.cells (VI .i64 (List.replicate 16 0)) 65)).alloc (.cells (VI .i64 (List.replicate 16 0)) 64)) := by
  refine ⟨(((Below.refl _ _).alloc (Nat.le_refl _) _).alloc (by simp) _).alloc (by simp; omega) _, by simp [size_alloc], ?_, ?_, ?_⟩
  all_goals simp only [rowI, rowB, heap_alloc_any, size_alloc]
  · rw [if_neg (by omega), if_neg (by omega), if_pos trivial]
  · rw [if_neg (by omega), if_pos trivial]
  · rw [if_pos trivial]
theorem dg_big (n : Nat) (hn : n < 57896044618658097711785492504343953926634992332820282019728792003956564819968) : Big (dg n) := ⟨dg_len n, fun x hx => by have := (Dig.of hn).1.bd x hx; omega⟩
set_option maxRecDepth 100000 in
set_option maxHeartbeats 4000000 in
theorem rdecode_any (b : List Int) (hb : Key32 b) (w : World) :
    Calls Try.prog 30 #[.agg (VI .u8 b)] w fun e w' => e = .returned (.agg (VI .i64 (dg (nb b % 2 ^ 255 % P)))) ∧ Below w.heap.size w w' := by
  have hst := fw_start w b
  obtain ⟨W, hW⟩ : ∃ W, ((w.alloc (.cells (VI .u8 b) 23)).alloc (.cells (VI .i64 (List.replicate 16 0)) 65)).alloc (.cells (VI .i64 (List.replicate 16 0)) 64) = W := ⟨_, rfl⟩
  rw [hW] at hst
  have hW' : ((w.alloc (.cells (VI .u8 b) 23)).alloc (.cells #[.int .i64 0, .int .i64 0, .int .i64 0, .int .i64 0, .int .i64 0, .int .i64 0, .int .i64 0, .int .i64 0, .int .i64 0, .int .i64 0, .int .i64 0, .int .i64 0, .int .i64 0, .int .i64 0, .int .i64 0, .int .i64 0] 65)).alloc (.cells #[.int .i64 0, .int .i64 0, .int .i64 0, .int .i64 0, .int .i64 0, .int .i64 0, .int .i64 0, .int .i64 0, .int .i64 0, .int .i64 0, .int .i64 0, .int .i64 0, .int .i64 0, .int .i64 0, .int .i64 0, .int .i64 0] 64) = W := hW
  have HST : Hid (FW w.heap.size w b (List.replicate 16 0) W) := hst
  have HB : Hid (Key32 b) := hb
  have hbn := bts_nb b hb.len hb.bd
  have HBN : Hid (bts (nb b) = b) := hbn
  clear hW hst hb hbn
  go_enter Try.func30, Try.ntmps30
  go_wp2
  go_loopw [4] (fun i w' => ∃ k : Nat, k ≤ 16 ∧ i = .int .i64 k ∧ FW w.heap.size w b ((dg (nb b)).take k ++ (List.replicate 16 (0 : Int)).drop k) w') (fun i _ => 16 - (intOf i).toNat)
  case atStart => exact ⟨0, Nat.zero_le _, rfl, HST.out⟩
  case round =>
    clear HST hW'
    obtain ⟨k, hk, rfl, hp⟩ := hrel
    by_cases hlt : k < 16
    · have hkg : k < (dg (nb b)).length := by simpa using hlt
      have hkz : k < (List.replicate 16 (0 : Int)).length := by simpa using hlt
      have e := pair_dg (nb b) k hlt
      rw [HBN.out] at e
      have h2 : 2 * k < b.length := by rw [HB.out.len]; omega
      have h3 : 2 * k + 1 < b.length := by rw [HB.out.len]; omega
      have hc0 := rowB_cell hp.hb (i := 2 * k) h2
      have hc1 := rowB_cell hp.hb (i := 2 * k + 1) h3
      have hcl := rowI_cell hp.hl (i := k) (by simp; omega)
      have hfz : wr.frozen? ⟨w.heap.size + 2, k, none⟩ = false := frozen_of_row wr _ _ _ _ hp.hl
      obtain ⟨x0, x1⟩ := HB.out.bd _ (getD_mem h2)
      obtain ⟨y0, y1⟩ := HB.out.bd _ (getD_mem h3)
      have es := set_stepD (dg (nb b)) (List.replicate 16 (0 : Int)) k hkg hkz
      have hst := hp.set k ((dg (nb b)).getD k 0)
      rw [es] at hst
      rw [e] at hst
      generalize b.getD (2 * k) 0 = x at *
      generalize b.getD (2 * k + 1) 0 = y at *
      have HS : Hid (FW w.heap.size w b ((dg (nb b)).take (k + 1) ++ (List.replicate 16 (0 : Int)).drop (k + 1)) (wr.setCell ⟨w.heap.size + 2, k, none⟩ (.int .i64 (x + 256 * y)))) := hst
      clear hp hst e es
      generalize List.getD _ k 0 = z at hcl
      go_wp2
      go_region
      go_wp2
      go_roundw
      case rel => exact ⟨k + 1, by omega, by go_num, HS.out.drew⟩
      case measure => simp [intOf]; omega
    · have hk' : k = 16 := by omega
      subst hk'
      rw [List.take_of_length_le (by simp), List.drop_of_length_le (by simp), List.append_nil] at hp
      have hcl := rowI_cell hp.hl (i := 15) (by simp)
      have hfz : wr.frozen? ⟨w.heap.size + 2, 15, none⟩ = false := frozen_of_row wr _ _ _ _ hp.hl
      have hd := dg_at (nb b) 15 (by decide)
      have h0 : 0 ≤ (dg (nb b)).getD 15 0 := by rw [hd]; omega
      have h1 : (dg (nb b)).getD 15 0 < 65536 := by rw [hd]; omega
      have hst := hp.set 15 ((dg (nb b)).getD 15 0 % 32768)
      rw [dg_mask] at hst
      have hlt255 : nb b % 2 ^ 255 < 57896044618658097711785492504343953926634992332820282019728792003956564819968 := Nat.mod_lt _ (by decide)
      have HBG : Hid (Big (dg (nb b % 2 ^ 255))) := dg_big _ hlt255
      have hDv : D (dg (nb b % 2 ^ 255)) = ((nb b % 2 ^ 255 : Nat) : Int) := (Dig.of hlt255).2
      have HWH : Hid (∀ w, Calls Try.prog 50 #[.agg (VI .i64 (dg (nb b % 2 ^ 255)))] w fun e w' => e = .returned (.agg (VI .i64 (dg (nb b % 2 ^ 255 % P)))) ∧ Below w.heap.size w w') := fun w => by
        have := whole_any _ (dg_big _ hlt255) w
        rw [hDv, Int.toNat_natCast] at this
        exact this
      generalize (dg (nb b)).getD 15 0 = z at *
      obtain ⟨W3, hW3⟩ : ∃ W3, wr.setCell ⟨w.heap.size + 2, 15, none⟩ (.int .i64 (z % 32768)) = W3 := ⟨_, rfl⟩
      rw [hW3] at hst
      have HS : Hid (FW w.heap.size w b (dg (nb b % 2 ^ 255)) W3) := hst
      clear hp hst hd hDv hlt255 hlt hk
      have hrl : (dg (nb b % 2 ^ 255 % P)).length = 16 := dg_len _
      generalize hres : dg (nb b % 2 ^ 255 % P) = res at *
      have HRES : Hid (dg (nb b % 2 ^ 255 % P) = res) := hres
      clear hres
      have HRL : Hid (res.length = 16) := hrl
      have HSZ : Hid ((VI .i64 (List.replicate 16 0)).size = (VI .i64 res).size) := by
        have : (VI .i64 (List.replicate 16 0)).size = (VI .i64 res).size := by rw [VI_size, VI_size, hrl, List.length_replicate]
        exact this
      clear hrl
      go_wp2_with (first | (go_at_call 50; refine (HWH.out W3).mono ?_; rintro e w4 ⟨rfl, hb4⟩; have HO4 : Hid (Below w.heap.size w w4) := HS.out.old.trans (hb4.mono (by have := HS.out.sz; omega)); have HR4 : Hid (rowI w4 (w.heap.size + 1) (List.replicate 16 0) 65) := (hb4.block _ (by have := HS.out.sz; omega)).trans HS.out.hr; clear hb4) | (with_reducible refine at_list ?_; first | (refine wpList_load_row rfl 64 (.tmp 3) rfl (w.heap.size + 1 + 1) rfl 64 (VI .i64 (dg (nb b % 2 ^ 255))) (0, 0) _ HS.out.hl Try.underlying64 rfl (info16 (dg_len _)) ?_) | (refine wpList_store_row rfl 65 (.tmp 2) (.tmp 29) rfl (w.heap.size + 1) (VI .i64 res) rfl rfl 65 (VI .i64 (List.replicate 16 0)) HR4.out (infoN16 HRL.out) HSZ.out (VI_one _ _) ?_)))
      refine bodyPost_ret (v := .agg (VI .i64 res)) ?_ rfl ⟨by rw [HRES.out], below_setRow HO4.out _ (by omega) _⟩
      exact results_cell_row (P := Try.prog) (fn := Try.f30) (p := 2) (ty := 65) rfl _ _ (w.heap.size + 1) 65 (VI .i64 res) (0, 0) _ rfl (setRow_heap _ _ _ _ 65 _ HR4.out) Try.underlying65 rfl (infoN16 HRL.out)
end Go.Proofs.Ytlffamcifahbjaa
namespace Go.Proofs.Ytlffamcifahbjaa
set_option linter.unusedSimpArgs false
open Go.ChangeShapes Go.WideShapes Go.ChangeAt Go.RowKit Go.Pin Go.Fld
/-- ref Encode's boxes -/
structure GW (n : Nat) (w : World) (a L : List Int) (wr : World) : Prop where
  old : Below n w wr
  ha : rowI wr n a 65
  hr : rowB wr (n + 1) (List.replicate 32 0) 23
  hl : rowB wr (n + 2) L 23
theorem GW.set {n : Nat} {w wr : World} {a L : List Int} (h : GW n w a L wr) (i : Nat) (v : Int) : GW n w a (L.set i v) (wr.setCell ⟨n + 2, i, none⟩ (.int .u8 v)) :=
  ⟨h.old.setCell (by simp) _, row_other h.ha (by simp) _, row_other h.hr (by simp) _, rowB_set h.hl _ _⟩
theorem gw_start (w : World) (a : List Int) : GW w.heap.size w a (List.replicate 32 0) (((w.alloc (.cells (VI .i64 a) 65)).alloc (.cells (VI .u8 (List.replicate 32 0)) 23)).alloc (.cells (VI .u8 (List.replicate 32 0)) 23)) := by
  refine ⟨(((Below.refl _ _).alloc (Nat.le_refl _) _).alloc (by simp) _).alloc (by simp; omega) _, ?_, ?_, ?_⟩
  all_goals simp only [rowI, rowB, heap_alloc_any, size_alloc]
  · rw [if_neg (by omega), if_neg (by omega), if_pos trivial]
  · rw [if_neg (by omega), if_pos trivial]
  · rw [if_pos trivial]
set_option maxRecDepth 100000 in
set_option maxHeartbeats 4000000 in
theorem rencode_any (n : Nat) (w : World) :
    Calls Try.prog 34 #[.agg (VI .i64 (dg n))] w fun e w' => e = .returned (.agg (VI .u8 (bts n))) ∧ Below w.heap.size w w' := by
  have hst := gw_start w (dg n)
  obtain ⟨W, hW⟩ : ∃ W, ((w.alloc (.cells (VI .i64 (dg n)) 65)).alloc (.cells (VI .u8 (List.replicate 32 0)) 23)).alloc (.cells (VI .u8 (List.replicate 32 0)) 23) = W := ⟨_, rfl⟩
  rw [hW] at hst
  have hW' : ((w.alloc (.cells (VI .i64 (dg n)) 65)).alloc (.cells #[.int .u8 0, .int .u8 0, .int .u8 0, .int .u8 0, .int .u8 0, .int .u8 0, .int .u8 0, .int .u8 0, .int .u8 0, .int .u8 0, .int .u8 0, .int .u8 0, .int .u8 0, .int .u8 0, .int .u8 0, .int .u8 0, .int .u8 0, .int .u8 0, .int .u8 0, .int .u8 0, .int .u8 0, .int .u8 0, .int .u8 0, .int .u8 0, .int .u8 0, .int .u8 0, .int .u8 0, .int .u8 0, .int .u8 0, .int .u8 0, .int .u8 0, .int .u8 0] 23)).alloc (.cells #[.int .u8 0, .int .u8 0, .int .u8 0, .int .u8 0, .int .u8 0, .int .u8 0, .int .u8 0, .int .u8 0, .int .u8 0, .int .u8 0, .int .u8 0, .int .u8 0, .int .u8 0, .int .u8 0, .int .u8 0, .int .u8 0, .int .u8 0, .int .u8 0, .int .u8 0, .int .u8 0, .int .u8 0, .int .u8 0, .int .u8 0, .int .u8 0, .int .u8 0, .int .u8 0, .int .u8 0, .int .u8 0, .int .u8 0, .int .u8 0, .int .u8 0, .int .u8 0] 23) = W := hW
  have HST : Hid (GW w.heap.size w (dg n) (List.replicate 32 0) W) := hst
  clear hW hst
  go_enter Try.func34, Try.ntmps34
  go_wp2
  go_loopw [4] (fun i w' => ∃ k : Nat, k ≤ 16 ∧ i = .int .i64 k ∧ GW w.heap.size w (dg n) ((bts n).take (2 * k) ++ (List.replicate 32 (0 : Int)).drop (2 * k)) w') (fun i _ => 16 - (intOf i).toNat)
  case atStart => exact ⟨0, Nat.zero_le _, rfl, HST.out⟩
  case round =>
    clear HST hW'
    obtain ⟨k, hk, rfl, hp⟩ := hrel
    by_cases hlt : k < 16
    · have h2 : 2 * k < (bts n).length := by rw [bts_len]; omega
      have h3 : 2 * k + 1 < (bts n).length := by rw [bts_len]; omega
      have z2 : 2 * k < (List.replicate 32 (0 : Int)).length := by simp; omega
      have z3 : 2 * k + 1 < (List.replicate 32 (0 : Int)).length := by simp; omega
      have hca := rowI_cell hp.ha (i := k) (by simpa using hlt)
      have e := pair_dg n k hlt
      obtain ⟨x0, x1⟩ := bts_bd n _ (getD_mem h2)
      obtain ⟨y0, y1⟩ := bts_bd n _ (getD_mem h3)
      have hcx := rowB_cell hp.hl (i := 2 * k) (by simp; omega)
      have hcy := rowB_cell hp.hl (i := 2 * k + 1) (by simp; omega)
      have hfz : wr.frozen? ⟨w.heap.size + 2, 2 * k, none⟩ = false := frozen_of_row wr _ _ _ _ hp.hl
      have hfy : wr.frozen? ⟨w.heap.size + 2, 2 * k + 1, none⟩ = false := frozen_of_row wr _ _ _ _ hp.hl
      have e2 := set_stepD (bts n) (List.replicate 32 (0 : Int)) (2 * k) h2 z2
      have e3 := set_stepD (bts n) (List.replicate 32 (0 : Int)) (2 * k + 1) h3 z3
      have hst := (hp.set (2 * k) ((bts n).getD (2 * k) 0)).set (2 * k + 1) ((bts n).getD (2 * k + 1) 0)
      rw [e2, e3, show 2 * k + 1 + 1 = 2 * (k + 1) by omega] at hst
      clear e2 e3
      rw [e] at hca
      generalize (bts n).getD (2 * k) 0 = x at *
      generalize (bts n).getD (2 * k + 1) 0 = y at *
      obtain ⟨v, hv⟩ : ∃ v, x + 256 * y = v := ⟨_, rfl⟩
      have hm1 : v % 256 = x := by omega
      have hm2 : v / 256 = y := by omega
      have v0 : 0 ≤ v := by omega
      have v1 : v < 65536 := by omega
      rw [hv] at hca
      clear hv
      have hy256 : y % 256 = y := by omega
      have hx256 : x % 256 = x := by omega
      have HS : Hid (GW w.heap.size w (dg n) ((bts n).take (2 * (k + 1)) ++ (List.replicate 32 (0 : Int)).drop (2 * (k + 1))) ((wr.setCell ⟨w.heap.size + 2, 2 * k, none⟩ (.int .u8 x)).setCell ⟨w.heap.size + 2, 2 * k + 1, none⟩ (.int .u8 y))) := hst
      clear hp hst e
      generalize List.getD _ (2 * k) 0 = z at hcx
      generalize List.getD _ (2 * k + 1) 0 = z' at hcy
      go_wp2
      go_roundw
      case rel => exact ⟨k + 1, by omega, by go_num, HS.out⟩
      case measure => simp [intOf]; omega
    · have hk' : k = 16 := by omega
      subst hk'
      rw [List.take_of_length_le (by simp), List.drop_of_length_le (by simp), List.append_nil] at hp
      have HP : Hid (GW w.heap.size w (dg n) (bts n) wr) := hp
      have HJ : Hid ((Try.prog.info? 23).map (·.size) = some (VI .u8 (bts n)).size) := by rw [VI_size, bts_len]; exact info40
      clear hp hlt hk
      go_wp2_with (with_reducible refine at_list ?_; first | (refine wpList_load_row rfl 23 (.tmp 3) rfl (w.heap.size + 1 + 1) rfl 23 (VI .u8 (bts n)) (0, 0) _ HP.out.hl Try.underlying23 rfl HJ.out ?_) | (refine wpList_store_row rfl 23 (.tmp 2) (.tmp 26) rfl (w.heap.size + 1) (VI .u8 (bts n)) rfl rfl 23 (VI .u8 (List.replicate 32 0)) HP.out.hr HJ.out (by simp) (VI_one _ _) ?_))
      refine bodyPost_ret (v := .agg (VI .u8 (bts n))) ?_ rfl ⟨rfl, below_setRow HP.out.old _ (by omega) _⟩
      exact results_cell_row (P := Try.prog) (fn := Try.f34) (p := 2) (ty := 23) rfl _ _ (w.heap.size + 1) 23 (VI .u8 (bts n)) (0, 0) _ rfl (setRow_heap wr _ _ _ 23 _ HP.out.hr) Try.underlying23 rfl HJ.out
end Go.Proofs.Ytlffamcifahbjaa
namespace Go.Proofs.Ytlffamcifahbjaa
set_option linter.unusedSimpArgs false
open Go.ChangeShapes Go.WideShapes Go.ChangeAt Go.RowKit Go.Pin Go.Fld
/-- ref Add's and Sub's boxes -/
structure JW (n : Nat) (w : World) (a b L : List Int) (wr : World) : Prop where
  old : Below n w wr
  sz : n + 4 ≤ wr.heap.size
  ha : rowI wr n a 65
  hb : rowI wr (n + 1) b 65
  hr : rowI wr (n + 2) (List.replicate 16 0) 65
  hl : rowI wr (n + 3) L 64
theorem JW.set {n : Nat} {w wr : World} {a b L : List Int} (h : JW n w a b L wr) (i : Nat) (v : Int) : JW n w a b (L.set i v) (wr.setCell ⟨n + 3, i, none⟩ (.int .i64 v)) :=
  ⟨h.old.setCell (by simp) _, by simpa using h.sz, row_other h.ha (by simp) _, row_other h.hb (by simp) _, row_other h.hr (by simp) _, rowI_set h.hl _ _⟩
theorem JW.drew {n : Nat} {w wr : World} {a b L : List Int} (h : JW n w a b L wr) : JW n w a b L wr.drew := ⟨h.old.drew, h.sz, h.ha, h.hb, h.hr, h.hl⟩
theorem jw_start (w : World) (a b : List Int) : JW w.heap.size w a b (List.replicate 16 0) ((((w.alloc (.cells (VI .i64 a) 65)).alloc (.cells (VI .i64 b) 65)).alloc (.cells (VI .i64 (List.replicate 16 0)) 65)).alloc (.cells (VI .i64 (List.replicate 16 0)) 64)) := by
  refine ⟨((((Below.refl _ _).alloc (Nat.le_refl _) _).alloc (by simp) _).alloc (by simp; omega) _).alloc (by simp; omega) _, by simp [size_alloc], ?_, ?_, ?_, ?_⟩
  all_goals simp only [rowI, heap_alloc_any, size_alloc]
  · rw [if_neg (by omega), if_neg (by omega), if_neg (by omega), if_pos trivial]
  · rw [if_neg (by omega), if_neg (by omega), if_pos trivial]
  · rw [if_neg (by omega), if_pos trivial]
  · rw [if_pos trivial]
theorem D_zip (a b : List Int) (h : a.length = b.length) : D (List.zipWith (· + ·) a b) = D a + D b := by
  induction a generalizing b with
  | nil => cases b with | nil => rfl | cons _ _ => simp at h
  | cons x a ih =>
    cases b with
    | nil => simp at h
    | cons y b =>
      have := ih b (by simpa using h)
      simp only [List.zipWith_cons_cons, D_cons, this]
      omega
theorem D_zips (a b : List Int) (h : a.length = b.length) : D (List.zipWith (· - ·) a b) = D a - D b := by
  induction a generalizing b with
  | nil => cases b with | nil => rfl | cons _ _ => simp at h
  | cons x a ih =>
    cases b with
    | nil => simp at h
    | cons y b =>
      have := ih b (by simpa using h)
      simp only [List.zipWith_cons_cons, D_cons, this]
      omega
theorem P255 {n : Nat} (h : n < P) : n < 57896044618658097711785492504343953926634992332820282019728792003956564819968 := Nat.lt_trans h (by decide)
theorem dg_bd (n : Nat) (i : Nat) : 0 ≤ (dg n).getD i 0 ∧ (dg n).getD i 0 < 65536 := by
  by_cases h : i < 16
  · rw [dg_at n i h]; omega
  · rw [List.getD_eq_getElem?_getD, List.getElem?_eq_none (by simp; omega)]; simp
/-- digit by digit -/
def zadd (n m : Nat) : List Int := (List.range 16).map fun i => (dg n).getD i 0 + (dg m).getD i 0
def zsub (n m : Nat) : List Int := (List.range 16).map fun i => (dg n).getD i 0 + pd.getD i 0 - (dg m).getD i 0
theorem range_getD (f : Nat → Int) (i : Nat) (h : i < 16) : ((List.range 16).map f).getD i 0 = f i := by
  rw [List.getD_eq_getElem?_getD, List.getElem?_eq_getElem (by simpa using h)]; simp
theorem pd_at_bd : ∀ i : Nat, i < 16 → 32767 ≤ pd.getD i 0 ∧ pd.getD i 0 < 65536 := by decide
theorem zadd_big (n m : Nat) : Big (zadd n m) := ⟨by simp [zadd], fun x hx => by
  simp only [zadd, List.mem_map] at hx
  obtain ⟨i, _, rfl⟩ := hx
  have := dg_bd n i
  have := dg_bd m i
  omega⟩
theorem zadd_D {n m : Nat} (hn : n < P) (hm : m < P) : D (zadd n m) = ((n + m : Nat) : Int) := by
  have e : zadd n m = List.zipWith (· + ·) (dg n) (dg m) := by
    apply List.ext_getElem
    · simp [zadd]
    · intro i h1 h2
      have hi : i < 16 := by simpa [zadd] using h1
      simp only [zadd, List.getElem_map, List.getElem_range, List.getElem_zipWith]
      rw [List.getD_eq_getElem?_getD, List.getElem?_eq_getElem (by simpa using hi), List.getD_eq_getElem?_getD, List.getElem?_eq_getElem (by simpa using hi)]
      rfl
  rw [e, D_zip _ _ (by simp), (Dig.of (P255 hn)).2, (Dig.of (P255 hm)).2]
  simp
set_option maxRecDepth 100000 in
set_option maxHeartbeats 4000000 in
theorem radd_any (n m : Nat) (hn : n < P) (hm : m < P) (w : World) :
    Calls Try.prog 51 #[.agg (VI .i64 (dg n)), .agg (VI .i64 (dg m))] w fun e w' => e = .returned (.agg (VI .i64 (dg ((n + m) % P)))) ∧ Below w.heap.size w w' := by
  have hst := jw_start w (dg n) (dg m)
  obtain ⟨W, hW⟩ : ∃ W, (((w.alloc (.cells (VI .i64 (dg n)) 65)).alloc (.cells (VI .i64 (dg m)) 65)).alloc (.cells (VI .i64 (List.replicate 16 0)) 65)).alloc (.cells (VI .i64 (List.replicate 16 0)) 64) = W := ⟨_, rfl⟩
  rw [hW] at hst
  have hW' : (((w.alloc (.cells (VI .i64 (dg n)) 65)).alloc (.cells (VI .i64 (dg m)) 65)).alloc (.cells #[.int .i64 0, .int .i64 0, .int .i64 0, .int .i64 0, .int .i64 0, .int .i64 0, .int .i64 0, .int .i64 0, .int .i64 0, .int .i64 0, .int .i64 0, .int .i64 0, .int .i64 0, .int .i64 0, .int .i64 0, .int .i64 0] 65)).alloc (.cells #[.int .i64 0, .int .i64 0, .int .i64 0, .int .i64 0, .int .i64 0, .int .i64 0, .int .i64 0, .int .i64 0, .int .i64 0, .int .i64 0, .int .i64 0, .int .i64 0, .int .i64 0, .int .i64 0, .int .i64 0, .int .i64 0] 64) = W := hW
  have HST : Hid (JW w.heap.size w (dg n) (dg m) (List.replicate 16 0) W) := hst
  have HWH : Hid (∀ w, Calls Try.prog 50 #[.agg (VI .i64 (zadd n m))] w fun e w' => e = .returned (.agg (VI .i64 (dg ((n + m) % P)))) ∧ Below w.heap.size w w') := fun w => by
    have := whole_any _ (zadd_big n m) w
    rw [zadd_D hn hm, Int.toNat_natCast] at this
    exact this
  clear hW hst hn hm
  have hzl : (zadd n m).length = 16 := by simp [zadd]
  have HZL : Hid ((zadd n m).length = 16) := hzl
  go_enter Try.func51, Try.ntmps51
  go_wp2
  go_loopw [6] (fun i w' => ∃ k : Nat, k ≤ 16 ∧ i = .int .i64 k ∧ JW w.heap.size w (dg n) (dg m) ((zadd n m).take k ++ (List.replicate 16 (0 : Int)).drop k) w') (fun i _ => 16 - (intOf i).toNat)
  case atStart => exact ⟨0, Nat.zero_le _, rfl, HST.out⟩
  case round =>
    clear HST hW'
    obtain ⟨k, hk, rfl, hp⟩ := hrel
    by_cases hlt : k < 16
    · have es := set_stepD (zadd n m) (List.replicate 16 (0 : Int)) k (by rw [hzl]; exact hlt) (by simpa using hlt)
      rw [show (zadd n m).getD k 0 = (dg n).getD k 0 + (dg m).getD k 0 from range_getD _ k hlt] at es
      have hst := hp.set k ((dg n).getD k 0 + (dg m).getD k 0)
      rw [es] at hst
      have hca := rowI_cell hp.ha (i := k) (by simpa using hlt)
      have hcb := rowI_cell hp.hb (i := k) (by simpa using hlt)
      have hcl := rowI_cell hp.hl (i := k) (by rw [List.length_append, List.length_take, List.length_drop, hzl, List.length_replicate]; omega)
      have hfz : wr.frozen? ⟨w.heap.size + 3, k, none⟩ = false := frozen_of_row wr _ _ _ _ hp.hl
      obtain ⟨x0, x1⟩ := dg_bd n k
      obtain ⟨y0, y1⟩ := dg_bd m k
      generalize (dg n).getD k 0 = x at *
      generalize (dg m).getD k 0 = y at *
      have HS : Hid (JW w.heap.size w (dg n) (dg m) ((zadd n m).take (k + 1) ++ (List.replicate 16 (0 : Int)).drop (k + 1)) (wr.setCell ⟨w.heap.size + 3, k, none⟩ (.int .i64 (x + y)))) := hst
      clear hp hst es
      generalize List.getD _ k 0 = zz at hcl
      go_wp2
      go_region
      go_wp2
      go_roundw
      case rel => exact ⟨k + 1, by omega, by go_num, HS.out.drew⟩
      case measure => simp [intOf]; omega
    · have hk' : k = 16 := by omega
      subst hk'
      rw [List.take_of_length_le (by rw [hzl]; omega), List.drop_of_length_le (by simp), List.append_nil] at hp
      have HS : Hid (JW w.heap.size w (dg n) (dg m) (zadd n m) wr) := hp
      have hrl : (dg ((n + m) % P)).length = 16 := dg_len _
      generalize hres : dg ((n + m) % P) = res at *
      have HRES : Hid (dg ((n + m) % P) = res) := hres
      clear hres
      have HRL : Hid (res.length = 16) := hrl
      have HSZ : Hid ((VI .i64 (List.replicate 16 0)).size = (VI .i64 res).size) := by
        have : (VI .i64 (List.replicate 16 0)).size = (VI .i64 res).size := by rw [VI_size, VI_size, hrl, List.length_replicate]
        exact this
      clear hrl hp hlt hk
      go_wp2_with (first | (go_at_call 50; refine (HWH.out wr).mono ?_; rintro e w4 ⟨rfl, hb4⟩; have HO4 : Hid (Below w.heap.size w w4) := HS.out.old.trans (hb4.mono (by have := HS.out.sz; omega)); have HR4 : Hid (rowI w4 (w.heap.size + 2) (List.replicate 16 0) 65) := (hb4.block _ (by have := HS.out.sz; omega)).trans HS.out.hr; clear hb4) | (with_reducible refine at_list ?_; first | (refine wpList_load_row rfl 64 (.tmp 5) rfl (w.heap.size + 1 + 1 + 1) rfl 64 (VI .i64 (zadd n m)) (0, 0) _ HS.out.hl Try.underlying64 rfl (info16 HZL.out) ?_) | (refine wpList_store_row rfl 65 (.tmp 4) (.tmp 21) rfl (w.heap.size + 1 + 1) (VI .i64 res) rfl rfl 65 (VI .i64 (List.replicate 16 0)) HR4.out (infoN16 HRL.out) HSZ.out (VI_one _ _) ?_)))
      refine bodyPost_ret (v := .agg (VI .i64 res)) ?_ rfl ⟨by rw [HRES.out], below_setRow HO4.out _ (by omega) _⟩
      exact results_cell_row (P := Try.prog) (fn := Try.f51) (p := 4) (ty := 65) rfl _ _ (w.heap.size + 1 + 1) 65 (VI .i64 res) (0, 0) _ rfl (setRow_heap _ _ _ _ 65 _ HR4.out) Try.underlying65 rfl (infoN16 HRL.out)
end Go.Proofs.Ytlffamcifahbjaa
