import Derived.Test.YteimmjdiaophoaaRfE
namespace Go.Proofs.Yteimmjdiaophoaa
set_option linter.unusedSimpArgs false
open Go.ChangeShapes Go.WideShapes Go.ChangeAt Go.RowKit Go.Pin Go.Fld
/-- ref Encode's boxes -/
structure GW (n : Nat) (w : World) (a L : List Int) (wr : World) : Prop where
  old : Below n w wr
  ha : rowI wr n a 30
  hr : rowB wr (n + 1) (List.replicate 32 0) 40
  hl : rowB wr (n + 2) L 40
theorem GW.set {n : Nat} {w wr : World} {a L : List Int} (h : GW n w a L wr) (i : Nat) (v : Int) : GW n w a (L.set i v) (wr.setCell ⟨n + 2, i, none⟩ (.int .u8 v)) :=
  ⟨h.old.setCell (by simp) _, row_other h.ha (by simp) _, row_other h.hr (by simp) _, rowB_set h.hl _ _⟩
theorem gw_start (w : World) (a : List Int) : GW w.heap.size w a (List.replicate 32 0) (((w.alloc (.cells (VI .i64 a) 30)).alloc (.cells (VI .u8 (List.replicate 32 0)) 40)).alloc (.cells (VI .u8 (List.replicate 32 0)) 40)) := by
  refine ⟨(((Below.refl _ _).alloc (Nat.le_refl _) _).alloc (by simp) _).alloc (by simp; omega) _, ?_, ?_, ?_⟩
  all_goals simp only [rowI, rowB, heap_alloc_any, size_alloc]
  · rw [if_neg (by omega), if_neg (by omega), if_pos trivial]
  · rw [if_neg (by omega), if_pos trivial]
  · rw [if_pos trivial]
set_option maxRecDepth 100000 in
set_option maxHeartbeats 4000000 in
theorem rencode_any (n : Nat) (w : World) :
    Calls Try.prog 16 #[.agg (VI .i64 (dg n))] w fun e w' => e = .returned (.agg (VI .u8 (bts n))) ∧ Below w.heap.size w w' := by
  have hst := gw_start w (dg n)
  obtain ⟨W, hW⟩ : ∃ W, ((w.alloc (.cells (VI .i64 (dg n)) 30)).alloc (.cells (VI .u8 (List.replicate 32 0)) 40)).alloc (.cells (VI .u8 (List.replicate 32 0)) 40) = W := ⟨_, rfl⟩
  rw [hW] at hst
  have hW' : ((w.alloc (.cells (VI .i64 (dg n)) 30)).alloc (.cells #[.int .u8 0, .int .u8 0, .int .u8 0, .int .u8 0, .int .u8 0, .int .u8 0, .int .u8 0, .int .u8 0, .int .u8 0, .int .u8 0, .int .u8 0, .int .u8 0, .int .u8 0, .int .u8 0, .int .u8 0, .int .u8 0, .int .u8 0, .int .u8 0, .int .u8 0, .int .u8 0, .int .u8 0, .int .u8 0, .int .u8 0, .int .u8 0, .int .u8 0, .int .u8 0, .int .u8 0, .int .u8 0, .int .u8 0, .int .u8 0, .int .u8 0, .int .u8 0] 40)).alloc (.cells #[.int .u8 0, .int .u8 0, .int .u8 0, .int .u8 0, .int .u8 0, .int .u8 0, .int .u8 0, .int .u8 0, .int .u8 0, .int .u8 0, .int .u8 0, .int .u8 0, .int .u8 0, .int .u8 0, .int .u8 0, .int .u8 0, .int .u8 0, .int .u8 0, .int .u8 0, .int .u8 0, .int .u8 0, .int .u8 0, .int .u8 0, .int .u8 0, .int .u8 0, .int .u8 0, .int .u8 0, .int .u8 0, .int .u8 0, .int .u8 0, .int .u8 0, .int .u8 0] 40) = W := hW
  have HST : Hid (GW w.heap.size w (dg n) (List.replicate 32 0) W) := hst
  clear hW hst
  go_enter Try.func16, Try.ntmps16
  go_wp2
  go_loopw [4] (fun i w' => ∃ k : Nat, k ≤ 16 ∧ i = .int .i64 k ∧ GW w.heap.size w (dg n) ((bts n).take (2 * k) ++ (List.replicate 32 (0 : Int)).drop (2 * k)) w') (fun i _ => 16 - (intOf i).toNat)
  case atStart => exact ⟨0, Nat.zero_le _, rfl, HST.out⟩
  case round =>
    clear HST hW'
    obtain ⟨k, hk, rfl, hp⟩ := hrel
    by_cases hlt : k < 16
    · have h2 : 2 * k < (bts n).length := by rw [bts_len]; omega
      have h3 : 2 * k + 1 < (bts n).length := by rw [bts_len]; omega
      have z2 : 2 * k < (List.replicate 32 (0 : Int)).length := by simp; omega
      have z3 : 2 * k + 1 < (List.replicate 32 (0 : Int)).length := by simp; omega
      have hca := rowI_cell hp.ha (i := k) (by simpa using hlt)
      have e := pair_dg n k hlt
      obtain ⟨x0, x1⟩ := bts_bd n _ (getD_mem h2)
      obtain ⟨y0, y1⟩ := bts_bd n _ (getD_mem h3)
      have hcx := rowB_cell hp.hl (i := 2 * k) (by simp; omega)
      have hcy := rowB_cell hp.hl (i := 2 * k + 1) (by simp; omega)
      have hfz : wr.frozen? ⟨w.heap.size + 2, 2 * k, none⟩ = false := frozen_of_row wr _ _ _ _ hp.hl
      have hfy : wr.frozen? ⟨w.heap.size + 2, 2 * k + 1, none⟩ = false := frozen_of_row wr _ _ _ _ hp.hl
      have e2 := set_stepD (bts n) (List.replicate 32 (0 : Int)) (2 * k) h2 z2
      have e3 := set_stepD (bts n) (List.replicate 32 (0 : Int)) (2 * k + 1) h3 z3
      have hst := (hp.set (2 * k) ((bts n).getD (2 * k) 0)).set (2 * k + 1) ((bts n).getD (2 * k + 1) 0)
      rw [e2, e3, show 2 * k + 1 + 1 = 2 * (k + 1) by omega] at hst
      clear e2 e3
      rw [e] at hca
      generalize (bts n).getD (2 * k) 0 = x at *
      generalize (bts n).getD (2 * k + 1) 0 = y at *
      obtain ⟨v, hv⟩ : ∃ v, x + 256 * y = v := ⟨_, rfl⟩
      have hm1 : v % 256 = x := by omega
      have hm2 : v / 256 = y := by omega
      have v0 : 0 ≤ v := by omega
      have v1 : v < 65536 := by omega
      rw [hv] at hca
      clear hv
      have hy256 : y % 256 = y := by omega
      have hx256 : x % 256 = x := by omega
      have HS : Hid (GW w.heap.size w (dg n) ((bts n).take (2 * (k + 1)) ++ (List.replicate 32 (0 : Int)).drop (2 * (k + 1))) ((wr.setCell ⟨w.heap.size + 2, 2 * k, none⟩ (.int .u8 x)).setCell ⟨w.heap.size + 2, 2 * k + 1, none⟩ (.int .u8 y))) := hst
      clear hp hst e
      generalize List.getD _ (2 * k) 0 = z at hcx
      generalize List.getD _ (2 * k + 1) 0 = z' at hcy
      go_wp2
      go_roundw
      case rel => exact ⟨k + 1, by omega, by go_num, HS.out⟩
      case measure => simp [intOf]; omega
    · have hk' : k = 16 := by omega
      subst hk'
      rw [List.take_of_length_le (by simp), List.drop_of_length_le (by simp), List.append_nil] at hp
      have HP : Hid (GW w.heap.size w (dg n) (bts n) wr) := hp
      have HJ : Hid ((Try.prog.info? 40).map (·.size) = some (VI .u8 (bts n)).size) := by rw [VI_size, bts_len]; exact info40
      clear hp hlt hk
      go_wp2_with (with_reducible refine at_list ?_; first | (refine wpList_load_row rfl 40 (.tmp 3) rfl (w.heap.size + 1 + 1) rfl 40 (VI .u8 (bts n)) (0, 0) _ HP.out.hl Try.underlying40 rfl HJ.out ?_) | (refine wpList_store_row rfl 40 (.tmp 2) (.tmp 26) rfl (w.heap.size + 1) (VI .u8 (bts n)) rfl rfl 40 (VI .u8 (List.replicate 32 0)) HP.out.hr HJ.out (by simp) (VI_one _ _) ?_))
      refine bodyPost_ret (v := .agg (VI .u8 (bts n))) ?_ rfl ⟨rfl, below_setRow HP.out.old _ (by omega) _⟩
      exact results_cell_row (P := Try.prog) (fn := Try.f16) (p := 2) (ty := 40) rfl _ _ (w.heap.size + 1) 40 (VI .u8 (bts n)) (0, 0) _ rfl (setRow_heap wr _ _ _ 40 _ HP.out.hr) Try.underlying40 rfl HJ.out
end Go.Proofs.Yteimmjdiaophoaa
