import Derived.Test.YtfeoamkngnpcmaaPrmF
namespace Go.Proofs.Ytfeoamkngnpcmaa
set_option linter.unusedSimpArgs false
open Go.ChangeShapes Go.WideShapes Go.ChangeAt Go.RowKit Go.Pin Go.Prm
theorem rw17_key {f a l : Int} (f0 : 0 ≤ f) (f1 : f < 256) (a0 : 0 ≤ a) (a1 : a < 256) (l0 : 0 ≤ l) (l1 : l < 256) : Key17 (rw17 f a l) := ⟨rfl, by
  simp only [rw17, List.mem_cons, List.not_mem_nil, or_false, forall_eq_or_imp, forall_eq]
  omega⟩
/-- row's boxes -/
structure GW (n : Nat) (w : World) (L : List Int) (wr : World) : Prop where
  old : Below n w wr
  hr : rowB wr n (List.replicate 17 0) 39
  hl : rowB wr (n + 1) L 39
theorem GW.set {n : Nat} {w wr : World} {L : List Int} (h : GW n w L wr) (i : Nat) (v : Int) : GW n w (L.set i v) (wr.setCell ⟨n + 1, i, none⟩ (.int .u8 v)) :=
  ⟨h.old.setCell (by simp) _, row_other h.hr (by simp) _, rowB_set h.hl _ _⟩
theorem gw_start (w : World) : GW w.heap.size w (List.replicate 17 0) ((w.alloc (.cells (VI .u8 (List.replicate 17 0)) 39)).alloc (.cells (VI .u8 (List.replicate 17 0)) 39)) := by
  refine ⟨((Below.refl _ _).alloc (Nat.le_refl _) _).alloc (by simp) _, ?_, ?_⟩
  all_goals simp only [rowB, heap_alloc_any, size_alloc]
  · rw [if_neg (by omega), if_pos trivial]
  · rw [if_pos trivial]
set_option maxRecDepth 100000 in
set_option maxHeartbeats 4000000 in
theorem row_any (f a l : Int) (w : World) :
    Calls Try.prog 17 #[.int .u8 f, .int .u8 a, .int .u8 l] w fun e w' => e = .returned (.agg (VI .u8 (rw17 f a l))) ∧ Below w.heap.size w w' := by
  have hgw := gw_start w
  obtain ⟨W, hW⟩ : ∃ W, (w.alloc (.cells (VI .u8 (List.replicate 17 0)) 39)).alloc (.cells (VI .u8 (List.replicate 17 0)) 39) = W := ⟨_, rfl⟩
  have hW' : (w.alloc (.cells #[.int .u8 0, .int .u8 0, .int .u8 0, .int .u8 0, .int .u8 0, .int .u8 0, .int .u8 0, .int .u8 0, .int .u8 0, .int .u8 0, .int .u8 0, .int .u8 0, .int .u8 0, .int .u8 0, .int .u8 0, .int .u8 0, .int .u8 0] 39)).alloc (.cells #[.int .u8 0, .int .u8 0, .int .u8 0, .int .u8 0, .int .u8 0, .int .u8 0, .int .u8 0, .int .u8 0, .int .u8 0, .int .u8 0, .int .u8 0, .int .u8 0, .int .u8 0, .int .u8 0, .int .u8 0, .int .u8 0, .int .u8 0] 39) = W := hW
  rw [hW] at hgw
  have HG : Hid (GW w.heap.size w (List.replicate 17 0) W) := hgw
  clear hgw hW
  go_enter Try.func17, Try.ntmps17
  go_wp2
  go_loopw [8] (fun i w' => ∃ k : Nat, k ≤ 17 ∧ i = .int .i64 k ∧ GW w.heap.size w ((List.replicate 17 a).take k ++ (List.replicate 17 (0 : Int)).drop k) w') (fun i _ => 17 - (intOf i).toNat)
  case atStart => exact ⟨0, Nat.zero_le _, rfl, HG.out⟩
  case round =>
    clear HG hW'
    obtain ⟨k, hk, rfl, hp⟩ := hrel
    by_cases hlt : k < 17
    · have hc := rowB_cell hp.hl (i := k) (by simp; omega)
      have hfz : wr.frozen? ⟨w.heap.size + 1, k, none⟩ = false := frozen_of_row wr _ _ _ _ hp.hl
      have hst := hp.set k ((List.replicate 17 a)[k]'(by simpa using hlt))
      rw [set_step _ _ _ (by simpa using hlt) (by simpa using hlt), List.getElem_replicate] at hst
      have HST : Hid (GW w.heap.size w ((List.replicate 17 a).take (k + 1) ++ (List.replicate 17 (0 : Int)).drop (k + 1)) (wr.setCell ⟨w.heap.size + 1, k, none⟩ (.int .u8 a))) := hst
      clear hp hst
      generalize List.getD _ k 0 = z at hc
      go_wp2
      go_roundw
      case rel => exact ⟨k + 1, by omega, by go_num, HST.out⟩
      case measure => simp [intOf]; omega
    · have hk' : k = 17 := by omega
      subst hk'
      rw [List.take_of_length_le (by simp), List.drop_of_length_le (by simp), List.append_nil] at hp
      have h2 := (hp.set 0 f).set 16 l
      rw [rw17_eq] at h2
      have HP : Hid (GW w.heap.size w (rw17 f a l) ((wr.setCell ⟨w.heap.size + 1, 0, none⟩ (.int .u8 f)).setCell ⟨w.heap.size + 1, 16, none⟩ (.int .u8 l))) := h2
      have hc0 := rowB_cell hp.hl (i := 0) (by simp)
      have hc1 := rowB_cell hp.hl (i := 16) (by simp)
      have hf0 : wr.frozen? ⟨w.heap.size + 1, 0, none⟩ = false := frozen_of_row wr _ _ _ _ hp.hl
      have hf1 : wr.frozen? ⟨w.heap.size + 1, 16, none⟩ = false := frozen_of_row wr _ _ _ _ hp.hl
      have HI : Hid ((Try.prog.info? 39).map (·.size) = some (VI .u8 (rw17 f a l)).size) := info17
      clear hp h2 hlt hk
      rw [show ((17 : Nat) : Int) = 17 from rfl]
      go_wp2_with (with_reducible refine at_list ?_; first | (refine wpList_load_row rfl 39 (.tmp 7) rfl (w.heap.size + 1) rfl 39 (VI .u8 (rw17 f a l)) (0, 0) _ HP.out.hl Try.underlying39 rfl HI.out ?_) | (refine wpList_store_row rfl 39 (.tmp 6) (.tmp 20) rfl w.heap.size (VI .u8 (rw17 f a l)) rfl rfl 39 (VI .u8 (List.replicate 17 0)) HP.out.hr HI.out (by simp [rw17]) (VI_one _ _) ?_))
      refine bodyPost_ret (v := .agg (VI .u8 (rw17 f a l))) ?_ rfl ⟨rfl, below_setRow HP.out.old _ (Nat.le_refl _) _⟩
      exact results_cell_row (P := Try.prog) (fn := Try.f17) (p := 6) (ty := 39) rfl _ _ w.heap.size 39 (VI .u8 (rw17 f a l)) (0, 0) _ rfl (setRow_heap _ _ _ _ 39 _ HP.out.hr) Try.underlying39 rfl HI.out
end Go.Proofs.Ytfeoamkngnpcmaa
