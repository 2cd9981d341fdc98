import Derived.Test.YtlffamcifahbjabCrvL
import Derived.Test.YtlffamcifahbjabCrvN
import Derived.Test.YtlffamcifahbjabFldH
namespace Go.Proofs.Ytlffamcifahbjab
set_option linter.unusedSimpArgs false
set_option linter.unusedVariables false
open Go.ChangeShapes Go.WideShapes Go.ChangeAt Go.RowKit Go.Pin Go.Fld
set_option maxRecDepth 100000 in
set_option maxHeartbeats 8000000 in
theorem low_walk {k : List Int} (hk : Key32 k) (w : World) :
    Calls Try.prog 3 #[.agg (VI .u8 k)] w fun e w' => e = .returned (.bool true) ∧ Below w.heap.size w w' := by
  have LK : Hid (k.length = 32) := hk.len
  have LP : Hid (pm1.length = 32) := pm1_key.len
  have S1 : Hid (∀ w, Calls Try.prog 5 #[.pointer none, .agg (VI .u8 k), .agg #[.int .u8 0, .int .u8 0, .int .u8 0, .int .u8 0, .int .u8 0, .int .u8 0, .int .u8 0, .int .u8 0, .int .u8 0, .int .u8 0, .int .u8 0, .int .u8 0, .int .u8 0, .int .u8 0, .int .u8 0, .int .u8 0, .int .u8 0, .int .u8 0, .int .u8 0, .int .u8 0, .int .u8 0, .int .u8 0, .int .u8 0, .int .u8 0, .int .u8 0, .int .u8 0, .int .u8 0, .int .u8 0, .int .u8 0, .int .u8 0, .int .u8 0, .int .u8 0]] w fun e w' => e = .returned (.agg (VI .u8 (kk 0))) ∧ Below w.heap.size w w') := fun w => (shared_nil hk (kk_key 0 (by decide) (by decide)) w).mono fun e w' hh => ⟨by rw [hh.1, low_zero k _ kk0_ux, bts0], hh.2⟩
  have S2 : Hid (∀ w, Calls Try.prog 5 #[.pointer none, .agg (VI .u8 k), .agg #[.int .u8 1, .int .u8 0, .int .u8 0, .int .u8 0, .int .u8 0, .int .u8 0, .int .u8 0, .int .u8 0, .int .u8 0, .int .u8 0, .int .u8 0, .int .u8 0, .int .u8 0, .int .u8 0, .int .u8 0, .int .u8 0, .int .u8 0, .int .u8 0, .int .u8 0, .int .u8 0, .int .u8 0, .int .u8 0, .int .u8 0, .int .u8 0, .int .u8 0, .int .u8 0, .int .u8 0, .int .u8 0, .int .u8 0, .int .u8 0, .int .u8 0, .int .u8 0]] w fun e w' => e = .returned (.agg (VI .u8 (kk 0))) ∧ Below w.heap.size w w') := fun w => (shared_nil hk (kk_key 1 (by decide) (by decide)) w).mono fun e w' hh => ⟨by rw [hh.1, low_one k _ hk kk1_ux, bts0], hh.2⟩
  have S3 : Hid (∀ w, Calls Try.prog 5 #[.pointer none, .agg (VI .u8 k), .agg (VI .u8 pm1)] w fun e w' => e = .returned (.agg (VI .u8 (kk 0))) ∧ Below w.heap.size w w') := fun w => (shared_nil hk pm1_key w).mono fun e w' hh => ⟨by rw [hh.1, low_last k _ hk pm1_ux, bts0], hh.2⟩
  have HK : Hid (∀ w, Calls Try.prog 6 #[] w fun e w' => e = .returned (.bool true) ∧ Below w.heap.size w w') := known_any
  have EQ0 : ∀ w, (Op.equalIn 10000 23 (.agg (VI .u8 (kk 0))) (.agg #[.int .u8 0, .int .u8 0, .int .u8 0, .int .u8 0, .int .u8 0, .int .u8 0, .int .u8 0, .int .u8 0, .int .u8 0, .int .u8 0, .int .u8 0, .int .u8 0, .int .u8 0, .int .u8 0, .int .u8 0, .int .u8 0, .int .u8 0, .int .u8 0, .int .u8 0, .int .u8 0, .int .u8 0, .int .u8 0, .int .u8 0, .int .u8 0, .int .u8 0, .int .u8 0, .int .u8 0, .int .u8 0, .int .u8 0, .int .u8 0, .int .u8 0, .int .u8 0])).run Try.prog w = .ok true w := fun w => eqK (x := kk 0) rfl w
  have P0 : Hid (pm1 = ((List.replicate 32 (255 : Int)).set 0 236).set 31 127) := rfl
  have hE := (ev_nil' w).new (bxK k)
  obtain ⟨Y0', hW⟩ : ∃ W, w.alloc (.cells (VI .u8 k) 23) = W := ⟨_, rfl⟩
  rw [show w.alloc (bxK k) = Y0' from hW] at hE
  have X0 : Hid (Ev w.heap.size w (.pointer none) [] [(w.heap.size, bxK k)] Y0') := hE
  clear hE hk
  generalize pm1 = pp at *
  go_enter Try.func3, Try.ntmps3
  go_wp2_with fail
  clear hW
  have hN := X0.out.new (bxK (List.replicate 32 0))
  have hF := X0.out.fresh
  obtain ⟨Y1, hW⟩ : ∃ W, Y0'.alloc (bxK (List.replicate 32 0)) = W := ⟨_, rfl⟩
  rw [hW] at hN
  rw [show Y0'.alloc (.cells #[.int .u8 0, .int .u8 0, .int .u8 0, .int .u8 0, .int .u8 0, .int .u8 0, .int .u8 0, .int .u8 0, .int .u8 0, .int .u8 0, .int .u8 0, .int .u8 0, .int .u8 0, .int .u8 0, .int .u8 0, .int .u8 0, .int .u8 0, .int .u8 0, .int .u8 0, .int .u8 0, .int .u8 0, .int .u8 0, .int .u8 0, .int .u8 0, .int .u8 0, .int .u8 0, .int .u8 0, .int .u8 0, .int .u8 0, .int .u8 0, .int .u8 0, .int .u8 0] 23) = Y1 from hW]
  obtain ⟨gp, hg⟩ : ∃ g, Y0'.heap.size = g := ⟨_, rfl⟩
  rw [hg] at hN hF
  try simp only [hg]
  clear hg hW
  have X1 : Hid (Ev w.heap.size w (.pointer none) ([]) [(gp, bxK (List.replicate 32 0)), (w.heap.size, bxK (k))] Y1) := hN
  have N_gp : Hid (∀ p ∈ ([(w.heap.size, bxK (k))] : List (Nat × Obj)), p.1 ≠ gp) := hF
  clear hN hF X0
  have SETK : Hid (∀ (l : List Int) W i v, Ev w.heap.size w (.pointer none) ([]) [(gp, bxK (l)), (w.heap.size, bxK (k))] W → Ev w.heap.size w (.pointer none) ([]) [(gp, bxK (l.set i v)), (w.heap.size, bxK (k))] (W.setCell ⟨gp, i, none⟩ (.int .u8 v))) := fun l W i v h => h.setK N_gp.out i v
  have LG : Hid (Ev w.heap.size w (.pointer none) ([]) [(gp, bxK ((List.replicate 32 (255 : Int)).take 0 ++ (List.replicate 32 (0 : Int)).drop 0)), (w.heap.size, bxK (k))] Y1) := X1.out
  go_loopw [4] (fun i w' => ∃ n : Nat, n ≤ 32 ∧ i = .int .i64 n ∧ Ev w.heap.size w (.pointer none) ([]) [(gp, bxK ((List.replicate 32 (255 : Int)).take n ++ (List.replicate 32 (0 : Int)).drop n)), (w.heap.size, bxK (k))] w') (fun i _ => 32 - (intOf i).toNat)
  case atStart => exact ⟨0, Nat.zero_le _, rfl, LG.out⟩
  case round =>
    clear LG X1
    obtain ⟨n, hn, rfl, hp⟩ := hrel
    by_cases hlt : n < 32
    · have es := set_stepK (List.replicate 32 (255 : Int)) (List.replicate 32 (0 : Int)) n (by simpa using hlt) (by simpa using hlt)
      have e255 : (List.replicate 32 (255 : Int)).getD n 0 = 255 := by rw [List.getD_eq_getElem?_getD, List.getElem?_replicate, if_pos hlt]; rfl
      rw [e255] at es
      have hst := SETK.out _ _ n 255 hp
      rw [es] at hst
      have hcl := hp.cellK (g := gp) (L := (List.replicate 32 (255 : Int)).take n ++ (List.replicate 32 (0 : Int)).drop n) (i := n) (by simp only [List.mem_cons, true_or]) (by rw [List.length_append, List.length_take, List.length_drop, List.length_replicate, List.length_replicate]; omega)
      have hfz := hp.frozK (g := gp) (L := (List.replicate 32 (255 : Int)).take n ++ (List.replicate 32 (0 : Int)).drop n) (by simp only [List.mem_cons, true_or]) n
      obtain ⟨Wn, hWn⟩ : ∃ W, wr.setCell ⟨gp, n, none⟩ (.int .u8 255) = W := ⟨_, rfl⟩
      rw [hWn] at hst
      have HST : Hid (Ev w.heap.size w (.pointer none) ([]) [(gp, bxK ((List.replicate 32 (255 : Int)).take (n + 1) ++ (List.replicate 32 (0 : Int)).drop (n + 1))), (w.heap.size, bxK (k))] Wn) := hst
      clear hst hp es e255
      generalize List.getD _ n 0 = z at hcl
      go_wp2
      go_roundw
      case rel => exact ⟨n + 1, by omega, by go_num, HST.out⟩
      case measure => simp [intOf]; omega
    · have hn' : n = 32 := by omega
      subst hn'
      rw [List.take_of_length_le (by simp), List.drop_of_length_le (by simp), List.append_nil] at hp
      have hc0 := hp.cellK (g := gp) (L := List.replicate 32 255) (i := 0) (by simp) (by simp)
      have hf0 := hp.frozK (g := gp) (L := List.replicate 32 255) (by simp) 0
      have hst := SETK.out _ _ 0 236 hp
      obtain ⟨Wa, hWa⟩ : ∃ W, wr.setCell ⟨gp, 0, none⟩ (.int .u8 236) = W := ⟨_, rfl⟩
      rw [hWa] at hst
      have hc31 := hst.cellK (g := gp) (L := (List.replicate 32 255).set 0 236) (i := 31) (by simp) (by simp)
      have hf31 := hst.frozK (g := gp) (L := (List.replicate 32 255).set 0 236) (by simp) 31
      have hst2 := SETK.out _ _ 31 127 hst
      obtain ⟨Wb, hWb⟩ : ∃ W, Wa.setCell ⟨gp, 31, none⟩ (.int .u8 127) = W := ⟨_, rfl⟩
      rw [hWb, ← P0.out] at hst2
      have XB : Hid (Ev w.heap.size w (.pointer none) ([]) [(gp, bxK (pp)), (w.heap.size, bxK (k))] Wb) := hst2
      clear hst hst2 hp hlt hn
      generalize List.getD _ 0 0 = z0'' at hc0
      generalize List.getD _ 31 0 = z1'' at hc31
      go_wp2_with (with_reducible refine at_list ?_; first | (refine wpList_load_row rfl 23 (.tmp 1) rfl (w.heap.size) rfl 23 (VI .u8 (k)) (0, 0) _ (XB.out.row (g := w.heap.size) (x := bxK (k)) (by simp)) Try.underlying23 rfl (infoK LK.out) ?_))
      refine (S1.out _).mono ?_
      rintro e Y2 ⟨rfl, hb⟩
      have X2 : Hid (Ev w.heap.size w (.pointer none) ([]) [(gp, bxK (pp)), (w.heap.size, bxK (k))] Y2) := XB.out.below hb
      clear hb XB hc0 hf0 hc31 hf31 hWa hWb
      go_wp2_with (with_reducible refine at_list ?_; first | (refine wpList_load_row_g (by kernel_rfl) 23 (.tmp 1) rfl (w.heap.size) rfl 23 (VI .u8 (k)) (0, 0) _ (X2.out.row (g := w.heap.size) (x := bxK (k)) (by simp)) Try.underlying23 rfl (infoK LK.out) ?_))
      refine (S2.out _).mono ?_
      rintro e Y3 ⟨rfl, hb⟩
      have X3 : Hid (Ev w.heap.size w (.pointer none) ([]) [(gp, bxK (pp)), (w.heap.size, bxK (k))] Y3) := X2.out.below hb
      clear hb X2 
      go_wp2_with (with_reducible refine at_list ?_; first | (refine wpList_load_row_g (by kernel_rfl) 23 (.tmp 1) rfl (w.heap.size) rfl 23 (VI .u8 (k)) (0, 0) _ (X3.out.row (g := w.heap.size) (x := bxK (k)) (by simp)) Try.underlying23 rfl (infoK LK.out) ?_) | (refine wpList_load_row_g (by kernel_rfl) 23 (.tmp 3) rfl (gp) rfl 23 (VI .u8 (pp)) (0, 0) _ (X3.out.row (g := gp) (x := bxK (pp)) (by simp)) Try.underlying23 rfl (infoK LP.out) ?_))
      refine (S3.out _).mono ?_
      rintro e Y4 ⟨rfl, hb⟩
      have X4 : Hid (Ev w.heap.size w (.pointer none) ([]) [(gp, bxK (pp)), (w.heap.size, bxK (k))] Y4) := X3.out.below hb
      clear hb X3 
      go_wp2_with fail
      refine (HK.out _).mono ?_
      rintro e Y5 ⟨rfl, hb⟩
      have X5 : Hid (Ev w.heap.size w (.pointer none) ([]) [(gp, bxK (pp)), (w.heap.size, bxK (k))] Y5) := X4.out.below hb
      clear hb X4 
      go_wp2
      go_ret
      exact ⟨rfl, X5.out.old⟩
end Go.Proofs.Ytlffamcifahbjab
