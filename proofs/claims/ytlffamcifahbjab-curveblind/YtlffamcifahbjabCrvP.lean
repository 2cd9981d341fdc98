import Derived.Test.YtlffamcifahbjabCrvH
namespace Go.Proofs.Ytlffamcifahbjab
set_option linter.unusedSimpArgs false
set_option linter.unusedVariables false
open Go.ChangeShapes Go.WideShapes Go.ChangeAt Go.RowKit Go.Pin Go.Fld
theorem kk9 : Key32 (kk 9) := kk_key 9 (by decide) (by decide)
set_option maxRecDepth 100000 in
set_option maxHeartbeats 4000000 in
theorem public_any {B : Nat} {w : World} {rv : Value} {l : List (Int × Int)} {bx : List (Nat × Obj)} {wr : World} {k : List Int} (h : Ev B w rv l bx wr) (hl : l.length ≤ 700000) (hk : Key32 k) :
    Calls Try.prog 19 #[rv, .agg (VI .u8 k)] wr fun e w' => e = .returned (.agg (VI .u8 (bts (shn k (kk 9))))) ∧ Ev B w rv (l ++ shlog) bx w' := by
  have HK : Hid (Key32 k) := hk
  have h3 := (h.new (bxK k)).new (bxK (List.replicate 32 0))
  have f3 : ∀ p ∈ (((wr.heap.size, bxK k) :: bx) : List (Nat × Obj)), p.1 ≠ (wr.alloc (bxK k)).heap.size := fun p hp => Nat.ne_of_lt ((h.new (bxK k)).lt (g := p.1) (x := p.2) hp)
  simp only [size_alloc] at h3 f3
  obtain ⟨W3, hW⟩ : ∃ W, (wr.alloc (bxK k)).alloc (bxK (List.replicate 32 0)) = W := ⟨_, rfl⟩
  have hW' : (wr.alloc (.cells (VI .u8 k) 23)).alloc (.cells #[.int .u8 0, .int .u8 0, .int .u8 0, .int .u8 0, .int .u8 0, .int .u8 0, .int .u8 0, .int .u8 0, .int .u8 0, .int .u8 0, .int .u8 0, .int .u8 0, .int .u8 0, .int .u8 0, .int .u8 0, .int .u8 0, .int .u8 0, .int .u8 0, .int .u8 0, .int .u8 0, .int .u8 0, .int .u8 0, .int .u8 0, .int .u8 0, .int .u8 0, .int .u8 0, .int .u8 0, .int .u8 0, .int .u8 0, .int .u8 0, .int .u8 0, .int .u8 0] 23) = W3 := hW
  rw [hW] at h3
  obtain ⟨gk, hg⟩ : ∃ g, wr.heap.size = g := ⟨_, rfl⟩
  rw [hg] at h3 f3
  have X3 : Hid (Ev B w rv l ((gk + 1, bxK (List.replicate 32 0)) :: (gk, bxK k) :: bx) W3) := h3
  have F3 : Hid (∀ p ∈ (((gk, bxK k) :: bx) : List (Nat × Obj)), p.1 ≠ gk + 1) := f3
  have CS : Hid (Calls Try.prog 5 #[rv, .agg (VI .u8 k), .agg #[.int .u8 9, .int .u8 0, .int .u8 0, .int .u8 0, .int .u8 0, .int .u8 0, .int .u8 0, .int .u8 0, .int .u8 0, .int .u8 0, .int .u8 0, .int .u8 0, .int .u8 0, .int .u8 0, .int .u8 0, .int .u8 0, .int .u8 0, .int .u8 0, .int .u8 0, .int .u8 0, .int .u8 0, .int .u8 0, .int .u8 0, .int .u8 0, .int .u8 0, .int .u8 0, .int .u8 0, .int .u8 0, .int .u8 0, .int .u8 0, .int .u8 0, .int .u8 0]] W3 fun e w' => e = .returned (.agg (VI .u8 (bts (shn k (kk 9))))) ∧ Ev B w rv (l ++ shlog) ((gk + 1, bxK (List.replicate 32 0)) :: (gk, bxK k) :: bx) w') := shared_any h3 hl hk kk9
  clear h hl hk h3 f3 hW
  go_enter Try.func19, Try.ntmps19
  go_wp2_with (with_reducible refine at_list ?_; first | (refine wpList_load_row rfl 23 (.tmp 3) rfl gk rfl 23 (VI .u8 k) (0, 0) _ (X3.out.row (g := gk) (x := bxK k) (by simp)) Try.underlying23 rfl HK.out.info ?_))
  refine CS.out.mono ?_
  rintro e W4 ⟨rfl, hN⟩
  have X4 : Hid (Ev B w rv (l ++ shlog) ((gk + 1, bxK (List.replicate 32 0)) :: (gk, bxK k) :: bx) W4) := hN
  clear hN X3 hW' hg CS
  go_wp2_with (with_reducible refine at_list ?_; refine hold_store 23 (.tmp 4) (.tmp 8) rfl ?_)
  have ht := there_mid (X4.out.row (g := gk + 1) (x := bxK (List.replicate 32 0)) (by simp)) 0 32 (by decide)
  refine wpList_store_mid rfl 23 (.tmp 4) (.tmp 8) rfl (gk + 1) 0 (VI .u8 (bts (shn k (kk 9)))) rfl rfl (by rw [VI_size, bts_len]; exact ht) (infoK (bts_len _)) (VI_one _ _) ?_
  have hN := X4.out.set rfl F3.out (but_setCells (gk + 1) ((bts (shn k (kk 9))).map (Value.int .u8)) 0 W4) (whole_setK (X4.out.row (g := gk + 1) (x := bxK (List.replicate 32 0)) (by simp)) (by rw [bts_len]; rfl))
  obtain ⟨W5, hW⟩ : ∃ W, W4.setCells (gk + 1) 0 ((bts (shn k (kk 9))).map (Value.int .u8)) = W := ⟨_, rfl⟩
  rw [hW] at hN
  rw [show W4.setCells (gk + 1) 0 (VI .u8 (bts (shn k (kk 9)))).toList = W5 from hW]
  have X5 : Hid _ := hN
  clear hN hW ht X4
  go_wp2_with fail
  refine bodyPost_ret (v := .agg (VI .u8 (bts (shn k (kk 9))))) ?_ rfl ⟨rfl, X5.out.sub (fun p hp => by simp [hp])⟩
  exact results_cell_row (P := Try.prog) (fn := Try.f19) (p := 4) (ty := 23) rfl _ _ (gk + 1) 23 (VI .u8 (bts (shn k (kk 9)))) (0, 0) _ rfl (X5.out.row (g := gk + 1) (x := bxK (bts (shn k (kk 9)))) (by simp)) Try.underlying23 rfl (infoK (bts_len _))
theorem shared_nil {k u : List Int} (hk : Key32 k) (hu : Key32 u) (w : World) : Calls Try.prog 5 #[.pointer none, .agg (VI .u8 k), .agg (VI .u8 u)] w fun e w' => e = .returned (.agg (VI .u8 (bts (shn k u)))) ∧ Below w.heap.size w w' :=
  (shared_any (ev_nil' w) (by decide) hk hu).mono fun e w' h => ⟨h.1, h.2.old⟩
theorem public_nil {k : List Int} (hk : Key32 k) (w : World) : Calls Try.prog 19 #[.pointer none, .agg (VI .u8 k)] w fun e w' => e = .returned (.agg (VI .u8 (bts (shn k (kk 9))))) ∧ Below w.heap.size w w' :=
  (public_any (ev_nil' w) (by decide) hk).mono fun e w' h => ⟨h.1, h.2.old⟩
theorem key_bts (n : Nat) : Key32 (bts n) := ⟨bts_len n, bts_bd n⟩
theorem known_a : (bts (shn (kk 0) (kk 9))).getD 0 0 = 47 ∧ (bts (shn (kk 0) (kk 9))).getD 1 0 = 229 ∧ (bts (shn (kk 0) (kk 9))).getD 31 0 = 116 := by
  have h : shn (kk 0) (kk 9) = 52573937849532372069814888178136277301931757964231753054399601207743438775599 := by decide +kernel
  rw [h]; decide +kernel
theorem known_b : bts (shn (kk 5) (kk 1)) = kk 0 := by
  have h : shn (kk 5) (kk 1) = 0 := by decide +kernel
  rw [h]; decide +kernel
theorem known_c : clk (kk 7) = (kk 0).set 31 64 := by decide +kernel
end Go.Proofs.Ytlffamcifahbjab
