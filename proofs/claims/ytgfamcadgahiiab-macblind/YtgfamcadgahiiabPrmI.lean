import Derived.Test.YtgfamcadgahiiabPrmS
namespace Go.Proofs.Ytgfamcadgahiiab
set_option linter.unusedSimpArgs false
open Go.ChangeShapes Go.WideShapes Go.ChangeAt Go.RowKit Go.Pin Go.Prm
theorem pad17 {l : List Int} (hl : l.length = 16) (h : ∀ x ∈ l, 0 ≤ x ∧ x < 256) : Key17 (l ++ [0]) := ⟨by simp [hl], fun x hx => by
  rcases List.mem_append.1 hx with hx | hx
  · exact h x hx
  · rw [List.mem_singleton.1 hx]; decide⟩
/-- Clamp's boxes -/
structure IW (n : Nat) (w : World) (L : List Int) (wr : World) : Prop where
  old : Below n w wr
  sz : n + 2 ≤ wr.heap.size
  hk : rowB wr n L 26
  hr : rowAt wr (n + 1) (List.replicate 5 0) 69
theorem IW.set {n : Nat} {w wr : World} {L : List Int} (h : IW n w L wr) (i : Nat) (v : Int) : IW n w (L.set i v) (wr.setCell ⟨n, i, none⟩ (.int .u8 v)) :=
  ⟨h.old.setCell (Nat.le_refl _) _, by simpa using h.sz, rowB_set h.hk _ _, row_other h.hr (by simp) _⟩
theorem IW.below {n : Nat} {w wr w' : World} {L : List Int} (h : IW n w L wr) (hb : Below (n + 2) wr w') : IW n w L w' :=
  ⟨h.old.trans (hb.mono (by omega)), Nat.le_trans h.sz hb.size, (hb.block _ (by omega)).trans h.hk, (hb.block _ (by omega)).trans h.hr⟩
theorem iw_start (w : World) (k : List Int) : IW w.heap.size w k ((w.alloc (.cells (VI .u8 k) 26)).alloc (.cells (VI .u64 (List.replicate 5 0)) 69)) := by
  refine ⟨((Below.refl _ _).alloc (Nat.le_refl _) _).alloc (by simp) _, by simp [size_alloc], ?_, ?_⟩
  all_goals simp only [rowAt, rowB, heap_alloc_any, size_alloc]
  · rw [if_neg (by omega), if_pos trivial]
  · rw [if_pos trivial]
set_option maxRecDepth 100000 in
set_option maxHeartbeats 4000000 in
theorem clamp_any (key : List Int) (hk : Key16 key) (w : World) :
    Calls Try.prog 24 #[.agg (VI .u8 key)] w fun e w' => e = .returned (.agg (VI .u64 (blk (clp key ++ [0])))) ∧ Below w.heap.size w w' := by
  have hiw := iw_start w key
  obtain ⟨W, hW⟩ : ∃ W, (w.alloc (.cells (VI .u8 key) 26)).alloc (.cells (VI .u64 (List.replicate 5 0)) 69) = W := ⟨_, rfl⟩
  have hW' : (w.alloc (.cells (VI .u8 key) 26)).alloc (.cells #[.int .u64 0, .int .u64 0, .int .u64 0, .int .u64 0, .int .u64 0] 69) = W := hW
  rw [hW] at hiw
  have HI : Hid (IW w.heap.size w key W) := hiw
  have HK : Hid (Key16 key) := hk
  clear hiw hW hk
  go_enter Try.func24, Try.ntmps24
  go_wp2
  go_loopw [8] (fun i w' => ∃ k : Nat, k ≤ 4 ∧ i = .int .i64 k ∧ IW w.heap.size w (cl1 key k) w') (fun i _ => 4 - (intOf i).toNat)
  case atStart => exact ⟨0, Nat.zero_le _, rfl, HI.out⟩
  case round =>
    clear HI hW'
    obtain ⟨k, hk, rfl, hp⟩ := hrel
    obtain ⟨kl, kb⟩ := cl1_key HK.out.len HK.out.bd k
    by_cases hlt : k < 4
    · obtain ⟨j, hj⟩ : ∃ j : Nat, j = 4 * k + 3 := ⟨_, rfl⟩
      have hj' : 4 * (k : Int) + 3 = (j : Int) := by omega
      have hj16 : j < 16 := by omega
      have hc := rowB_cell hp.hk (i := j) (by rw [kl]; omega)
      have hfz : wr.frozen? ⟨w.heap.size, j, none⟩ = false := frozen_of_row wr _ _ _ _ hp.hk
      obtain ⟨x0, x1⟩ := byte_at kb j
      have hn := not240 _ x0 x1
      have HST : Hid (IW w.heap.size w (cl1 key (k + 1)) (wr.setCell ⟨w.heap.size, j, none⟩ (.int .u8 ((cl1 key k).getD j 0 % 16)))) := by
        have := hp.set j ((cl1 key k).getD j 0 % 16)
        rw [hj] at this ⊢
        exact this
      have HJ : Hid (j = 4 * k + 3) := hj
      clear hp kl kb hj
      generalize (cl1 key k).getD j 0 = x at *
      go_wp2
      go_roundw
      case rel => exact ⟨k + 1, by omega, by go_num, HST.out⟩
      case measure => simp [intOf]; omega
    · have hk' : k = 4 := by omega
      subst hk'
      have HP : Hid (IW w.heap.size w (cl1 key 4) wr) := hp
      have HKL : Hid ((cl1 key 4).length = 16) := kl
      have HKB : Hid (∀ x ∈ cl1 key 4, 0 ≤ x ∧ x < 256) := kb
      clear hp hlt hk kl kb
      rw [show ((4 : Nat) : Int) = 4 from rfl]
      go_wp2
      go_loopw [19] (fun i w' => ∃ k : Nat, k ≤ 3 ∧ i = .int .i64 k ∧ IW w.heap.size w (cl2 (cl1 key 4) k) w') (fun i _ => 3 - (intOf i).toNat)
      case atStart => exact ⟨0, Nat.zero_le _, rfl, HP.out⟩
      case round =>
        clear HP
        obtain ⟨k, hk, rfl, hp⟩ := hrel
        obtain ⟨kl, kb⟩ := cl2_key HKL.out HKB.out k
        by_cases hlt : k < 3
        · obtain ⟨j, hj⟩ : ∃ j : Nat, j = 4 * k + 4 := ⟨_, rfl⟩
          have hj' : 4 * (k : Int) + 4 = (j : Int) := by omega
          have hj16 : j < 16 := by omega
          have hc := rowB_cell hp.hk (i := j) (by rw [kl]; omega)
          have hfz : wr.frozen? ⟨w.heap.size, j, none⟩ = false := frozen_of_row wr _ _ _ _ hp.hk
          obtain ⟨x0, x1⟩ := byte_at kb j
          have hn := not3 _ x0 x1
          have HST : Hid (IW w.heap.size w (cl2 (cl1 key 4) (k + 1)) (wr.setCell ⟨w.heap.size, j, none⟩ (.int .u8 ((cl2 (cl1 key 4) k).getD j 0 - (cl2 (cl1 key 4) k).getD j 0 % 4)))) := by
            have := hp.set j ((cl2 (cl1 key 4) k).getD j 0 - (cl2 (cl1 key 4) k).getD j 0 % 4)
            rw [hj] at this ⊢
            exact this
          have HJ : Hid (j = 4 * k + 4) := hj
          clear hp kl kb hj
          generalize (cl2 (cl1 key 4) k).getD j 0 = x at *
          go_wp2
          go_roundw
          case rel => exact ⟨k + 1, by omega, by go_num, HST.out⟩
          case measure => simp [intOf]; omega
        · have hk' : k = 3 := by omega
          subst hk'
          rw [show cl2 (cl1 key 4) 3 = clp key from rfl] at hp kl kb
          have HP : Hid (IW w.heap.size w (clp key) wr) := hp
          have HIC : Hid ((Try.prog.info? 26).map (·.size) = some (VI .u8 (clp key)).size) := by rw [VI_size, kl]; exact info16
          have hx := fun (i : Nat) (h : i < 16) (w : World) => run_index_row (P := Try.prog) w 26 5 .u8 .i64 16 (clp key) i kl h Try.underlying26 Try.underlying5 size5
          have HC : Hid (Key16 (clp key)) := ⟨kl, kb⟩
          have HBL : Hid (∀ W, Calls Try.prog 32 #[.agg (VI .u8 (clp key ++ [0]))] W fun e w' => e = .returned (.agg (VI .u64 (blk (clp key ++ [0])))) ∧ Below W.heap.size W w') := fun W => block_any _ (pad17 kl kb) W
          have hbl := (blk_lim (pad17 kl kb).bd).len
          obtain ⟨x0, x1, x2, x3, x4, hxe⟩ := five hbl
          have hv : VI .u64 (blk (clp key ++ [0])) = #[.int .u64 x0, .int .u64 x1, .int .u64 x2, .int .u64 x3, .int .u64 x4] := by rw [hxe]; rfl
          obtain ⟨G, hG⟩ : ∃ G, wr.heap.size = G := ⟨_, rfl⟩
          have hG2 : w.heap.size + 2 ≤ G := by rw [← hG]; exact hp.sz
          have h2 : IW w.heap.size w (clp key) (wr.alloc (.cells (VI .u8 (List.replicate 17 0)) 71)) ∧ rowB (wr.alloc (.cells (VI .u8 (List.replicate 17 0)) 71)) G (List.replicate 17 0) 71 := by
            refine ⟨hp.below ((Below.refl _ _).alloc hp.sz _), ?_⟩
            simp only [rowB, heap_alloc_any, hG, if_true]
          obtain ⟨W2, hW2⟩ : ∃ W2, wr.alloc (.cells (VI .u8 (List.replicate 17 0)) 71) = W2 := ⟨_, rfl⟩
          have hW2' : wr.alloc (.cells #[.int .u8 0, .int .u8 0, .int .u8 0, .int .u8 0, .int .u8 0, .int .u8 0, .int .u8 0, .int .u8 0, .int .u8 0, .int .u8 0, .int .u8 0, .int .u8 0, .int .u8 0, .int .u8 0, .int .u8 0, .int .u8 0, .int .u8 0] 71) = W2 := hW2
          rw [hW2] at h2
          have H2 : Hid (IW w.heap.size w (clp key) W2 ∧ rowB W2 G (List.replicate 17 0) 71) := h2
          clear hp hlt hk kl kb hbl hxe h2 HP hW2
          rw [show ((3 : Nat) : Int) = 3 from rfl]
          go_wp2_with (first | go_in | (with_reducible refine at_list ?_; rw [hW2']; refine wpList_load_row rfl 26 (.tmp 1) rfl w.heap.size rfl 26 (VI .u8 (clp key)) (0, 0) _ H2.out.1.hk Try.underlying26 rfl HIC.out ?_) | (with_reducible refine at_list ?_; refine wpList_load_row rfl 26 (.tmp 1) rfl w.heap.size rfl 26 (VI .u8 (clp key)) (0, 0) _ H2.out.1.hk Try.underlying26 rfl HIC.out ?_))
          go_loopw [31] (fun i w' => ∃ k : Nat, k ≤ 16 ∧ i = .int .i64 k ∧ IW w.heap.size w (clp key) w' ∧ rowB w' G ((clp key ++ [0]).take k ++ (List.replicate 17 (0 : Int)).drop k) 71) (fun i _ => 16 - (intOf i).toNat)
          case atStart => exact ⟨0, Nat.zero_le _, rfl, H2.out⟩
          case round =>
            clear H2 hW2' hG
            obtain ⟨k, hk, rfl, hp, hpB⟩ := hrel
            by_cases hlt : k < 16
            · have hxk := hx k hlt
              have hkc : k < (clp key ++ [0]).length := by simp [HC.out.len]; omega
              have hcb := rowB_cell hpB (i := k) (by simp [HC.out.len]; omega)
              have hfz : wr.frozen? ⟨G, k, none⟩ = false := frozen_of_row wr _ _ _ _ hpB
              have hst := rowB_set hpB k ((clp key ++ [0])[k]'hkc)
              have hge : (clp key ++ [0])[k]'hkc = (clp key).getD k 0 := by
                rw [List.getElem_append_left (by rw [HC.out.len]; exact hlt), List.getD_eq_getElem?_getD, List.getElem?_eq_getElem (by rw [HC.out.len]; exact hlt)]; rfl
              rw [set_step _ _ _ hkc (by simp; omega), hge] at hst
              have HST : Hid (rowB (wr.setCell ⟨G, k, none⟩ (.int .u8 ((clp key).getD k 0))) G ((clp key ++ [0]).take (k + 1) ++ (List.replicate 17 (0 : Int)).drop (k + 1)) 71) := hst
              have HSE : Hid (∀ v, IW w.heap.size w (clp key) (wr.setCell ⟨G, k, none⟩ v)) := fun v => hp.below ((Below.refl _ _).setCell hG2 _)
              clear hp hpB hst hge hkc hx
              generalize (clp key).getD k 0 = y at *
              generalize List.getD _ k 0 = z at hcb
              go_wp2
              go_roundw
              case rel => exact ⟨k + 1, by omega, by go_num, HSE.out _, HST.out⟩
              case measure => simp [intOf]; omega
            · have hk' : k = 16 := by omega
              subst hk'
              have e : (clp key ++ [0]).take 16 ++ (List.replicate 17 (0 : Int)).drop 16 = clp key ++ [0] := by
                rw [List.take_append_of_le_length (by rw [HC.out.len]; omega), List.take_of_length_le (by rw [HC.out.len]; omega)]; rfl
              rw [e] at hpB
              have HPB : Hid (rowB wr G (clp key ++ [0]) 71) := hpB
              have HJ : Hid ((Try.prog.info? 71).map (·.size) = some (VI .u8 (clp key ++ [0])).size) := (pad17 HC.out.len HC.out.bd).info
              have HP : Hid (IW w.heap.size w (clp key) wr) := hp
              clear hp hpB hlt hk e hx
              rw [show ((16 : Nat) : Int) = 16 from rfl]
              go_wp2_with (first | (go_at_call 32; refine (HBL.out wr).mono ?_; rintro e w2 ⟨rfl, hb2⟩; have hp2 := HP.out.below (hb2.mono HP.out.sz); rw [hv]; obtain ⟨_, _, _, _, _, _, hy0, hy1, hy2, hy3, hy4, hz0, hz1, hz2, hz3, hz4⟩ := row5 hp2.hr (by simp); have HP2 : Hid (IW w.heap.size w (clp key) w2) := hp2; clear hp2 hb2) | (with_reducible refine at_list ?_; refine wpList_load_row rfl 71 (.tmp 5) rfl G rfl 71 (VI .u8 (clp key ++ [0])) (0, 0) _ HPB.out Try.underlying71 rfl HJ.out ?_))
              refine bodyPost_ret (v := .agg (VI .u64 [x0, x1, x2, x3, x4])) ?_ rfl ⟨by rw [hv]; rfl, ((((HP2.out.old.setCell (by simp) _).setCell (by simp) _).setCell (by simp) _).setCell (by simp) _).setCell (by simp) _⟩
              exact results_cell_row (P := Try.prog) (fn := Try.f24) (p := 2) (ty := 69) rfl _ _ (w.heap.size + 1) 69 (VI .u64 [x0, x1, x2, x3, x4]) (0, 0) _ rfl (store5 HP2.out.hr x0 x1 x2 x3 x4) Try.underlying69 rfl infoE
end Go.Proofs.Ytgfamcadgahiiab
