import Derived.Test.YtfeoamkngnpcmabPrmH
namespace Go.Proofs.Ytfeoamkngnpcmab
set_option linter.unusedSimpArgs false
open Go.ChangeShapes Go.WideShapes Go.ChangeAt Go.RowKit Go.Pin Go.Prm
theorem sixteen {l : List Int} (h : l.length = 16) : ∃ k0 k1 k2 k3 k4 k5 k6 k7 k8 k9 k10 k11 k12 k13 k14 k15, l = [k0, k1, k2, k3, k4, k5, k6, k7, k8, k9, k10, k11, k12, k13, k14, k15] := by
  match l, h with
  | [k0, k1, k2, k3, k4, k5, k6, k7, k8, k9, k10, k11, k12, k13, k14, k15], _ => exact ⟨k0, k1, k2, k3, k4, k5, k6, k7, k8, k9, k10, k11, k12, k13, k14, k15, rfl⟩
theorem and255 (x : Int) (h0 : 0 ≤ x) (h1 : x < 256) : bits .and .u8 x 255 = x := by
  have h : ∀ n : Fin 256, bits .and .u8 (n.val : Int) 255 = (n.val : Int) := by decide +kernel
  have := h ⟨x.toNat, by omega⟩
  rw [show ((x.toNat : Nat) : Int) = x by omega] at this
  exact this
theorem and15 (x : Int) (h0 : 0 ≤ x) (h1 : x < 256) : bits .and .u8 x 15 = x % 16 := by
  have h : ∀ n : Fin 256, bits .and .u8 (n.val : Int) 15 = (n.val : Int) % 16 := by decide +kernel
  have := h ⟨x.toNat, by omega⟩
  rw [show ((x.toNat : Nat) : Int) = x by omega] at this
  exact this
theorem and252 (x : Int) (h0 : 0 ≤ x) (h1 : x < 256) : bits .and .u8 x 252 = x - x % 4 := by
  have h : ∀ n : Fin 256, bits .and .u8 (n.val : Int) 252 = (n.val : Int) - (n.val : Int) % 4 := by decide +kernel
  have := h ⟨x.toNat, by omega⟩
  rw [show ((x.toNat : Nat) : Int) = x by omega] at this
  exact this
theorem clp_eq (k0 k1 k2 k3 k4 k5 k6 k7 k8 k9 k10 k11 k12 k13 k14 k15 : Int) : clp [k0, k1, k2, k3, k4, k5, k6, k7, k8, k9, k10, k11, k12, k13, k14, k15] ++ [0] = [k0, k1, k2, k3 % 16, k4 - k4 % 4, k5, k6, k7 % 16, k8 - k8 % 4, k9, k10, k11 % 16, k12 - k12 % 4, k13, k14, k15 % 16, 0] := rfl
def kp (i : Nat) : Int := if i % 4 = 3 then 15 else if i = 4 ∨ i = 8 ∨ i = 12 then 252 else 255
theorem clp_and {k : List Int} (hk : Key16 k) (i : Nat) (hi : i < 16) : bits .and .u8 (k.getD i 0) (kp i) = (clp k ++ [0]).getD i 0 := by
  obtain ⟨k0, k1, k2, k3, k4, k5, k6, k7, k8, k9, k10, k11, k12, k13, k14, k15, rfl⟩ := sixteen hk.len
  have hb := hk.bd
  simp only [List.mem_cons, List.not_mem_nil, or_false, forall_eq_or_imp, forall_eq] at hb
  obtain ⟨⟨a0, b0⟩, ⟨a1, b1⟩, ⟨a2, b2⟩, ⟨a3, b3⟩, ⟨a4, b4⟩, ⟨a5, b5⟩, ⟨a6, b6⟩, ⟨a7, b7⟩, ⟨a8, b8⟩, ⟨a9, b9⟩, ⟨a10, b10⟩, ⟨a11, b11⟩, ⟨a12, b12⟩, ⟨a13, b13⟩, ⟨a14, b14⟩, ⟨a15, b15⟩⟩ := hb
  rw [clp_eq]
  have h : i = 0 ∨ i = 1 ∨ i = 2 ∨ i = 3 ∨ i = 4 ∨ i = 5 ∨ i = 6 ∨ i = 7 ∨ i = 8 ∨ i = 9 ∨ i = 10 ∨ i = 11 ∨ i = 12 ∨ i = 13 ∨ i = 14 ∨ i = 15 := by omega
  rcases h with rfl | rfl | rfl | rfl | rfl | rfl | rfl | rfl | rfl | rfl | rfl | rfl | rfl | rfl | rfl | rfl
  · exact and255 _ a0 b0
  · exact and255 _ a1 b1
  · exact and255 _ a2 b2
  · exact and15 _ a3 b3
  · exact and252 _ a4 b4
  · exact and255 _ a5 b5
  · exact and255 _ a6 b6
  · exact and15 _ a7 b7
  · exact and252 _ a8 b8
  · exact and255 _ a9 b9
  · exact and255 _ a10 b10
  · exact and15 _ a11 b11
  · exact and252 _ a12 b12
  · exact and255 _ a13 b13
  · exact and255 _ a14 b14
  · exact and15 _ a15 b15
set_option maxRecDepth 100000 in
set_option maxHeartbeats 8000000 in
theorem clamps_walk (k : List Int) (hk : Key16 k) (w : World) :
    Calls Try.prog 4 #[.agg (VI .u8 k)] w fun e w' => e = .returned (.bool true) ∧ Below w.heap.size w w' := by
  have hp := pad17 (clp_key hk.len hk.bd).1 (clp_key hk.len hk.bd).2
  obtain ⟨x0, x1, x2, x3, x4, lx, nx, CX⟩ := clamp_f hk
  have hsm := nb_small (clp_key hk.len hk.bd).2 (clp_key hk.len hk.bd).1
  rw [Nat.mod_eq_of_lt (Nat.lt_trans hsm (by decide))] at nx
  have CB := bytes_f lx (b := clp k ++ [0]) (by rw [nx]; exact bts_nb _ hp.len hp.bd)
  have HK : Hid (Key16 k) := hk
  have HP : Hid (Key17 (clp k ++ [0])) := hp
  have HA : Hid (∀ i, i < 16 → bits .and .u8 (k.getD i 0) (kp i) = (clp k ++ [0]).getD i 0) := clp_and hk
  have h16 : (clp k ++ [0]).getD 16 0 = 0 := by
    rw [List.getD_eq_getElem?_getD, List.getElem?_append_right (by rw [(clp_key hk.len hk.bd).1]; omega), (clp_key hk.len hk.bd).1]; rfl
  have H16 : Hid ((clp k ++ [0]).getD 16 0 = 0) := h16
  clear lx nx hsm hp hk h16
  generalize clp k ++ [0] = c at *
  have X0 : Hid (Bx w [(w.heap.size, .cells (VI .u8 k) 23)] (w.alloc (.cells (VI .u8 k) 23))) := bx1 w _
  obtain ⟨n, hn⟩ : ∃ n, w.heap.size = n := ⟨_, rfl⟩
  obtain ⟨W0, hW0⟩ : ∃ W, w.alloc (.cells (VI .u8 k) 23) = W := ⟨_, rfl⟩
  rw [hW0, hn] at X0
  go_enter Try.func4, Try.ntmps4
  go_wp2_with (with_reducible refine at_list ?_; refine wpList_load_row rfl 23 (.tmp 1) rfl n rfl 23 (VI .u8 k) (0, 0) _ (X0.out.row (by simp)) Try.underlying23 rfl HK.out.info ?_)
  refine (CX.out _).mono ?_
  rintro e W1 ⟨rfl, hb⟩
  have X1 : Hid (Bx w [(n, .cells (VI .u8 k) 23)] W1) := X0.out.below hb
  clear hb X0 hW0 CX
  go_wp2_with (fail)
  have hN := X1.out.new (.cells #[.int .u64 x0, .int .u64 x1, .int .u64 x2, .int .u64 x3, .int .u64 x4] 27)
  refine (CB.out _).mono ?_
  rintro e W2 ⟨rfl, hb⟩
  have X2 : Hid (Bx w [(n, .cells (VI .u8 k) 23)] W2) := ⟨(hN.below hb).old, fun p hp => (hN.below hb).rows p (List.mem_cons_of_mem _ hp), X1.out.ge⟩
  clear hb X1 hN CB
  go_wp2_with (with_reducible refine at_list ?_; refine hold_store 22 (.tmp 4) (.tmp 10) rfl ?_)
  refine store_row_new rfl 22 (.tmp 4) (.tmp 10) rfl W2.heap.size (VI .u8 c) rfl rfl rfl 22 (VI .u8 (List.replicate 17 0)) HP.out.info (by rw [VI_size, VI_size, HP.out.len]; rfl) (VI_one _ _) ?_
  have hN := X2.out.new (.cells (VI .u8 c) 22)
  obtain ⟨g, hg⟩ : ∃ g, W2.heap.size = g := ⟨_, rfl⟩
  obtain ⟨W3, hW3⟩ : ∃ W, W2.alloc (.cells (VI .u8 c) 22) = W := ⟨_, rfl⟩
  rw [hW3, hg] at hN
  have X3 : Hid (Bx w [(g, .cells (VI .u8 c) 22), (n, .cells (VI .u8 k) 23)] W3) := hN
  rw [hW3]
  simp only [hg]
  clear hN hW3 hg X2
  have h16 := rowB_cell (X3.out.row (g := g) (x := .cells (VI .u8 c) 22) (by simp)) (i := 16) (by rw [HP.out.len]; omega)
  rw [H16.out] at h16
  go_wp2
  clear h16
  go_loopw [5] (fun i w' => ∃ j : Nat, j ≤ 16 ∧ i = .int .i64 j ∧ Bx w [(g, .cells (VI .u8 c) 22), (n, .cells (VI .u8 k) 23)] w') (fun i _ => 16 - (intOf i).toNat)
  case atStart => exact ⟨0, Nat.zero_le _, rfl, X3.out⟩
  case round =>
    clear X3
    obtain ⟨j, hj, rfl, hp⟩ := hrel
    have HX : Hid (Bx w [(g, .cells (VI .u8 c) 22), (n, .cells (VI .u8 k) 23)] wr) := hp
    by_cases hlt : j < 16
    · have hc := rowB_cell (hp.row (g := g) (x := .cells (VI .u8 c) 22) (by simp)) (i := j) (by rw [HP.out.len]; omega)
      have hk := rowB_cell (hp.row (g := n) (x := .cells (VI .u8 k) 23) (by simp)) (i := j) (by rw [HK.out.len]; omega)
      have ha := HA.out j hlt
      clear hp
      generalize c.getD j 0 = y at *
      generalize k.getD j 0 = x at *
      have h : j = 0 ∨ j = 1 ∨ j = 2 ∨ j = 3 ∨ j = 4 ∨ j = 5 ∨ j = 6 ∨ j = 7 ∨ j = 8 ∨ j = 9 ∨ j = 10 ∨ j = 11 ∨ j = 12 ∨ j = 13 ∨ j = 14 ∨ j = 15 := by omega
      rcases h with rfl | rfl | rfl | rfl | rfl | rfl | rfl | rfl | rfl | rfl | rfl | rfl | rfl | rfl | rfl | rfl
      all_goals (
        simp only [kp, Nat.reduceMod, Nat.reduceEqDiff, if_true, if_false, or_self, or_false, or_true, reduceIte] at ha
        go_wp2
        go_region
        go_wp2
        go_roundw
        case rel => first | exact ⟨1, by decide, rfl, HX.out.drew⟩ | exact ⟨2, by decide, rfl, HX.out.drew⟩ | exact ⟨3, by decide, rfl, HX.out.drew⟩ | exact ⟨4, by decide, rfl, HX.out.drew⟩ | exact ⟨5, by decide, rfl, HX.out.drew⟩ | exact ⟨6, by decide, rfl, HX.out.drew⟩ | exact ⟨7, by decide, rfl, HX.out.drew⟩ | exact ⟨8, by decide, rfl, HX.out.drew⟩ | exact ⟨9, by decide, rfl, HX.out.drew⟩ | exact ⟨10, by decide, rfl, HX.out.drew⟩ | exact ⟨11, by decide, rfl, HX.out.drew⟩ | exact ⟨12, by decide, rfl, HX.out.drew⟩ | exact ⟨13, by decide, rfl, HX.out.drew⟩ | exact ⟨14, by decide, rfl, HX.out.drew⟩ | exact ⟨15, by decide, rfl, HX.out.drew⟩ | exact ⟨16, by decide, rfl, HX.out.drew⟩
        case measure => simp [intOf])
    · have hj' : j = 16 := by omega
      subst hj'
      clear hp hlt hj
      rw [show ((16 : Nat) : Int) = 16 from rfl]
      go_wp2_with (fail)
      refine (known_f.out _).mono ?_
      rintro e W9 ⟨rfl, hb⟩
      have X9 := HX.out.below hb
      go_wp2
      go_ret
      exact ⟨rfl, hn ▸ X9.old⟩
end Go.Proofs.Ytfeoamkngnpcmab
