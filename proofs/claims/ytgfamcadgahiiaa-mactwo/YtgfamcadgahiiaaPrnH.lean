import Derived.Test.YtgfamcadgahiiaaPrnG
import Derived.Test.YtgfamcadgahiiaaPrmS
namespace Go.Proofs.Ytgfamcadgahiiaa
set_option linter.unusedSimpArgs false
open Go.ChangeShapes Go.WideShapes Go.ChangeAt Go.RowKit Go.Pin Go.Prm
theorem sixteen {l : List Int} (h : l.length = 16) : ∃ k0 k1 k2 k3 k4 k5 k6 k7 k8 k9 k10 k11 k12 k13 k14 k15, l = [k0, k1, k2, k3, k4, k5, k6, k7, k8, k9, k10, k11, k12, k13, k14, k15] := by
  match l, h with
  | [k0, k1, k2, k3, k4, k5, k6, k7, k8, k9, k10, k11, k12, k13, k14, k15], _ => exact ⟨k0, k1, k2, k3, k4, k5, k6, k7, k8, k9, k10, k11, k12, k13, k14, k15, rfl⟩
theorem clp_eq (k0 k1 k2 k3 k4 k5 k6 k7 k8 k9 k10 k11 k12 k13 k14 k15 : Int) : clp [k0, k1, k2, k3, k4, k5, k6, k7, k8, k9, k10, k11, k12, k13, k14, k15] ++ [0] = [k0, k1, k2, k3 % 16, k4 - k4 % 4, k5, k6, k7 % 16, k8 - k8 % 4, k9, k10, k11 % 16, k12 - k12 % 4, k13, k14, k15 % 16, 0] := rfl
theorem clp_elem {key : List Int} (hl : key.length = 16) (k : Nat) (hk : k < 16) : (clp key ++ [0]).getD k 0 = if k % 4 = 3 then key.getD k 0 % 16 else if k % 4 = 0 ∧ 0 < k then key.getD k 0 - key.getD k 0 % 4 else key.getD k 0 := by
  obtain ⟨k0, k1, k2, k3, k4, k5, k6, k7, k8, k9, k10, k11, k12, k13, k14, k15, rfl⟩ := sixteen hl
  rw [clp_eq]
  have h : k = 0 ∨ k = 1 ∨ k = 2 ∨ k = 3 ∨ k = 4 ∨ k = 5 ∨ k = 6 ∨ k = 7 ∨ k = 8 ∨ k = 9 ∨ k = 10 ∨ k = 11 ∨ k = 12 ∨ k = 13 ∨ k = 14 ∨ k = 15 := by omega
  rcases h with rfl | rfl | rfl | rfl | rfl | rfl | rfl | rfl | rfl | rfl | rfl | rfl | rfl | rfl | rfl | rfl <;> rfl
theorem tm8 (i : Int) : i.tmod 8 = i % 8 ∨ (i.tmod 8 = i % 8 - 8 ∧ i % 8 ≠ 0) := by
  rcases Int.le_total 0 i with h | h
  · left; exact Int.tmod_eq_emod_of_nonneg h
  · obtain ⟨m, rfl⟩ : ∃ m, i = -m := ⟨-i, by omega⟩
    rw [Int.neg_tmod, Int.tmod_eq_emod_of_nonneg (by omega)]
    omega
set_option maxRecDepth 100000 in
set_option maxHeartbeats 4000000 in
theorem rsum_any (a : Nat) (s : List Int) (hs : Key16 s) (w : World) :
    Calls Try.prog 44 #[.agg (VI .i64 (bts a)), .agg (VI .u8 s)] w fun e w' => e = .returned (.agg (VI .u8 (smt (bts a) s))) ∧ Below w.heap.size w w' := by
  have hX := (bx3 w (.cells (VI .i64 (bts a)) 91) (.cells (VI .u8 s) 35) (.cells (VI .u8 (List.replicate 16 0)) 36)).new (.cells (VI .u8 (List.replicate 16 0)) 36)
  rw [size_alloc, size_alloc, size_alloc] at hX
  obtain ⟨n, hn⟩ : ∃ n, w.heap.size = n := ⟨_, rfl⟩
  obtain ⟨V1, hV1⟩ : ∃ V, (((w.alloc (.cells (VI .i64 (bts a)) 91)).alloc (.cells (VI .u8 s) 35)).alloc (.cells (VI .u8 (List.replicate 16 0)) 36)).alloc (.cells (VI .u8 (List.replicate 16 0)) 36) = V := ⟨_, rfl⟩
  have hV1' : (((w.alloc (.cells (VI .i64 (bts a)) 91)).alloc (.cells (VI .u8 s) 35)).alloc (.cells #[.int .u8 0, .int .u8 0, .int .u8 0, .int .u8 0, .int .u8 0, .int .u8 0, .int .u8 0, .int .u8 0, .int .u8 0, .int .u8 0, .int .u8 0, .int .u8 0, .int .u8 0, .int .u8 0, .int .u8 0, .int .u8 0] 36)).alloc (.cells #[.int .u8 0, .int .u8 0, .int .u8 0, .int .u8 0, .int .u8 0, .int .u8 0, .int .u8 0, .int .u8 0, .int .u8 0, .int .u8 0, .int .u8 0, .int .u8 0, .int .u8 0, .int .u8 0, .int .u8 0, .int .u8 0] 36) = V1 := hV1
  rw [hV1, hn] at hX
  have HX : Hid (Bx w ((n + 3, .cells (VI .u8 (List.replicate 16 0)) 36) :: [(n + 2, .cells (VI .u8 (List.replicate 16 0)) 36), (n + 1, .cells (VI .u8 s) 35), (n, .cells (VI .i64 (bts a)) 91)]) V1) := hX
  have HS : Hid (Key16 s) := hs
  have HNE : Hid (∀ p ∈ ([(n + 2, .cells (VI .u8 (List.replicate 16 0)) 36), (n + 1, .cells (VI .u8 s) 35), (n, .cells (VI .i64 (bts a)) 91)] : List (Nat × Obj)), p.1 ≠ n + 3) := by
    have : ∀ p ∈ ([(n + 2, .cells (VI .u8 (List.replicate 16 0)) 36), (n + 1, .cells (VI .u8 s) 35), (n, .cells (VI .i64 (bts a)) 91)] : List (Nat × Obj)), p.1 ≠ n + 3 := by
      simp only [List.mem_cons, List.not_mem_nil, or_false, forall_eq_or_imp, forall_eq]
      omega
    exact this
  clear hX hV1 hs
  go_enter Try.func44, Try.ntmps44
  go_wp2
  go_loopw [6, 7] (fun o i w' => ∃ k : Nat, k ≤ 16 ∧ i = .int .i64 k ∧ o = .int .i64 (cr (bts a) s k) ∧ Bx w ((n + 3, .cells (VI .u8 ((smt (bts a) s).take k ++ (List.replicate 16 (0 : Int)).drop k)) 36) :: [(n + 2, .cells (VI .u8 (List.replicate 16 0)) 36), (n + 1, .cells (VI .u8 s) 35), (n, .cells (VI .i64 (bts a)) 91)]) w') (fun _ i _ => 16 - (intOf i).toNat)
  case atStart => exact ⟨0, Nat.zero_le _, rfl, rfl, HX.out⟩
  case round =>
    clear HX hV1'
    obtain ⟨k, hk, rfl, rfl, hp⟩ := hrel
    by_cases hlt : k < 16
    · have hca := hp.cellK (g := n) (l := bts a) (T := 91) (k := .i64) (by simp) (i := k) (by simp; omega)
      have hcs := hp.cellK (g := n + 1) (l := s) (T := 35) (k := .u8) (by simp) (i := k) (by rw [HS.out.len]; exact hlt)
      have hcd := hp.cellK (g := n + 3) (List.mem_cons_self ..) (i := k) (by simp; omega)
      have hfz := hp.froz (g := n + 3) (List.mem_cons_self ..) k
      obtain ⟨b0, b1⟩ := byte_at (bts_bd a) k
      obtain ⟨s0, s1⟩ := byte_at HS.out.bd k
      obtain ⟨d0, d1⟩ := cr_bd (bts_bd a) HS.out.bd k
      have hst := hp.setI HNE.out k ((smt (bts a) s)[k]'(by simpa using hlt))
      rw [set_step _ _ _ (by simpa using hlt) (by simpa using hlt), smt_at _ _ _ hlt, show cr (bts a) s k + ((bts a).getD k 0 + s.getD k 0) = cr (bts a) s k + (bts a).getD k 0 + s.getD k 0 by omega] at hst
      have HST : Hid _ := hst
      have HCR : Hid (cr (bts a) s (k + 1) = (cr (bts a) s k + (bts a).getD k 0 + s.getD k 0) / 256) := by
        have : cr (bts a) s (k + 1) = (cr (bts a) s k + ((bts a).getD k 0 + s.getD k 0)) / 256 := rfl
        rw [this, Int.add_assoc]
        exact rfl
      clear hp hst
      generalize cr (bts a) s k = c at *
      generalize (bts a).getD k 0 = x at *
      generalize s.getD k 0 = y at *
      generalize List.getD _ k 0 = z at hcd
      go_wp2
      go_region
      go_wp2
      go_roundw
      case rel => exact ⟨k + 1, by omega, by go_num, by rw [HCR.out], HST.out.drew⟩
      case measure => simp [intOf]; omega
    · have hk' : k = 16 := by omega
      subst hk'
      rw [List.take_of_length_le (by simp), List.drop_of_length_le (by simp), List.append_nil] at hp
      have HX : Hid (Bx w ((n + 3, .cells (VI .u8 (smt (bts a) s)) 36) :: [(n + 2, .cells (VI .u8 (List.replicate 16 0)) 36), (n + 1, .cells (VI .u8 s) 35), (n, .cells (VI .i64 (bts a)) 91)]) wr) := hp
      have HJ : Hid ((Try.prog.info? 36).map (·.size) = some (VI .u8 (smt (bts a) s)).size) := by rw [VI_size, smt_len]; exact infoT16
      clear hp hlt hk
      rw [show ((16 : Nat) : Int) = 16 from rfl]
      go_wp2_with (with_reducible refine at_list ?_; first | (refine wpList_load_row rfl 36 (.tmp 5) rfl (n + 3) rfl 36 (VI .u8 (smt (bts a) s)) (0, 0) _ (HX.out.row (by simp)) Try.underlying36 rfl HJ.out ?_) | (refine wpList_store_row rfl 36 (.tmp 4) (.tmp 29) rfl (n + 2) (VI .u8 (smt (bts a) s)) rfl rfl 36 (VI .u8 (List.replicate 16 0)) (HX.out.row (by simp)) HJ.out (by simp) (VI_one _ _) ?_))
      refine bodyPost_ret (v := .agg (VI .u8 (smt (bts a) s))) ?_ rfl ⟨rfl, by have := below_setRow HX.out.old (n + 2) (by omega) (VI .u8 (smt (bts a) s)); exact this⟩
      exact results_cell_row (P := Try.prog) (fn := Try.f44) (p := 4) (ty := 36) rfl _ _ (n + 2) 36 (VI .u8 (smt (bts a) s)) (0, 0) _ rfl (setRow_heap wr _ _ _ 36 _ (HX.out.row (x := .cells (VI .u8 (List.replicate 16 0)) 36) (by simp))) Try.underlying36 rfl HJ.out
set_option maxRecDepth 100000 in
set_option maxHeartbeats 4000000 in
theorem rclamp_any (key : List Int) (hk : Key16 key) (w : World) :
    Calls Try.prog 40 #[.agg (VI .u8 key)] w fun e w' => e = .returned (.agg (VI .i64 (bts (nb (clp key ++ [0]) % P)))) ∧ Below w.heap.size w w' := by
  have hkey := pad17 (clp_key hk.len hk.bd).1 (clp_key hk.len hk.bd).2
  have hfin : bts (nb (clp key ++ [0]) % P) = (clp key ++ [0]) := by
    rw [Nat.mod_eq_of_lt (Nat.lt_trans (nb_small (clp_key hk.len hk.bd).2 (clp_key hk.len hk.bd).1) (by decide))]
    exact bts_nb _ hkey.len hkey.bd
  rw [hfin]
  have hX := bx3 w (.cells (VI .u8 key) 35) (.cells (VI .i64 (List.replicate 17 0)) 91) (.cells (VI .i64 (List.replicate 17 0)) 91)
  obtain ⟨n, hn⟩ : ∃ n, w.heap.size = n := ⟨_, rfl⟩
  obtain ⟨V1, hV1⟩ : ∃ V, ((w.alloc (.cells (VI .u8 key) 35)).alloc (.cells (VI .i64 (List.replicate 17 0)) 91)).alloc (.cells (VI .i64 (List.replicate 17 0)) 91) = V := ⟨_, rfl⟩
  have hV1' : ((w.alloc (.cells (VI .u8 key) 35)).alloc (.cells #[.int .i64 0, .int .i64 0, .int .i64 0, .int .i64 0, .int .i64 0, .int .i64 0, .int .i64 0, .int .i64 0, .int .i64 0, .int .i64 0, .int .i64 0, .int .i64 0, .int .i64 0, .int .i64 0, .int .i64 0, .int .i64 0, .int .i64 0] 91)).alloc (.cells #[.int .i64 0, .int .i64 0, .int .i64 0, .int .i64 0, .int .i64 0, .int .i64 0, .int .i64 0, .int .i64 0, .int .i64 0, .int .i64 0, .int .i64 0, .int .i64 0, .int .i64 0, .int .i64 0, .int .i64 0, .int .i64 0, .int .i64 0] 91) = V1 := hV1
  rw [hV1, hn] at hX
  have HX : Hid (Bx w ((n + 2, .cells (VI .i64 (List.replicate 17 0)) 91) :: [(n + 1, .cells (VI .i64 (List.replicate 17 0)) 91), (n, .cells (VI .u8 key) 35)]) V1) := hX
  have HK : Hid (Key16 key) := hk
  have HC : Hid (Key17 (clp key ++ [0])) := hkey
  have HEL : Hid (∀ k, k < 16 → (clp key ++ [0]).getD k 0 = if k % 4 = 3 then key.getD k 0 % 16 else if k % 4 = 0 ∧ 0 < k then key.getD k 0 - key.getD k 0 % 4 else key.getD k 0) := clp_elem hk.len
  have HNE : Hid (∀ p ∈ ([(n + 1, .cells (VI .i64 (List.replicate 17 0)) 91), (n, .cells (VI .u8 key) 35)] : List (Nat × Obj)), p.1 ≠ n + 2) := by
    have : ∀ p ∈ ([(n + 1, .cells (VI .i64 (List.replicate 17 0)) 91), (n, .cells (VI .u8 key) 35)] : List (Nat × Obj)), p.1 ≠ n + 2 := by
      simp only [List.mem_cons, List.not_mem_nil, or_false, forall_eq_or_imp, forall_eq]
      omega
    exact this
  have hc16 : (clp key ++ [0]).getD 16 0 = 0 := by
    rw [List.getD_eq_getElem?_getD, List.getElem?_append_right (by rw [(clp_key hk.len hk.bd).1]; omega), (clp_key hk.len hk.bd).1]; rfl
  have HC16 : Hid ((clp key ++ [0]).getD 16 0 = 0) := hc16
  clear hX hV1 hk hkey hfin hc16
  generalize (clp key ++ [0]) = c at *
  go_enter Try.func40, Try.ntmps40
  go_wp2
  go_loopw [4] (fun i w' => ∃ k : Nat, k ≤ 16 ∧ i = .int .i64 k ∧ Bx w ((n + 2, .cells (VI .i64 (c.take k ++ (List.replicate 17 (0 : Int)).drop k)) 91) :: [(n + 1, .cells (VI .i64 (List.replicate 17 0)) 91), (n, .cells (VI .u8 key) 35)]) w') (fun i _ => 16 - (intOf i).toNat)
  case atStart => exact ⟨0, Nat.zero_le _, rfl, HX.out⟩
  case round =>
    clear HX hV1'
    obtain ⟨k, hk, rfl, hp⟩ := hrel
    by_cases hlt : k < 16
    · have hca := hp.cellK (g := n) (l := key) (T := 35) (k := .u8) (by simp) (i := k) (by rw [HK.out.len]; exact hlt)
      have hll : k < (c.take k ++ (List.replicate 17 (0 : Int)).drop k).length := by have := HC.out.len; simp; omega
      have hcd := hp.cellK (g := n + 2) (List.mem_cons_self ..) (i := k) hll
      have hfz := hp.froz (g := n + 2) (List.mem_cons_self ..) k
      have hel := HEL.out k hlt
      have hkc : k < c.length := by rw [HC.out.len]; omega
      have hcg : c[k] = c.getD k 0 := by rw [List.getD_eq_getElem?_getD, List.getElem?_eq_getElem hkc]; rfl
      obtain ⟨y0, y1⟩ := byte_at HK.out.bd k
      have HSS : Hid (∀ v, v = c.getD k 0 → Bx w ((n + 2, .cells (VI .i64 (c.take (k + 1) ++ (List.replicate 17 (0 : Int)).drop (k + 1))) 91) :: [(n + 1, .cells (VI .i64 (List.replicate 17 0)) 91), (n, .cells (VI .u8 key) 35)]) (wr.setCell ⟨n + 2, k, none⟩ (.int .i64 v))) := fun v hv => by
        have hst := hp.setI HNE.out k v
        rw [hv, ← hcg, set_step _ _ _ hkc (by simp; omega)] at hst
        rw [hv, ← hcg]
        exact hst
      have HS2 : Hid (∀ u v, v = c.getD k 0 → Bx w ((n + 2, .cells (VI .i64 (c.take (k + 1) ++ (List.replicate 17 (0 : Int)).drop (k + 1))) 91) :: [(n + 1, .cells (VI .i64 (List.replicate 17 0)) 91), (n, .cells (VI .u8 key) 35)]) ((wr.setCell ⟨n + 2, k, none⟩ (.int .i64 u)).setCell ⟨n + 2, k, none⟩ (.int .i64 v))) := fun u v hv => by
        have hst := (hp.setI HNE.out k u).setI HNE.out k v
        rw [List.set_set, hv, ← hcg, set_step _ _ _ hkc (by simp; omega)] at hst
        rw [hv, ← hcg]
        exact hst
      have HCK : Hid (c.getD k 0 = if k % 4 = 3 then key.getD k 0 % 16 else if k % 4 = 0 ∧ 0 < k then key.getD k 0 - key.getD k 0 % 4 else key.getD k 0) := hel
      clear hp hel hcg hll hkc
      generalize key.getD k 0 = x at *
      generalize List.getD _ k 0 = z at hcd
      by_cases h3 : k % 4 = 3
      · have h3' : (k : Int) % 4 = 3 := by omega
        have h0' : 0 < (k : Int) := by omega
        have HV : Hid (x % 16 = c.getD k 0) := by have := HCK.out; rw [if_pos h3] at this; exact this.symm
        clear HCK h3
        go_wp2
        go_roundw
        case rel => exact ⟨k + 1, by omega, by go_num, HS2.out _ _ HV.out⟩
        case measure => simp [intOf]; omega
      · by_cases h0 : k % 4 = 0 ∧ 0 < k
        · have h0' : 0 < (k : Int) := by omega
          have h4' : (k : Int) % 4 = 0 := by omega
          have HV : Hid (x - x % 4 = c.getD k 0) := by have := HCK.out; rw [if_neg h3, if_pos h0] at this; exact this.symm
          clear HCK h3 h0
          go_wp2
          go_region
          go_wp2
          go_roundw
          case rel => exact ⟨k + 1, by omega, by go_num, (HS2.out _ _ HV.out).drew⟩
          case measure => simp [intOf]; omega
        · have HV : Hid (x = c.getD k 0) := by have := HCK.out; rw [if_neg h3, if_neg h0] at this; exact this.symm
          have h3' : ¬ (k : Int) % 4 = 3 := by omega
          clear HCK h3
          by_cases hk0 : k = 0
          · subst hk0
            rw [show ((0 : Nat) : Int) = 0 from rfl] at *
            clear h0 h3'
            go_wp2
            go_roundw
            case rel => exact ⟨1, by omega, by go_num, HSS.out _ HV.out⟩
            case measure => simp [intOf]
          · have h0' : 0 < (k : Int) := by omega
            have h4' : ¬ (k : Int) % 4 = 0 := by omega
            clear h0 hk0
            go_wp2
            go_roundw
            case rel => exact ⟨k + 1, by omega, by go_num, HSS.out _ HV.out⟩
            case measure => simp [intOf]; omega
    · have hk' : k = 16 := by omega
      subst hk'
      have e : c.take 16 ++ (List.replicate 17 (0 : Int)).drop 16 = c := by
        have h1 : c = c.take 16 ++ c.drop 16 := (List.take_append_drop 16 c).symm
        have h2 : c.drop 16 = [0] := by
          rw [List.drop_eq_getElem_cons (by rw [HC.out.len]; omega), List.drop_eq_nil_of_le (by rw [HC.out.len]; omega)]
          have := HC16.out
          rw [List.getD_eq_getElem?_getD, List.getElem?_eq_getElem (by rw [HC.out.len]; omega)] at this
          rw [show c[16]'(by rw [HC.out.len]; omega) = 0 from this]
        rw [h2] at h1
        exact h1.symm
      rw [e] at hp
      have HX : Hid (Bx w ((n + 2, .cells (VI .i64 c) 91) :: [(n + 1, .cells (VI .i64 (List.replicate 17 0)) 91), (n, .cells (VI .u8 key) 35)]) wr) := hp
      have HJ : Hid ((Try.prog.info? 91).map (·.size) = some (VI .i64 c).size) := by rw [VI_size, HC.out.len]; exact infoNum
      clear hp hlt hk e
      rw [show ((16 : Nat) : Int) = 16 from rfl]
      go_wp2_with (with_reducible refine at_list ?_; first | (refine wpList_load_row rfl 91 (.tmp 3) rfl (n + 2) rfl 91 (VI .i64 c) (0, 0) _ (HX.out.row (by simp)) Try.underlying91 rfl HJ.out ?_) | (refine wpList_store_row rfl 91 (.tmp 2) (.tmp 41) rfl (n + 1) (VI .i64 c) rfl rfl 91 (VI .i64 (List.replicate 17 0)) (HX.out.row (by simp)) HJ.out (by rw [VI_size, VI_size, HC.out.len, List.length_replicate]) (VI_one _ _) ?_))
      refine bodyPost_ret (v := .agg (VI .i64 c)) ?_ rfl ⟨rfl, by have := below_setRow HX.out.old (n + 1) (by omega) (VI .i64 c); exact this⟩
      exact results_cell_row (P := Try.prog) (fn := Try.f40) (p := 2) (ty := 91) rfl _ _ (n + 1) 91 (VI .i64 c) (0, 0) _ rfl (setRow_heap wr _ _ _ 91 _ (HX.out.row (x := .cells (VI .i64 (List.replicate 17 0)) 91) (by simp))) Try.underlying91 rfl HJ.out
end Go.Proofs.Ytgfamcadgahiiaa
