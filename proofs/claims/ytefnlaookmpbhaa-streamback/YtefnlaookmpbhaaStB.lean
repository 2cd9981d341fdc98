import Derived.Test.YtefnlaookmpbhaaStrU
import Derived.Test.YtefnlaookmpbhaaSxB
namespace Go.Proofs.Ytefnlaookmpbhaa
set_option linter.unusedSimpArgs false
set_option linter.unusedVariables false
open Go.ChangeShapes Go.WideShapes Go.ChangeAt Go.RowKit Go.Pin Go.Str
set_option maxRecDepth 100000 in
set_option maxHeartbeats 8000000 in
theorem back_walk (key nonce : List Nat) (c : Nat) (hk : Bs 32 key) (hn : Bs 12 nonce) (hc : c < 4294967296) (D : List Nat) (hDb : ∀ x ∈ D, x < 256) (a : Option Addr) (cap : Nat) (w : World) (rd : Rd w (.slice a D.length cap) D) :
    Calls Try.prog 5 #[.agg (VN .u8 key), .int .u32 (c : Int), .agg (VN .u8 nonce), .slice a D.length cap] w fun e w' => e = .returned (.bool true) ∧ Below w.heap.size w w' := by
  have h0 := ((ev_nil' w).new (.cells (VN .u8 key) 23)).new (.cells (VN .u8 nonce) 26)
  obtain ⟨q, hq⟩ : ∃ q, w.heap.size = q := ⟨_, rfl⟩
  simp only [size_alloc, hq] at h0
  obtain ⟨W0, hW0⟩ : ∃ W, (w.alloc (.cells (VN .u8 key) 23)).alloc (.cells (VN .u8 nonce) 26) = W := ⟨_, rfl⟩
  rw [hW0] at h0
  have HQ : Hid (w.heap.size = q) := hq
  have H0 : Hid (Ev q w (.pointer none) [] [(q + 1, .cells (VN .u8 nonce) 26), (q, .cells (VN .u8 key) 23)] W0) := h0
  have HRD : Hid (∀ w', Below q w w' → Rd w' (.slice a D.length cap) D) := fun w' hb => rd.below (by rw [hq]; exact hb)
  obtain ⟨n, hD⟩ : ∃ n, D.length = n := ⟨_, rfl⟩
  by_cases hbig : 131072 < n
  · clear h0 hk hn hDb rd HRD
    rw [hD]
    go_enter Try.func5, Try.ntmps5
    go_wp2
    go_ret
    exact ⟨rfl, by rw [HQ.out]; exact H0.out.old⟩
  · have hn1 : n ≤ 131072 := by omega
    have s0 : W0.heap.size = q + 2 := by rw [← hW0, ← hq]; simp [size_alloc]
    have CR : Hid (Calls Try.prog 16 #[.slice a n cap] W0 fun e w' => e = .returned (.slice (some ⟨q + 2, 0, none⟩) (n + 70) (n + 70)) ∧ Ev q w (.pointer none) [] [(q + 2, .cells (VN .u8 (room D)) 5), (q + 1, .cells (VN .u8 nonce) 26), (q, .cells (VN .u8 key) 23)] w') := by
      have := roomy_any a cap D (by omega) hDb W0 (HRD.out W0 h0.old)
      rw [hD, s0] at this
      refine this.mono ?_
      rintro e w' ⟨he, h1, h2⟩
      exact ⟨he, h0.fresh (by rw [s0]; exact h1) (by rw [s0]; exact Nat.le_refl _) h2.row⟩
    have HKN : Hid (Bs 32 key ∧ Bs 12 nonce ∧ c < 4294967296) := ⟨hk, hn, hc⟩
    have HIK : Hid ((Try.prog.info? 23).map (·.size) = some (VN .u8 key).size) := infoK hk.len
    have HIN : Hid ((Try.prog.info? 26).map (·.size) = some (VN .u8 nonce).size) := infoNn hn.len
    have HKL : Hid (key.length = 32) := hk.len
    have HNL : Hid (nonce.length = 12) := hn.len
    have HRB : Hid (∀ x ∈ room D, x < 256) := room_bd D hDb
    have HRL : Hid ((room D).length = n + 70) := by rw [← hD]; exact room_len D
    have HDB : Hid (∀ i, D.getD i 0 < 256) := fun i => (Bs.mk rfl hDb).at i
    have HD : Hid (D.length = n) := hD
    rw [hD] at HRD
    have hmk := fun w => mk_b n (n : Int) rfl (by omega) w
    clear h0 hk hn hDb rd s0 H0
    rw [hD]
    clear hD
    go_enter Try.func5, Try.ntmps5
    go_upto_region 5 with (first | (go_at_call 16; refine Calls.mono CR.out ?_; rintro e w1 ⟨rfl, h1⟩; have H1 : Hid _ := h1; clear h1))
    have h2 := H1.out.new (.cells (VN .u8 (List.replicate n 0)) 5)
    obtain ⟨z, hz⟩ : ∃ z, w1.heap.size = z := ⟨_, rfl⟩
    have hmk1 := hmk w1
    obtain ⟨W2, hW2⟩ : ∃ W, w1.alloc (.cells (VN .u8 (List.replicate n 0)) 5) = W := ⟨_, rfl⟩
    rw [hW2, hz] at hmk1 h2
    have lz : q + 2 < z := by rw [← hz]; exact H1.out.lt (List.mem_cons_self ..)
    have H2 : Hid (Ev q w (.pointer none) [] [(z, .cells (VN .u8 (List.replicate n 0)) 5), (q + 2, .cells (VN .u8 (room D)) 5), (q + 1, .cells (VN .u8 nonce) 26), (q, .cells (VN .u8 key) 23)] W2) := h2
    clear h2 H1 CR hW2 hmk
    go_upto_region 6 with fail
    have h2 := H2.out.drew
    have h2' := h2.sub (by' := [(q + 2, .cells (VN .u8 (room D)) 5), (z, .cells (VN .u8 (List.replicate n 0)) 5), (q + 1, .cells (VN .u8 nonce) 26), (q, .cells (VN .u8 key) 23)]) (fun p hp => mem_swap2 hp)
    have CX1 : Hid _ := xor_nil HKN.out h2' (fun p hp => by
      simp only [List.mem_cons, List.not_mem_nil, or_false] at hp
      rcases hp with rfl | rfl | rfl
      · show z ≠ q + 2; omega
      · show q + 1 ≠ q + 2; omega
      · show q ≠ q + 2; omega) (.inl rfl) HRB.out 0 n (n + 70) hn1 (by omega) (by rw [HRL.out]; omega)
    have HS1 : Hid (RK W2.drew q key 23 ∧ RK W2.drew (q + 1) nonce 26) := ⟨h2.row (by simp), h2.row (by simp)⟩
    have HA : Hid (n ≤ n + 70 ∧ 0 < n + 70) := ⟨by omega, by omega⟩
    refine wp_as (c' := rgBk6) (by kernel_rfl) ?_
    refine Bk6 (R := fun w' => Ev q w (.pointer none) [] [(q + 2, .cells (VN .u8 (xr (room D) 0 n (ks key c nonce))) 5), (z, .cells (VN .u8 (List.replicate n 0)) 5), (q + 1, .cells (VN .u8 nonce) 26), (q, .cells (VN .u8 key) 23)] w') HKL HNL HA CX1 HS1 (fun w' h => ⟨h.row (by simp), h.row (by simp)⟩) (fun _ _ d _ _ h => by cases d <;> exact h) ?_
    intro w3 h3
    have h3' := h3.sub (by' := [(z, .cells (VN .u8 (List.replicate n 0)) 5), (q + 2, .cells (VN .u8 (xr (room D) 0 n (ks key c nonce))) 5), (q + 1, .cells (VN .u8 nonce) 26), (q, .cells (VN .u8 key) 23)]) (fun p hp => mem_swap2 hp)
    have CX2 : Hid _ := xor_nil HKN.out h3' (fun p hp => by
      simp only [List.mem_cons, List.not_mem_nil, or_false] at hp
      rcases hp with rfl | rfl | rfl
      · show q + 2 ≠ z; omega
      · show q + 1 ≠ z; omega
      · show q ≠ z; omega) (.inl rfl) (rep_bd n) 0 n n hn1 (by omega) (by rw [List.length_replicate]; omega)
    have HK3 : Hid (RK w3 q key 23) := h3.row (by simp)
    have HN3 : Hid (RK w3 (q + 1) nonce 26) := h3.row (by simp)
    clear h2 h2' h3 h3' CX1 HS1 H2
    go_wp2_with (first | (go_at_call 17; refine Calls.mono CX2.out ?_; rintro e w4 ⟨rfl, h4⟩; have H4 : Hid (Ev q w (.pointer none) [] [(z, .cells (VN .u8 (xr (List.replicate n 0) 0 n (ks key c nonce))) 5), (q + 2, .cells (VN .u8 (xr (room D) 0 n (ks key c nonce))) 5), (q + 1, .cells (VN .u8 nonce) 26), (q, .cells (VN .u8 key) 23)] w4) := h4; clear h4) | (with_reducible refine at_list ?_; first | (refine wpList_load_row rfl 23 (.tmp 4) rfl q rfl 23 (VN .u8 key) (0, 0) _ HK3.out Try.underlying23 rfl HIK.out ?_) | (refine wpList_load_row rfl 26 (.tmp 6) rfl (q + 1) rfl 26 (VN .u8 nonce) (0, 0) _ HN3.out Try.underlying26 rfl HIN.out ?_)))
    have HCE : Hid (∀ i w', i < n → Ev q w (.pointer none) [] [(z, .cells (VN .u8 (xr (List.replicate n 0) 0 n (ks key c nonce))) 5), (q + 2, .cells (VN .u8 (xr (room D) 0 n (ks key c nonce))) 5), (q + 1, .cells (VN .u8 nonce) 26), (q, .cells (VN .u8 key) 23)] w' → ∃ b o, a = some ⟨b, o, none⟩ ∧ w'.cell? ⟨b, o + i, none⟩ = some (.int .u8 ((D.getD i 0 : Nat) : Int)) ∧ w'.cell? ⟨z, i, none⟩ = some (.int .u8 ((ks key c nonce i : Nat) : Int)) ∧ w'.cell? ⟨q + 2, i, none⟩ = some (.int .u8 ((D.getD i 0 ^^^ ks key c nonce i : Nat) : Int)) ∧ bits .xor .u8 ((D.getD i 0 : Nat) : Int) ((ks key c nonce i : Nat) : Int) = ((D.getD i 0 ^^^ ks key c nonce i : Nat) : Int)) := fun i w' hi h => by
      obtain ⟨a', cap', e, _, hh⟩ := HRD.out w' h.old
      injection e with e1 e2 e3
      subst e1
      rcases hh with hh | ⟨b, o, rfl, hh⟩
      · have := HD.out; rw [hh] at this; simp at this; omega
      · have rz : RB w' z (xr (List.replicate n 0) 0 n (ks key c nonce)) 5 (0, 0) := ⟨h.row (by simp), .inl rfl, xr_bd (rep_bd n) (fun j => ks_lt _ _ _ _)⟩
        have rg : RB w' (q + 2) (xr (room D) 0 n (ks key c nonce)) 5 (0, 0) := ⟨h.row (by simp), .inl rfl, xr_bd HRB.out (fun j => ks_lt _ _ _ _)⟩
        have cz := rz.cell (i := i) (by rw [xr_len, List.length_replicate]; exact hi)
        have cg := rg.cell (i := i) (by rw [xr_len, HRL.out]; omega)
        rw [xr_at _ _ _ _ _ (by rw [List.length_replicate]; exact hi), if_pos (by omega), rep_at, Nat.zero_xor, Nat.sub_zero] at cz
        rw [xr_at _ _ _ _ _ (by rw [HRL.out]; omega), if_pos (by omega), room_at _ _ (by rw [HD.out]; omega), if_pos (by rw [HD.out]; exact hi), Nat.sub_zero] at cg
        exact ⟨b, o, rfl, hh i (by rw [HD.out]; exact hi), cz, cg, u8_xor_nat _ _ (HDB.out i) (ks_lt _ _ _ _)⟩
    clear CX2 HK3 HN3 hmk1
    go_loopw [12] (fun v w' => ∃ i : Nat, i ≤ n ∧ v = .int .i64 i ∧ Ev q w (.pointer none) [] [(z, .cells (VN .u8 (xr (List.replicate n 0) 0 n (ks key c nonce))) 5), (q + 2, .cells (VN .u8 (xr (room D) 0 n (ks key c nonce))) 5), (q + 1, .cells (VN .u8 nonce) 26), (q, .cells (VN .u8 key) 23)] w') (fun v _ => n - (intOf v).toNat)
    case atStart => exact ⟨0, by omega, rfl, H4.out⟩
    case round =>
      clear H4
      obtain ⟨i, hi, rfl, hp⟩ := hrel
      by_cases hlt : i < n
      · obtain ⟨b, o, rfl, c1, c2, c3, x1⟩ := HCE.out i wr hlt hp
        have b1 : (i : Int) < (n : Int) := by omega
        have b2 : (i : Int) < (n : Int) + 70 := by omega
        have HP : Hid (Ev q w (.pointer none) [] [(z, .cells (VN .u8 (xr (List.replicate n 0) 0 n (ks key c nonce))) 5), (q + 2, .cells (VN .u8 (xr (room D) 0 n (ks key c nonce))) 5), (q + 1, .cells (VN .u8 nonce) 26), (q, .cells (VN .u8 key) 23)] wr) := hp
        clear hp HCE
        generalize (D.getD i 0 ^^^ ks key c nonce i) = y1 at *
        generalize D.getD i 0 = y2 at *
        generalize ks key c nonce i = y3 at *
        go_wp2
        go_quiet (fail)
        go_wp2
        go_roundw
        case rel => exact ⟨i + 1, by omega, by go_num, HP.out.below ⟨rfl, rfl, rfl, Nat.le_refl _, fun _ _ => rfl⟩⟩
        case measure => simp [intOf]; omega
      · have b1 : ¬ (i : Int) < (n : Int) := by omega
        have h4 := hp.drew
        have h4' := h4.sub (by' := [(q + 2, .cells (VN .u8 (xr (room D) 0 n (ks key c nonce))) 5), (z, .cells (VN .u8 (xr (List.replicate n 0) 0 n (ks key c nonce))) 5), (q + 1, .cells (VN .u8 nonce) 26), (q, .cells (VN .u8 key) 23)]) (fun p hp => mem_swap2 hp)
        have CX3 := xor_nil HKN.out h4' (fun p hp => by
          simp only [List.mem_cons, List.not_mem_nil, or_false] at hp
          rcases hp with rfl | rfl | rfl
          · show z ≠ q + 2; omega
          · show q + 1 ≠ q + 2; omega
          · show q ≠ q + 2; omega) (.inl rfl) (xr_bd HRB.out (fun j => ks_lt _ _ _ _)) 0 n (n + 70) hn1 (by omega) (by rw [xr_len, HRL.out]; omega)
        rw [xr_twice] at CX3
        have HCX3 : Hid _ := CX3
        have HS4 : Hid (RK wr.drew q key 23 ∧ RK wr.drew (q + 1) nonce 26) := ⟨h4.row (by simp), h4.row (by simp)⟩
        clear hp h4 h4' CX3 HCE
        go_upto_region 13 with fail
        refine wp_as (c' := rgBk13) (by kernel_rfl) ?_
        refine Bk13 (R := fun w' => Ev q w (.pointer none) [] [(q + 2, .cells (VN .u8 (room D)) 5), (z, .cells (VN .u8 (xr (List.replicate n 0) 0 n (ks key c nonce))) 5), (q + 1, .cells (VN .u8 nonce) 26), (q, .cells (VN .u8 key) 23)] w') HKL HNL HA HCX3 HS4 (fun w' h => ⟨h.row (by simp), h.row (by simp)⟩) (fun _ _ d _ _ h => by cases d <;> exact h) ?_
        intro w5 h5
        have rg5 : RB w5 (q + 2) (room D) 5 (0, 0) := ⟨h5.row (by simp), .inl rfl, HRB.out⟩
        have CS : Hid (Calls Try.prog 20 #[.slice (some ⟨q + 2, 0, none⟩) n (n + 70), .slice a n cap] w5 fun e w' => e = .returned (.bool true) ∧ Below q w w' ∧ RB w' (q + 2) (room D) 5 (0, 0)) := by
          have d1 := rg5.rd 0 n (n + 70) (by rw [HRL.out]; omega) (by omega)
          have e1 : sub (room D) 0 n = D := by rw [← HD.out]; exact room_sub D
          rw [e1] at d1
          refine (same_any _ _ D (by rw [HD.out]; omega) w5 d1 (HRD.out w5 h5.old)).mono ?_
          rintro e w' ⟨he, hb⟩
          exact ⟨he, (h5.below hb).old, rg5.below hb⟩
        have CB : Hid (∀ w', RB w' (q + 2) (room D) 5 (0, 0) → Calls Try.prog 21 #[.slice (some ⟨q + 2, 0, none⟩) (n + 70) (n + 70), .int .i64 (n : Int)] w' fun e w'' => e = .returned (.bool true) ∧ Below w'.heap.size w' w'') := fun w' h => behind_any (q + 2) n (n + 70) (n + 70) (room D) (by rw [HRL.out]) (by omega) (by omega) _ _ w' h (fun j h1 h2 => by rw [room_at _ _ (by rw [HD.out]; exact h2), if_neg (by rw [HD.out]; omega)])
        have hpre := fun w => run_pre w (q + 2) n (n + 70) (n + 70) (n : Int) rfl (by omega) (by omega)
        clear h5 rg5 HCX3 HS4
        go_wp2_with (first | (go_at_call 20; refine Calls.mono CS.out ?_; rintro e w6 ⟨rfl, h6, r6⟩; have H6 : Hid (Below q w w6) := h6; have R6 : Hid (RB w6 (q + 2) (room D) 5 (0, 0)) := r6; clear h6 r6) | (go_at_call 21; refine (CB.out w6 R6.out).mono ?_; rintro e w7 ⟨rfl, h7⟩; have H7 : Hid (Below q w w7) := H6.out.trans (h7.mono (by have := H6.out.size; have := HQ.out; omega)); clear h7) | (go_at_call 15; refine (known_any w7).mono ?_; rintro e w8 ⟨rfl, h8⟩; have H8 : Hid (Below q w w8) := H7.out.trans (h8.mono (by have := H7.out.size; have := HQ.out; omega)); clear h8))
        go_ret
        exact ⟨rfl, by rw [HQ.out]; exact H8.out⟩
end Go.Proofs.Ytefnlaookmpbhaa
