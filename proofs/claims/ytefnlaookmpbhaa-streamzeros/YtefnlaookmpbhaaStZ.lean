import Derived.Test.YtefnlaookmpbhaaStrS
namespace Go.Proofs.Ytefnlaookmpbhaa
set_option linter.unusedSimpArgs false
set_option linter.unusedVariables false
open Go.ChangeShapes Go.WideShapes Go.ChangeAt Go.RowKit Go.Pin Go.Str
theorem zeros_eq (key : List Nat) (c : Nat) (nonce : List Nat) (n : Nat) (hn : n ≤ 64) : sub (xr (List.replicate n 0) 0 n (ks key c nonce)) 0 n = sub (kb key c nonce) 0 n := by
  have l1 : (sub (xr (List.replicate n 0) 0 n (ks key c nonce)) 0 n).length = n := sub_len _ _ _ (by rw [xr_len, List.length_replicate]; omega)
  have l2 : (sub (kb key c nonce) 0 n).length = n := sub_len _ _ _ (by rw [kb_len]; omega)
  apply list_ext (by rw [l1, l2])
  intro j hj
  rw [l1] at hj
  rw [sub_at _ _ _ _ hj, sub_at _ _ _ _ hj, xr_at _ _ _ _ _ (by rw [List.length_replicate]; omega), if_pos (by omega), rep_at, Nat.zero_xor, kb_at _ _ _ _ (by omega), Nat.sub_zero]
set_option maxRecDepth 100000 in
set_option maxHeartbeats 8000000 in
theorem zeros_walk (key nonce : List Nat) (c : Nat) (hk : Bs 32 key) (hn : Bs 12 nonce) (hc : c < 4294967296) (a : Int) (w : World) :
    Calls Try.prog 7 #[.agg (VN .u8 key), .int .u32 (c : Int), .agg (VN .u8 nonce), .int .i64 a] w fun e w' => e = .returned (.bool true) ∧ Below w.heap.size w w' := by
  obtain ⟨n, hnn, hna⟩ : ∃ n : Nat, n ≤ 64 ∧ (if a < 0 ∨ 64 < a then (64 : Int) else a) = (n : Int) := by
    by_cases h : a < 0 ∨ 64 < a
    · exact ⟨64, Nat.le_refl _, by rw [if_pos h]; rfl⟩
    · exact ⟨a.toNat, by omega, by rw [if_neg h]; omega⟩
  have h0 := ((ev_nil' w).new (.cells (VN .u8 key) 23)).new (.cells (VN .u8 nonce) 26)
  obtain ⟨q, hq⟩ : ∃ q, w.heap.size = q := ⟨_, rfl⟩
  simp only [size_alloc, hq] at h0
  obtain ⟨W0, hW0⟩ : ∃ W, (w.alloc (.cells (VN .u8 key) 23)).alloc (.cells (VN .u8 nonce) 26) = W := ⟨_, rfl⟩
  rw [hW0] at h0
  have HK0 : Hid (RK W0 q key 23) := h0.row (by simp)
  have HN0 : Hid (RK W0 (q + 1) nonce 26) := h0.row (by simp)
  have CB : Hid (Calls Try.prog 11 #[.pointer none, .agg (VN .u8 key), .int .u32 (c : Int), .agg (VN .u8 nonce)] W0 fun e w' => e = .returned (.agg (VN .u8 (kb key c nonce))) ∧ Ev q w (.pointer none) ([] ++ [(3, 22)]) [(q + 1, .cells (VN .u8 nonce) 26), (q, .cells (VN .u8 key) 23)] w') := block_any h0 (by simp) key nonce c hk hn hc
  have HIK : Hid ((Try.prog.info? 23).map (·.size) = some (VN .u8 key).size) := infoK hk.len
  have HIN : Hid ((Try.prog.info? 26).map (·.size) = some (VN .u8 nonce).size) := infoNn hn.len
  have HKN : Hid (Bs 32 key ∧ Bs 12 nonce ∧ c < 4294967296) := ⟨hk, hn, hc⟩
  have HQ : Hid (w.heap.size = q) := hq
  have HZE : Hid (sub (xr (List.replicate n 0) 0 n (ks key c nonce)) 0 n = sub (kb key c nonce) 0 n) := zeros_eq key c nonce n hnn
  have HBB : Hid ((kb key c nonce).length = 64 ∧ (∀ x ∈ kb key c nonce, x < 256)) := ⟨kb_len _ _ _, kb_bd _ _ _⟩
  clear h0 hk hn
  obtain ⟨kbs, hkb⟩ : ∃ x, kb key c nonce = x := ⟨_, rfl⟩
  rw [hkb] at CB HZE HBB
  clear hkb
  by_cases h1 : a < 0
  · have HV : Hid ((64 : Int) = (n : Int)) := by rw [if_pos (.inl h1)] at hna; exact hna
    clear hna
    go_enter Try.func7, Try.ntmps7
    have hmk := fun w => mk_b n 64 HV.out (by omega) w
    go_wp2_with (first | (go_at_call 11; refine Calls.mono CB.out ?_; rintro e w3 ⟨rfl, h3⟩; have H3 : Hid _ := h3; clear h3) | (with_reducible refine at_list ?_; first | (refine wpList_load_row rfl 23 (.tmp 4) rfl q rfl 23 (VN .u8 key) (0, 0) _ HK0.out Try.underlying23 rfl HIK.out ?_) | (refine wpList_load_row rfl 26 (.tmp 6) rfl (q + 1) rfl 26 (VN .u8 nonce) (0, 0) _ HN0.out Try.underlying26 rfl HIN.out ?_) | (refine hold_store 29 (.tmp 9) (.tmp 20) rfl ?_)))
    refine store_row_new rfl 29 (.tmp 9) (.tmp 20) rfl w3.heap.size (VN .u8 kbs) rfl rfl rfl 29 (VN .u8 (List.replicate 64 0)) (infoB HBB.out.1) (by rw [VN_size, VN_size, HBB.out.1, List.length_replicate]) (VN_one _ _) ?_
    have h4 := (H3.out.nilOf []).new (.cells (VN .u8 kbs) 29)
    obtain ⟨W4, hW4⟩ : ∃ W, w3.alloc (.cells (VN .u8 kbs) 29) = W := ⟨_, rfl⟩
    obtain ⟨m, hm⟩ : ∃ m, w3.heap.size = m := ⟨_, rfl⟩
    rw [hW4, hm] at h4 ⊢
    have h5 := h4.new (.cells (VN .u8 (List.replicate n 0)) 5)
    obtain ⟨g, hg⟩ : ∃ m, W4.heap.size = m := ⟨_, rfl⟩
    obtain ⟨W5, hW5⟩ : ∃ W, W4.alloc (.cells (VN .u8 (List.replicate n 0)) 5) = W := ⟨_, rfl⟩
    have hmk4 := hmk W4
    rw [hW5, hg] at hmk4
    rw [hW5, hg] at h5
    have l1 : m < g := by rw [← hg]; exact h4.lt (List.mem_cons_self ..)
    have l2 : q + 1 < g := by rw [← hg]; exact h4.lt (g := q + 1) (x := .cells (VN .u8 nonce) 26) (by simp)
    have HK5 : Hid (RK W5 q key 23) := h5.row (by simp)
    have HN5 : Hid (RK W5 (q + 1) nonce 26) := h5.row (by simp)
    have CX : Hid _ := xor_any { B := q, w := w, rv := .pointer none, l := [], key := key, c := c, nonce := nonce, g := g, L := List.replicate n 0, T := 5, fr := (0, 0), o := 0, bx := _ } n n
      ⟨HKN.out.1, HKN.out.2.1, HKN.out.2.2, fun p hp => by
        simp only [List.mem_cons, List.not_mem_nil, or_false] at hp
        rcases hp with rfl | rfl | rfl
        · show m ≠ g; omega
        · show q + 1 ≠ g; omega
        · show q ≠ g; omega, .inl rfl, rep_bd _, by simp, by simp⟩ (by omega) (Nat.le_refl _) W5 h5
    dsimp only at CX
    have hup := fun w => run_upto w 29 64 m n 64 HV.out (by decide) hnn Try.underlying29
    have HSM : Hid (∀ w', Ev q w (.pointer none) ([] ++ xlog n) ((g, .cells (VN .u8 (xr (List.replicate n 0) 0 n (ks key c nonce))) 5 (0, 0)) :: [(m, .cells (VN .u8 kbs) 29), (q + 1, .cells (VN .u8 nonce) 26), (q, .cells (VN .u8 key) 23)]) w' → Calls Try.prog 20 #[.slice (some ⟨g, 0, none⟩) n n, .slice (some ⟨m, 0, none⟩) n 64] w' fun e w'' => e = .returned (.bool true) ∧ Below q w w'') := fun w' h => by
      have rg : RB w' g (xr (List.replicate n 0) 0 n (ks key c nonce)) 5 (0, 0) := ⟨h.row (by simp), .inl rfl, xr_bd (rep_bd _) (fun j => ks_lt _ _ _ _)⟩
      have rm : RB w' m kbs 29 (0, 0) := ⟨h.row (by simp), .inl rfl, HBB.out.2⟩
      have d1 := rg.rd 0 n n (by rw [xr_len, List.length_replicate]; omega) (Nat.le_refl _)
      have d2 := rm.rd 0 n 64 (by rw [HBB.out.1]; omega) hnn
      rw [HZE.out] at d1
      refine (same_any _ _ _ (by rw [sub_len _ _ _ (by rw [HBB.out.1]; omega)]; omega) w' d1 d2).mono ?_
      rintro e w'' ⟨he, hb⟩
      exact ⟨he, (h.below hb).old⟩
    clear h4 h5 hW4 hW5 H3 CB HK0 HN0 hmk
    go_wp2_with (first | (go_at_call 17; refine Calls.mono CX.out ?_; rintro e w6 ⟨rfl, h6⟩; have HS6 : Hid _ := HSM.out w6 h6; clear h6) | (go_at_call 20; refine Calls.mono HS6.out ?_; rintro e w7 ⟨rfl, h7⟩; have H7 : Hid (Below q w w7) := h7; clear h7) | (go_at_call 15; refine (known_any w7).mono ?_; rintro e w8 ⟨rfl, h8⟩; have H8 : Hid (Below q w w8) := H7.out.trans (h8.mono (by have := H7.out.size; have := HQ.out; omega)); clear h8) | (with_reducible refine at_list ?_; first | (refine wpList_load_row rfl 23 (.tmp 4) rfl q rfl 23 (VN .u8 key) (0, 0) _ HK5.out Try.underlying23 rfl HIK.out ?_) | (refine wpList_load_row rfl 26 (.tmp 6) rfl (q + 1) rfl 26 (VN .u8 nonce) (0, 0) _ HN5.out Try.underlying26 rfl HIN.out ?_)))
    go_ret
    exact ⟨rfl, by rw [HQ.out]; exact H8.out⟩
  · by_cases h2 : 64 < a
    · have HV : Hid ((64 : Int) = (n : Int)) := by rw [if_pos (.inr h2)] at hna; exact hna
      clear hna
      go_enter Try.func7, Try.ntmps7
      have hmk := fun w => mk_b n 64 HV.out (by omega) w
      go_wp2_with (first | (go_at_call 11; refine Calls.mono CB.out ?_; rintro e w3 ⟨rfl, h3⟩; have H3 : Hid _ := h3; clear h3) | (with_reducible refine at_list ?_; first | (refine wpList_load_row rfl 23 (.tmp 4) rfl q rfl 23 (VN .u8 key) (0, 0) _ HK0.out Try.underlying23 rfl HIK.out ?_) | (refine wpList_load_row rfl 26 (.tmp 6) rfl (q + 1) rfl 26 (VN .u8 nonce) (0, 0) _ HN0.out Try.underlying26 rfl HIN.out ?_) | (refine hold_store 29 (.tmp 9) (.tmp 20) rfl ?_)))
      refine store_row_new rfl 29 (.tmp 9) (.tmp 20) rfl w3.heap.size (VN .u8 kbs) rfl rfl rfl 29 (VN .u8 (List.replicate 64 0)) (infoB HBB.out.1) (by rw [VN_size, VN_size, HBB.out.1, List.length_replicate]) (VN_one _ _) ?_
      have h4 := (H3.out.nilOf []).new (.cells (VN .u8 kbs) 29)
      obtain ⟨W4, hW4⟩ : ∃ W, w3.alloc (.cells (VN .u8 kbs) 29) = W := ⟨_, rfl⟩
      obtain ⟨m, hm⟩ : ∃ m, w3.heap.size = m := ⟨_, rfl⟩
      rw [hW4, hm] at h4 ⊢
      have h5 := h4.new (.cells (VN .u8 (List.replicate n 0)) 5)
      obtain ⟨g, hg⟩ : ∃ m, W4.heap.size = m := ⟨_, rfl⟩
      obtain ⟨W5, hW5⟩ : ∃ W, W4.alloc (.cells (VN .u8 (List.replicate n 0)) 5) = W := ⟨_, rfl⟩
      have hmk4 := hmk W4
      rw [hW5, hg] at hmk4
      rw [hW5, hg] at h5
      have l1 : m < g := by rw [← hg]; exact h4.lt (List.mem_cons_self ..)
      have l2 : q + 1 < g := by rw [← hg]; exact h4.lt (g := q + 1) (x := .cells (VN .u8 nonce) 26) (by simp)
      have HK5 : Hid (RK W5 q key 23) := h5.row (by simp)
      have HN5 : Hid (RK W5 (q + 1) nonce 26) := h5.row (by simp)
      have CX : Hid _ := xor_any { B := q, w := w, rv := .pointer none, l := [], key := key, c := c, nonce := nonce, g := g, L := List.replicate n 0, T := 5, fr := (0, 0), o := 0, bx := _ } n n
        ⟨HKN.out.1, HKN.out.2.1, HKN.out.2.2, fun p hp => by
          simp only [List.mem_cons, List.not_mem_nil, or_false] at hp
          rcases hp with rfl | rfl | rfl
          · show m ≠ g; omega
          · show q + 1 ≠ g; omega
          · show q ≠ g; omega, .inl rfl, rep_bd _, by simp, by simp⟩ (by omega) (Nat.le_refl _) W5 h5
      dsimp only at CX
      have hup := fun w => run_upto w 29 64 m n 64 HV.out (by decide) hnn Try.underlying29
      have HSM : Hid (∀ w', Ev q w (.pointer none) ([] ++ xlog n) ((g, .cells (VN .u8 (xr (List.replicate n 0) 0 n (ks key c nonce))) 5 (0, 0)) :: [(m, .cells (VN .u8 kbs) 29), (q + 1, .cells (VN .u8 nonce) 26), (q, .cells (VN .u8 key) 23)]) w' → Calls Try.prog 20 #[.slice (some ⟨g, 0, none⟩) n n, .slice (some ⟨m, 0, none⟩) n 64] w' fun e w'' => e = .returned (.bool true) ∧ Below q w w'') := fun w' h => by
        have rg : RB w' g (xr (List.replicate n 0) 0 n (ks key c nonce)) 5 (0, 0) := ⟨h.row (by simp), .inl rfl, xr_bd (rep_bd _) (fun j => ks_lt _ _ _ _)⟩
        have rm : RB w' m kbs 29 (0, 0) := ⟨h.row (by simp), .inl rfl, HBB.out.2⟩
        have d1 := rg.rd 0 n n (by rw [xr_len, List.length_replicate]; omega) (Nat.le_refl _)
        have d2 := rm.rd 0 n 64 (by rw [HBB.out.1]; omega) hnn
        rw [HZE.out] at d1
        refine (same_any _ _ _ (by rw [sub_len _ _ _ (by rw [HBB.out.1]; omega)]; omega) w' d1 d2).mono ?_
        rintro e w'' ⟨he, hb⟩
        exact ⟨he, (h.below hb).old⟩
      clear h4 h5 hW4 hW5 H3 CB HK0 HN0 hmk
      go_wp2_with (first | (go_at_call 17; refine Calls.mono CX.out ?_; rintro e w6 ⟨rfl, h6⟩; have HS6 : Hid _ := HSM.out w6 h6; clear h6) | (go_at_call 20; refine Calls.mono HS6.out ?_; rintro e w7 ⟨rfl, h7⟩; have H7 : Hid (Below q w w7) := h7; clear h7) | (go_at_call 15; refine (known_any w7).mono ?_; rintro e w8 ⟨rfl, h8⟩; have H8 : Hid (Below q w w8) := H7.out.trans (h8.mono (by have := H7.out.size; have := HQ.out; omega)); clear h8) | (with_reducible refine at_list ?_; first | (refine wpList_load_row rfl 23 (.tmp 4) rfl q rfl 23 (VN .u8 key) (0, 0) _ HK5.out Try.underlying23 rfl HIK.out ?_) | (refine wpList_load_row rfl 26 (.tmp 6) rfl (q + 1) rfl 26 (VN .u8 nonce) (0, 0) _ HN5.out Try.underlying26 rfl HIN.out ?_)))
      go_ret
      exact ⟨rfl, by rw [HQ.out]; exact H8.out⟩
    · have HV : Hid (a = (n : Int)) := by rw [if_neg (by omega)] at hna; exact hna
      clear hna
      go_enter Try.func7, Try.ntmps7
      have hmk := fun w => mk_b n a HV.out (by omega) w
      go_wp2_with (first | (go_at_call 11; refine Calls.mono CB.out ?_; rintro e w3 ⟨rfl, h3⟩; have H3 : Hid _ := h3; clear h3) | (with_reducible refine at_list ?_; first | (refine wpList_load_row rfl 23 (.tmp 4) rfl q rfl 23 (VN .u8 key) (0, 0) _ HK0.out Try.underlying23 rfl HIK.out ?_) | (refine wpList_load_row rfl 26 (.tmp 6) rfl (q + 1) rfl 26 (VN .u8 nonce) (0, 0) _ HN0.out Try.underlying26 rfl HIN.out ?_) | (refine hold_store 29 (.tmp 9) (.tmp 20) rfl ?_)))
      refine store_row_new rfl 29 (.tmp 9) (.tmp 20) rfl w3.heap.size (VN .u8 kbs) rfl rfl rfl 29 (VN .u8 (List.replicate 64 0)) (infoB HBB.out.1) (by rw [VN_size, VN_size, HBB.out.1, List.length_replicate]) (VN_one _ _) ?_
      have h4 := (H3.out.nilOf []).new (.cells (VN .u8 kbs) 29)
      obtain ⟨W4, hW4⟩ : ∃ W, w3.alloc (.cells (VN .u8 kbs) 29) = W := ⟨_, rfl⟩
      obtain ⟨m, hm⟩ : ∃ m, w3.heap.size = m := ⟨_, rfl⟩
      rw [hW4, hm] at h4 ⊢
      have h5 := h4.new (.cells (VN .u8 (List.replicate n 0)) 5)
      obtain ⟨g, hg⟩ : ∃ m, W4.heap.size = m := ⟨_, rfl⟩
      obtain ⟨W5, hW5⟩ : ∃ W, W4.alloc (.cells (VN .u8 (List.replicate n 0)) 5) = W := ⟨_, rfl⟩
      have hmk4 := hmk W4
      rw [hW5, hg] at hmk4
      rw [hW5, hg] at h5
      have l1 : m < g := by rw [← hg]; exact h4.lt (List.mem_cons_self ..)
      have l2 : q + 1 < g := by rw [← hg]; exact h4.lt (g := q + 1) (x := .cells (VN .u8 nonce) 26) (by simp)
      have HK5 : Hid (RK W5 q key 23) := h5.row (by simp)
      have HN5 : Hid (RK W5 (q + 1) nonce 26) := h5.row (by simp)
      have CX : Hid _ := xor_any { B := q, w := w, rv := .pointer none, l := [], key := key, c := c, nonce := nonce, g := g, L := List.replicate n 0, T := 5, fr := (0, 0), o := 0, bx := _ } n n
        ⟨HKN.out.1, HKN.out.2.1, HKN.out.2.2, fun p hp => by
          simp only [List.mem_cons, List.not_mem_nil, or_false] at hp
          rcases hp with rfl | rfl | rfl
          · show m ≠ g; omega
          · show q + 1 ≠ g; omega
          · show q ≠ g; omega, .inl rfl, rep_bd _, by simp, by simp⟩ (by omega) (Nat.le_refl _) W5 h5
      dsimp only at CX
      have hup := fun w => run_upto w 29 64 m n a HV.out (by decide) hnn Try.underlying29
      have HSM : Hid (∀ w', Ev q w (.pointer none) ([] ++ xlog n) ((g, .cells (VN .u8 (xr (List.replicate n 0) 0 n (ks key c nonce))) 5 (0, 0)) :: [(m, .cells (VN .u8 kbs) 29), (q + 1, .cells (VN .u8 nonce) 26), (q, .cells (VN .u8 key) 23)]) w' → Calls Try.prog 20 #[.slice (some ⟨g, 0, none⟩) n n, .slice (some ⟨m, 0, none⟩) n 64] w' fun e w'' => e = .returned (.bool true) ∧ Below q w w'') := fun w' h => by
        have rg : RB w' g (xr (List.replicate n 0) 0 n (ks key c nonce)) 5 (0, 0) := ⟨h.row (by simp), .inl rfl, xr_bd (rep_bd _) (fun j => ks_lt _ _ _ _)⟩
        have rm : RB w' m kbs 29 (0, 0) := ⟨h.row (by simp), .inl rfl, HBB.out.2⟩
        have d1 := rg.rd 0 n n (by rw [xr_len, List.length_replicate]; omega) (Nat.le_refl _)
        have d2 := rm.rd 0 n 64 (by rw [HBB.out.1]; omega) hnn
        rw [HZE.out] at d1
        refine (same_any _ _ _ (by rw [sub_len _ _ _ (by rw [HBB.out.1]; omega)]; omega) w' d1 d2).mono ?_
        rintro e w'' ⟨he, hb⟩
        exact ⟨he, (h.below hb).old⟩
      clear h4 h5 hW4 hW5 H3 CB HK0 HN0 hmk
      go_wp2_with (first | (go_at_call 17; refine Calls.mono CX.out ?_; rintro e w6 ⟨rfl, h6⟩; have HS6 : Hid _ := HSM.out w6 h6; clear h6) | (go_at_call 20; refine Calls.mono HS6.out ?_; rintro e w7 ⟨rfl, h7⟩; have H7 : Hid (Below q w w7) := h7; clear h7) | (go_at_call 15; refine (known_any w7).mono ?_; rintro e w8 ⟨rfl, h8⟩; have H8 : Hid (Below q w w8) := H7.out.trans (h8.mono (by have := H7.out.size; have := HQ.out; omega)); clear h8) | (with_reducible refine at_list ?_; first | (refine wpList_load_row rfl 23 (.tmp 4) rfl q rfl 23 (VN .u8 key) (0, 0) _ HK5.out Try.underlying23 rfl HIK.out ?_) | (refine wpList_load_row rfl 26 (.tmp 6) rfl (q + 1) rfl 26 (VN .u8 nonce) (0, 0) _ HN5.out Try.underlying26 rfl HIN.out ?_)))
      go_ret
      exact ⟨rfl, by rw [HQ.out]; exact H8.out⟩
end Go.Proofs.Ytefnlaookmpbhaa
