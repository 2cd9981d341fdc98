import Derived.Test.YtefnlaookmpbhaaStrU
import Derived.Test.YtefnlaookmpbhaaSxP
namespace Go.Proofs.Ytefnlaookmpbhaa
set_option linter.unusedSimpArgs false
set_option linter.unusedVariables false
open Go.ChangeShapes Go.WideShapes Go.ChangeAt Go.RowKit Go.Pin Go.Str
theorem ks_shift (key : List Nat) (c : Nat) (nonce : List Nat) (a j : Nat) (ha : a % 64 = 0) : ks key (cat c a) nonce j = ks key c nonce (a + j) := by
  unfold ks
  rw [show (cat c a + j / 64) % 4294967296 = (c + (a + j) / 64) % 4294967296 by unfold cat; omega, show (a + j) % 64 = j % 64 by omega]
theorem piece_step (L : List Nat) (key : List Nat) (c : Nat) (nonce : List Nat) (a m : Nat) (ha : a % 64 = 0) : xr (xr L 0 a (ks key c nonce)) a m (ks key (cat c a) nonce) = xr L 0 (a + m) (ks key c nonce) := by
  have := xr_app L 0 a m (ks key c nonce)
  rw [Nat.zero_add] at this
  rw [← this]
  exact xr_congr fun j hj => ks_shift _ _ _ _ _ ha
theorem catk (c a k : Nat) (ha : a % 64 = 0) : ad (cat c a) k = cat c (a + 64 * k) := by unfold ad cat; omega
set_option maxRecDepth 100000 in
set_option maxHeartbeats 8000000 in
theorem pieces_walk (key nonce : List Nat) (c : Nat) (hk : Bs 32 key) (hn : Bs 12 nonce) (hc : c < 4294967296) (D : List Nat) (hDb : ∀ x ∈ D, x < 256) (a : Option Addr) (cap : Nat) (w : World) (rd : Rd w (.slice a D.length cap) D)
    (C : List Int) (a4 : Option Addr) (cap4 : Nat) (hC : ∀ x ∈ C, -9223372036854775808 ≤ x ∧ x < 9223372036854775808) (ri : RdI w a4 C) (hCl : C.length ≤ maxLen) :
    Calls Try.prog 6 #[.agg (VN .u8 key), .int .u32 (c : Int), .agg (VN .u8 nonce), .slice a D.length cap, .slice a4 C.length cap4] w fun e w' => e = .returned (.bool true) ∧ Below w.heap.size w w' := by
  have h0 := ((ev_nil' w).new (.cells (VN .u8 key) 23)).new (.cells (VN .u8 nonce) 26)
  obtain ⟨q, hq⟩ : ∃ q, w.heap.size = q := ⟨_, rfl⟩
  simp only [size_alloc, hq] at h0
  obtain ⟨W0, hW0⟩ : ∃ W, (w.alloc (.cells (VN .u8 key) 23)).alloc (.cells (VN .u8 nonce) 26) = W := ⟨_, rfl⟩
  rw [hW0] at h0
  have HQ : Hid (w.heap.size = q) := hq
  have H0 : Hid (Ev q w (.pointer none) [] [(q + 1, .cells (VN .u8 nonce) 26), (q, .cells (VN .u8 key) 23)] W0) := h0
  have HRD : Hid (∀ w', Below q w w' → Rd w' (.slice a D.length cap) D) := fun w' hb => rd.below (by rw [hq]; exact hb)
  have HRI : Hid (∀ i w', i < C.length → Below q w w' → ∃ b o, a4 = some ⟨b, o, none⟩ ∧ w'.cell? ⟨b, o + i, none⟩ = some (.int .i64 (C.getD i 0)) ∧ -9223372036854775808 ≤ C.getD i 0 ∧ C.getD i 0 < 9223372036854775808) := fun i w' hi hb => by
    rcases ri with e | ⟨b, o, rfl, h⟩
    · rw [e] at hi; simp at hi
    · have c1 := h i hi
      have hb' := hb.block b (by rw [← hq]; exact cell_lt c1)
      have hm : C.getD i 0 ∈ C := by simp [List.getD, List.getElem?_eq_getElem hi]
      exact ⟨b, o, rfl, by rw [World.cell?_of_block (a := ⟨b, o + i, none⟩) hb']; exact c1, hC _ hm⟩
  obtain ⟨n, hD⟩ : ∃ n, D.length = n := ⟨_, rfl⟩
  obtain ⟨m, hCm⟩ : ∃ m, C.length = m := ⟨_, rfl⟩
  have hml : m < 9223372036854775808 := by rw [← hCm]; unfold maxLen at hCl; omega
  rw [hCm] at HRI
  by_cases hbig : 131072 < n
  · clear h0 hk hn hDb rd HRD HRI ri hC
    rw [hD, hCm]
    go_enter Try.func6, Try.ntmps6
    go_wp2
    go_ret
    exact ⟨rfl, by rw [HQ.out]; exact H0.out.old⟩
  · have hn1 : n ≤ 131072 := by omega
    have s0 : W0.heap.size = q + 2 := by rw [← hW0, ← hq]; simp [size_alloc]
    have CR : Hid (Calls Try.prog 16 #[.slice a n cap] W0 fun e w' => e = .returned (.slice (some ⟨q + 2, 0, none⟩) (n + 70) (n + 70)) ∧ Ev q w (.pointer none) [] [(q + 2, .cells (VN .u8 (room D)) 5), (q + 1, .cells (VN .u8 nonce) 26), (q, .cells (VN .u8 key) 23)] w') := by
      have := roomy_any a cap D (by omega) hDb W0 (HRD.out W0 h0.old)
      rw [hD, s0] at this
      refine this.mono ?_
      rintro e w' ⟨he, h1, h2⟩
      exact ⟨he, h0.fresh (by rw [s0]; exact h1) (by rw [s0]; exact Nat.le_refl _) h2.row⟩
    have CR2 : Hid (∀ w1, Ev q w (.pointer none) [] [(q + 2, .cells (VN .u8 (room D)) 5), (q + 1, .cells (VN .u8 nonce) 26), (q, .cells (VN .u8 key) 23)] w1 → Calls Try.prog 16 #[.slice a n cap] w1 fun e w' => e = .returned (.slice (some ⟨w1.heap.size, 0, none⟩) (n + 70) (n + 70)) ∧ Ev q w (.pointer none) [] [(w1.heap.size, .cells (VN .u8 (room D)) 5), (q + 2, .cells (VN .u8 (room D)) 5), (q + 1, .cells (VN .u8 nonce) 26), (q, .cells (VN .u8 key) 23)] w') := fun w1 h1 => by
      have := roomy_any a cap D (by omega) hDb w1 (HRD.out w1 h1.old)
      rw [hD] at this
      refine this.mono ?_
      rintro e w' ⟨he, h2, h3⟩
      exact ⟨he, h1.fresh h2 (Nat.le_refl _) h3.row⟩
    have HKN : Hid (∀ c, c < 4294967296 → Bs 32 key ∧ Bs 12 nonce ∧ c < 4294967296) := fun c hc => ⟨hk, hn, hc⟩
    have HKL : Hid (key.length = 32) := hk.len
    have HNL : Hid (nonce.length = 12) := hn.len
    have HRB : Hid (∀ x ∈ room D, x < 256) := room_bd D hDb
    have HRL : Hid ((room D).length = n + 70) := by rw [← hD]; exact room_len D
    have HD : Hid (D.length = n) := hD
    rw [hD] at HRD
    clear h0 hk hn hDb rd s0 H0 ri hC
    rw [hD, hCm]
    clear hD hCm
    go_enter Try.func6, Try.ntmps6
    go_upto_region 5 with (first | (go_at_call 16; refine Calls.mono CR.out ?_; rintro e w1 ⟨rfl, h1⟩; have H1 : Hid _ := h1; clear h1))
    go_upto_region 6 with (first | (go_at_call 16; refine Calls.mono (CR2.out w1 H1.out) ?_; rintro e W2 ⟨rfl, h2⟩; have H2 : Hid _ := h2; clear h2))
    obtain ⟨z, hz⟩ : ∃ z, w1.heap.size = z := ⟨_, rfl⟩
    have lz : q + 2 < z := by rw [← hz]; exact H1.out.lt (List.mem_cons_self ..)
    rw [hz] at H2 ⊢
    have h2 := H2.out.drew
    have h2' := h2.sub (by' := [(q + 2, .cells (VN .u8 (room D)) 5), (z, .cells (VN .u8 (room D)) 5), (q + 1, .cells (VN .u8 nonce) 26), (q, .cells (VN .u8 key) 23)]) (fun p hp => mem_swap2 hp)
    have CX1 : Hid _ := xor_nil (HKN.out c hc) h2' (fun p hp => by
      simp only [List.mem_cons, List.not_mem_nil, or_false] at hp
      rcases hp with rfl | rfl | rfl
      · show z ≠ q + 2; omega
      · show q + 1 ≠ q + 2; omega
      · show q ≠ q + 2; omega) (.inl rfl) HRB.out 0 n (n + 70) hn1 (by omega) (by rw [HRL.out]; omega)
    have HS1 : Hid (RK W2.drew q key 23 ∧ RK W2.drew (q + 1) nonce 26) := ⟨h2.row (by simp), h2.row (by simp)⟩
    have HA : Hid (n ≤ n + 70 ∧ 0 < n + 70) := ⟨by omega, by omega⟩
    refine wp_as (c' := rgPc6) (by kernel_rfl) ?_
    refine Pc6 (R := fun w' => Ev q w (.pointer none) [] [(q + 2, .cells (VN .u8 (xr (room D) 0 n (ks key c nonce))) 5), (z, .cells (VN .u8 (room D)) 5), (q + 1, .cells (VN .u8 nonce) 26), (q, .cells (VN .u8 key) 23)] w') HKL HNL HA CX1 HS1 (fun w' h => ⟨h.row (by simp), h.row (by simp)⟩) (fun _ _ d _ _ h => by cases d <;> exact h) ?_
    intro w3 h3
    obtain ⟨E, hE⟩ : ∃ E : Nat → World → Prop, ∀ at' w', E at' w' ↔ Ev q w (.pointer none) [] [(z, .cells (VN .u8 (xr (room D) 0 at' (ks key c nonce))) 5), (q + 2, .cells (VN .u8 (xr (room D) 0 n (ks key c nonce))) 5), (q + 1, .cells (VN .u8 nonce) 26), (q, .cells (VN .u8 key) 23)] w' := ⟨_, fun _ _ => Iff.rfl⟩
    have HE3 : Hid (E 0 w3) := by
      show E 0 w3
      rw [hE, xr_zero]
      exact h3.sub (fun p hp => mem_swap2 hp)
    have HXP : Hid (∀ at' te w', at' % 64 = 0 → at' ≤ te → te ≤ n → E at' w' → (RK w'.drew q key 23 ∧ RK w'.drew (q + 1) nonce 26) ∧ Calls Try.prog 17 #[.pointer none, .agg (VN .u8 key), .int .u32 ((cat c at' : Nat) : Int), .agg (VN .u8 nonce), .slice (some ⟨z, at', none⟩) (te - at') (n + 70 - at')] w'.drew fun e w'' => e = .returned (.tuple #[]) ∧ E te w'') := fun at' te w' h1 h2 h3 h => by
      rw [hE] at h
      have h4 := h.drew
      refine ⟨⟨h4.row (by simp), h4.row (by simp)⟩, ?_⟩
      have := xor_nil (HKN.out (cat c at') (cat_lt _ _)) h4 (fun p hp => by
        simp only [List.mem_cons, List.not_mem_nil, or_false] at hp
        rcases hp with rfl | rfl | rfl
        · show q + 2 ≠ z; omega
        · show q + 1 ≠ z; omega
        · show q ≠ z; omega) (.inl rfl) (xr_bd HRB.out (fun j => ks_lt _ _ _ _)) at' (te - at') (n + 70 - at') (by omega) (by omega) (by rw [xr_len, HRL.out]; omega)
      rw [piece_step _ _ _ _ _ _ h1, show at' + (te - at') = te by omega] at this
      refine this.mono ?_
      rintro e w'' ⟨he, h5⟩
      exact ⟨he, (hE _ _).2 h5⟩
    have HEK : Hid (∀ at' w', E at' w' → (RK w' q key 23 ∧ RK w' (q + 1) nonce 26) ∧ Below q w w') := fun at' w' h => by
      rw [hE] at h; exact ⟨⟨h.row (by simp), h.row (by simp)⟩, h.old⟩
    have HFin : Hid (∀ w', E n w' → Calls Try.prog 20 #[.slice (some ⟨q + 2, 0, none⟩) (n + 70) (n + 70), .slice (some ⟨z, 0, none⟩) (n + 70) (n + 70)] w' fun e w'' => e = .returned (.bool true) ∧ Below q w w'' ∧ RB w'' z (xr (room D) 0 n (ks key c nonce)) 5 (0, 0)) := fun w' h => by
      rw [hE] at h
      have bd : ∀ x ∈ xr (room D) 0 n (ks key c nonce), x < 256 := xr_bd HRB.out (fun j => ks_lt _ _ _ _)
      have r1 : RB w' (q + 2) (xr (room D) 0 n (ks key c nonce)) 5 (0, 0) := ⟨h.row (by simp), .inl rfl, bd⟩
      have r2 : RB w' z (xr (room D) 0 n (ks key c nonce)) 5 (0, 0) := ⟨h.row (by simp), .inl rfl, bd⟩
      have l1 : (xr (room D) 0 n (ks key c nonce)).length = n + 70 := by rw [xr_len, HRL.out]
      have d1 := r1.rd 0 (n + 70) (n + 70) (by rw [l1]; omega) (Nat.le_refl _)
      have d2 := r2.rd 0 (n + 70) (n + 70) (by rw [l1]; omega) (Nat.le_refl _)
      refine (same_any _ _ _ (by rw [sub_len _ _ _ (by rw [l1]; omega)]; omega) w' d1 d2).mono ?_
      rintro e w'' ⟨he, hb⟩
      exact ⟨he, (h.below hb).old, r2.below hb⟩
    have CB : Hid (∀ w', RB w' z (xr (room D) 0 n (ks key c nonce)) 5 (0, 0) → Calls Try.prog 21 #[.slice (some ⟨z, 0, none⟩) (n + 70) (n + 70), .int .i64 (n : Int)] w' fun e w'' => e = .returned (.bool true) ∧ Below w'.heap.size w' w'') := fun w' h => behind_any z n (n + 70) (n + 70) _ (by rw [xr_len, HRL.out]) (by omega) (by omega) _ _ w' h (fun j h1 h2 => room_xr D _ n j HD.out.symm h1 (by rw [HD.out]; exact h2))
    have hcat0 := cat0 c hc
    clear h2 h2' h3 CX1 HS1 H2 H1 hE CR CR2
    go_wp2
    go_loopw [1, 14, 15] (fun vc va vi w' => ∃ i t : Nat, i ≤ m ∧ t ≤ n ∧ t % 64 = 0 ∧ vc = .int .u32 ((cat c t : Nat) : Int) ∧ va = .int .i64 (t : Int) ∧ vi = .int .i64 (i : Int) ∧ E t w') (fun _ _ vi _ => m - (intOf vi).toNat)
    case atStart => exact ⟨0, 0, by omega, by omega, rfl, by rw [hcat0], rfl, rfl, HE3.out⟩
    case round =>
      clear HE3 hcat0
      obtain ⟨i, t, hi, ht, ht64, rfl, rfl, rfl, hp⟩ := hrel
      have HP : Hid (E t wr) := hp
      have HT64 : Hid (t % 64 = 0) := ht64
      clear hp ht64
      by_cases h1 : i < m
      · have b1 : (i : Int) < (m : Int) := by omega
        by_cases h2 : i < 100
        · have b2 : (i : Int) < 100 := by omega
          have HRi : Hid (∀ w', Below q w w' → ∃ b o, a4 = some ⟨b, o, none⟩ ∧ w'.cell? ⟨b, o + i, none⟩ = some (.int .i64 (C.getD i 0)) ∧ -9223372036854775808 ≤ C.getD i 0 ∧ C.getD i 0 < 9223372036854775808) := fun w' hb => HRI.out i w' h1 hb
          obtain ⟨b, o, rfl, c1, v1, v2⟩ := HRi.out wr (HEK.out t wr HP.out).2
          generalize C.getD i 0 = v at *
          clear HFin CB
          by_cases h3 : v < 0
          · clear HXP HEK HRI
            go_wp2
            go_roundw
            case rel => exact ⟨i + 1, t, by omega, ht, HT64.out, rfl, rfl, by go_num, HP.out⟩
            case measure => simp [intOf]; omega
          · obtain ⟨d, hd⟩ : ∃ d, (n - t) / 64 = d := ⟨_, rfl⟩
            have e1 : ((n : Int) - (t : Int)).tdiv 64 = (d : Int) := by
              rw [show (n : Int) - (t : Int) = ((n - t : Nat) : Int) by omega, ← hd]; rfl
            have e2 : ((n : Int) - (t : Int)) / 64 = (d : Int) := by omega
            by_cases h4 : (d : Int) < v
            · clear HXP HEK HRI hd
              go_wp2
              go_roundw
              case rel => exact ⟨i + 1, t, by omega, ht, HT64.out, rfl, rfl, by go_num, HP.out⟩
              case measure => simp [intOf]; omega
            · obtain ⟨k, rfl⟩ : ∃ k : Nat, v = (k : Int) := ⟨v.toNat, by omega⟩
              have hkd : t + 64 * k ≤ n := by omega
              have hx := HXP.out t (t + 64 * k) wr HT64.out (by omega) hkd HP.out
              have HSx : Hid _ := hx.1
              have HCx : Hid _ := hx.2
              have HAx : Hid (t ≤ t + 64 * k ∧ t + 64 * k ≤ n + 70 ∧ t < n + 70) := ⟨by omega, by omega, by omega⟩
              have w1 : IntKind.u32.wrap (k : Int) = (k : Int) := by rw [IntKind.wrap_u32']; omega
              have w2 : IntKind.u32.wrap (((cat c t : Nat) : Int) + (k : Int)) = ((cat c (t + 64 * k) : Nat) : Int) := by
                rw [wrap32, catk _ _ _ HT64.out]
              have w3 : ((t + 64 * k : Nat) : Int) = (t : Int) + 64 * (k : Int) := by omega
              clear hx HXP
              go_upto_region 13 with fail
              rw [← w3]
              refine wp_as (c' := rgPc13) (by kernel_rfl) ?_
              refine Pc13 (R := fun w' => E (t + 64 * k) w') HKL HNL HAx HCx HSx (fun w' h => (HEK.out _ w' h).1) (fun _ _ d _ _ h => by cases d <;> exact h) ?_
              intro w5 h5
              obtain ⟨b', o', e5, c5, _, _⟩ := HRi.out w5 (HEK.out _ w5 h5).2
              injection e5 with e5
              injection e5 with e5 e6
              subst e5
              subst e6
              have H5 : Hid (E (t + 64 * k) w5) := h5
              have cl := cat_lt c t
              have cl2 := cat_lt c (t + 64 * k)
              clear h5 HCx HSx HEK HRI HRi HP w3 e1 e2 c1
              generalize hcn : cat c (t + 64 * k) = cn at *
              have HCN : Hid (cat c (t + 64 * k) = cn) := hcn
              clear hcn
              generalize cat c t = co at *
              go_wp2
              go_roundw
              case rel => exact ⟨i + 1, t + 64 * k, by omega, hkd, by have := HT64.out; omega, by rw [HCN.out], rfl, by go_num, H5.out⟩
              case measure => simp [intOf]; omega
        · have b2 : ¬ (i : Int) < 100 := by omega
          have hx := HXP.out t n wr HT64.out ht (Nat.le_refl _) HP.out
          have HSx : Hid _ := hx.1
          have HCx : Hid _ := hx.2
          have HAx : Hid (t ≤ n ∧ n ≤ n + 70 ∧ t < n + 70) := ⟨ht, by omega, by omega⟩
          clear hx HXP
          go_upto_region 16 with fail
          refine wp_as (c' := rgPc16) (by kernel_rfl) ?_
          refine Pc16 (R := fun w' => E n w') HKL HNL HAx HCx HSx (fun w' h => (HEK.out n w' h).1) (fun _ _ d _ _ h => by cases d <;> exact h) ?_
          intro w5 h5
          have CS : Hid _ := HFin.out w5 h5
          clear h5 HCx HSx HP HFin HEK
          go_wp2_with (first | (go_at_call 20; refine Calls.mono CS.out ?_; rintro e w6 ⟨rfl, h6, r6⟩; have H6 : Hid (Below q w w6) := h6; have R6 : Hid (RB w6 z (xr (room D) 0 n (ks key c nonce)) 5 (0, 0)) := r6; clear h6 r6) | (go_at_call 21; refine (CB.out w6 R6.out).mono ?_; rintro e w7 ⟨rfl, h7⟩; have H7 : Hid (Below q w w7) := H6.out.trans (h7.mono (by have := H6.out.size; have := HQ.out; omega)); clear h7) | (go_at_call 15; refine (known_any w7).mono ?_; rintro e w8 ⟨rfl, h8⟩; have H8 : Hid (Below q w w8) := H7.out.trans (h8.mono (by have := H7.out.size; have := HQ.out; omega)); clear h8))
          go_ret
          exact ⟨rfl, by rw [HQ.out]; exact H8.out⟩
      · have b1 : ¬ (i : Int) < (m : Int) := by omega
        have hx := HXP.out t n wr HT64.out ht (Nat.le_refl _) HP.out
        have HSx : Hid _ := hx.1
        have HCx : Hid _ := hx.2
        have HAx : Hid (t ≤ n ∧ n ≤ n + 70 ∧ t < n + 70) := ⟨ht, by omega, by omega⟩
        clear hx HXP
        go_upto_region 16 with fail
        refine wp_as (c' := rgPc16) (by kernel_rfl) ?_
        refine Pc16 (R := fun w' => E n w') HKL HNL HAx HCx HSx (fun w' h => (HEK.out n w' h).1) (fun _ _ d _ _ h => by cases d <;> exact h) ?_
        intro w5 h5
        have CS : Hid _ := HFin.out w5 h5
        clear h5 HCx HSx HP HFin HEK
        go_wp2_with (first | (go_at_call 20; refine Calls.mono CS.out ?_; rintro e w6 ⟨rfl, h6, r6⟩; have H6 : Hid (Below q w w6) := h6; have R6 : Hid (RB w6 z (xr (room D) 0 n (ks key c nonce)) 5 (0, 0)) := r6; clear h6 r6) | (go_at_call 21; refine (CB.out w6 R6.out).mono ?_; rintro e w7 ⟨rfl, h7⟩; have H7 : Hid (Below q w w7) := H6.out.trans (h7.mono (by have := H6.out.size; have := HQ.out; omega)); clear h7) | (go_at_call 15; refine (known_any w7).mono ?_; rintro e w8 ⟨rfl, h8⟩; have H8 : Hid (Below q w w8) := H7.out.trans (h8.mono (by have := H7.out.size; have := HQ.out; omega)); clear h8))
        go_ret
        exact ⟨rfl, by rw [HQ.out]; exact H8.out⟩
end Go.Proofs.Ytefnlaookmpbhaa
