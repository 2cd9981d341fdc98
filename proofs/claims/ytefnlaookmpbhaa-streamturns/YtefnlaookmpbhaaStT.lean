import Derived.Test.YtefnlaookmpbhaaRsE
import Derived.Test.YtefnlaookmpbhaaRsF
import Derived.Test.YtefnlaookmpbhaaSxT
import Derived.Test.YtefnlaookmpbhaaStrW
namespace Go.Proofs.Ytefnlaookmpbhaa
set_option linter.unusedSimpArgs false
set_option linter.unusedVariables false
open Go.ChangeShapes Go.WideShapes Go.ChangeAt Go.RowKit Go.Pin Go.Str
theorem wpList_append_run {P : Program} (w : World) {ops : Array Oper} {rest : List Oper} {o : Oper} {a : Act} {Q : Exit → Act → World → Prop} (hgd : o.guard = none) (d s : Operand) (t t' : TypeId)
    (ho : o.op = .call { callee := .builtin .append, args := #[d, s], argTypes := #[t, t'] }) (v u : Value) (hd : a.eval d = v) (hs : a.eval s = u) {v' : Value} {w' : World}
    (hr : (Builtin.append_ #[t, t'] o.type #[v, u]).run P w = .ok v' w') (h : wpList P ops Q rest (a.put o.dst v') w') : wpList P ops Q (o :: rest) a w :=
  wpList_plain hgd fun _ hK => by
    unfold Oper.wp execOp
    simp only [ho, resolve, invoke, builtin, Sem.run_bind, Sem.run_pure, Result.andThen_ok, List.map_toArray, List.map_cons, List.map_nil, hd, hs, hr]
    exact hK _ _ h
theorem sub_xl (D : List Nat) (f : Nat → Nat) (n : Nat) (hn : D.length = n) : sub (xr (room D) 0 n f) 0 n = xl D f n := by
  have l1 : (sub (xr (room D) 0 n f) 0 n).length = n := sub_len _ _ _ (by rw [xr_len, room_len]; omega)
  apply list_ext (by rw [l1, xl_len])
  intro j hj
  rw [l1] at hj
  rw [sub_at _ _ _ _ hj, xl_at _ _ _ _ hj, Nat.zero_add, xr_at _ _ _ _ _ (by rw [room_len]; omega), if_pos (by omega), room_at _ _ (by omega), if_pos (by omega), Nat.sub_zero]
theorem Ev.xorNil {q : Nat} {w : World} {R : Nat} {l : List (Int × Int)} {bx : List (Nat × Obj)} {W : World} {key nonce : List Nat} {c : Nat} (hkn : Bs 32 key ∧ Bs 12 nonce ∧ c < 4294967296) {g : Nat} {L : List Nat} {T : TypeId} {fr : Nat × Nat} (h : Ev q w (.pointer (some ⟨R, 0, none⟩)) l ((g, .cells (VN .u8 L) T fr) :: bx) W) (hne : ∀ p ∈ bx, p.1 ≠ g) (hf : fr = (0, 0) ∨ L.length ≤ fr.1) (hL : ∀ y ∈ L, y < 256) (o n cap : Nat) (hn : n ≤ 131072) (hcap : n ≤ cap) (ho : o + n ≤ L.length) :
    Calls Try.prog 17 #[.pointer none, .agg (VN .u8 key), .int .u32 (c : Int), .agg (VN .u8 nonce), .slice (some ⟨g, o, none⟩) n cap] W fun e w' => e = .returned (.tuple #[]) ∧ Ev q w (.pointer (some ⟨R, 0, none⟩)) l ((g, .cells (VN .u8 (xr L o n (ks key c nonce))) T fr) :: bx) w' := by
  obtain ⟨vs, r1, r2⟩ := h.recOf
  obtain ⟨bl, c1, c2⟩ := blk_list r1
  have hE : Ev q w (.pointer none) [] ((g, .cells (VN .u8 L) T fr) :: (bl ++ bx)) W := by
    refine ⟨h.old, h.le, fun p hp => ?_, fun p hp => ?_, .inl rfl⟩
    · rcases List.mem_cons.1 hp with rfl | hp
      · exact h.ge _ (List.mem_cons_self ..)
      · rcases List.mem_append.1 hp with hp | hp
        · exact r1.ge _ (c2 p hp).1
        · exact h.ge p (List.mem_cons_of_mem _ hp)
    · rcases List.mem_cons.1 hp with rfl | hp
      · exact h.at' _ (List.mem_cons_self ..)
      · rcases List.mem_append.1 hp with hp | hp
        · exact (c2 p hp).2
        · exact h.at' p (List.mem_cons_of_mem _ hp)
  refine (xor_nil hkn hE (fun p hp => ?_) hf hL o n cap hn hcap ho).mono ?_
  · rcases List.mem_append.1 hp with hp | hp
    · intro e
      exact r2 (g, .cells (VN .u8 L) T fr) (List.mem_cons_self ..) (e ▸ (c2 p hp).1)
    · exact hne p hp
  · rintro e w' ⟨he, h'⟩
    refine ⟨he, h'.old, h'.le, fun p hp => ?_, fun p hp => ?_, .inr ⟨R, vs, rfl, rec_of_eq r1 (fun k hk => ?_), fun p hp => ?_⟩⟩
    · rcases List.mem_cons.1 hp with rfl | hp
      · exact h'.ge _ (List.mem_cons_self ..)
      · exact h.ge p (List.mem_cons_of_mem _ hp)
    · rcases List.mem_cons.1 hp with rfl | hp
      · exact h'.at' _ (List.mem_cons_self ..)
      · exact h'.at' p (List.mem_cons_of_mem _ (List.mem_append_right _ hp))
    · obtain ⟨ob, hob⟩ := c1 k hk
      rw [h'.row (List.mem_cons_of_mem _ (List.mem_append_left _ hob)), (c2 _ hob).2]
    · rcases List.mem_cons.1 hp with rfl | hp
      · exact r2 (g, .cells (VN .u8 L) T fr) (List.mem_cons_self ..)
      · exact r2 p (List.mem_cons_of_mem _ hp)
/-- the first i bytes anew -/
def wT (D2 M : List Nat) (i : Nat) : List Nat := (List.range M.length).map fun j => if j < i then D2.getD j 0 else M.getD j 0
theorem wT_len (D2 M : List Nat) (i : Nat) : (wT D2 M i).length = M.length := by simp [wT]
theorem wT_at (D2 M : List Nat) (i j : Nat) (hj : j < M.length) : (wT D2 M i).getD j 0 = if j < i then D2.getD j 0 else M.getD j 0 := by
  simp only [wT, List.getD, List.getElem?_map, List.getElem?_range hj, Option.map_some, Option.getD_some]
theorem wT_zero (D2 M : List Nat) : wT D2 M 0 = M := by
  apply list_ext (wT_len _ _ _)
  intro j hj
  rw [wT_len] at hj
  rw [wT_at _ _ _ _ hj, if_neg (by omega)]
theorem wT_set (D2 M : List Nat) (i : Nat) (hi : i < M.length) : (wT D2 M i).set i (D2.getD i 0) = wT D2 M (i + 1) := by
  apply list_ext (by simp [wT_len])
  intro p hp
  simp only [List.length_set, wT_len] at hp
  by_cases e : p = i
  · subst e
    rw [getD_set_eq _ _ _ (by rw [wT_len]; exact hp), wT_at _ _ _ _ hp, if_pos (by omega)]
  · rw [getD_set_ne _ _ _ _ (fun h => e h.symm), wT_at _ _ _ _ hp, wT_at _ _ _ _ hp]
    by_cases h : p < i
    · simp only [h, show p < i + 1 by omega, if_true]
    · simp only [h, show ¬ p < i + 1 by omega, if_false]
theorem wT_full (D D2 : List Nat) (f : Nat → Nat) (n : Nat) (h1 : D.length = n) (h2 : D2.length = n) : wT D2 (xr (room D) 0 n f) n = room D2 := by
  apply list_ext (by rw [wT_len, xr_len, room_len, room_len, h1, h2])
  intro j hj
  rw [wT_len, xr_len, room_len, h1] at hj
  rw [wT_at _ _ _ _ (by rw [xr_len, room_len, h1]; exact hj), room_at _ _ (by rw [h2]; exact hj), h2]
  by_cases h : j < n
  · rw [if_pos h, if_pos h]
  · rw [if_neg h, if_neg h, room_xr D f n j h1.symm (by omega) (by rw [h1]; exact hj)]
theorem wT_bd {D2 M : List Nat} (i : Nat) (h1 : ∀ x ∈ D2, x < 256) (h2 : ∀ x ∈ M, x < 256) : ∀ x ∈ wT D2 M i, x < 256 := fun x hx => by
  simp only [wT, List.mem_map] at hx
  obtain ⟨j, _, rfl⟩ := hx
  split
  · exact (Bs.mk rfl h1).at j
  · exact (Bs.mk rfl h2).at j
theorem owns_len' {w : World} {B : Nat} {T : TypeId} {k : Nat} {v : Value} {n : Nat} {xs : List Value} (h : w.ownsRow B T k v n xs) : ∃ a c, v = .slice a n c := by
  rcases h.2 with ⟨rfl, rfl⟩ | ⟨g, cap, cur, rfl, _⟩
  · exact ⟨none, 0, rfl⟩
  · exact ⟨_, _, rfl⟩
set_option maxRecDepth 100000 in
set_option maxHeartbeats 8000000 in
theorem turns_walk (key nonce : List Nat) (c : Nat) (hk : Bs 32 key) (hn : Bs 12 nonce) (hc : c < 4294967296) (D : List Nat) (hDb : ∀ x ∈ D, x < 256) (a : Option Addr) (cap : Nat) (w : World) (rd : Rd w (.slice a D.length cap) D) :
    Calls Try.prog 4 #[.agg (VN .u8 key), .int .u32 (c : Int), .agg (VN .u8 nonce), .slice a D.length cap] w fun e w' => e = .returned (.bool true) ∧ Below w.heap.size w w' := by
  have h0 := ((ev_nil' w).new (.cells (VN .u8 key) 23)).new (.cells (VN .u8 nonce) 26)
  obtain ⟨q, hq⟩ : ∃ q, w.heap.size = q := ⟨_, rfl⟩
  simp only [size_alloc, hq] at h0
  obtain ⟨W0, hW0⟩ : ∃ W, (w.alloc (.cells (VN .u8 key) 23)).alloc (.cells (VN .u8 nonce) 26) = W := ⟨_, rfl⟩
  rw [hW0] at h0
  have HQ : Hid (w.heap.size = q) := hq
  have H0 : Hid (Ev q w (.pointer none) [] [(q + 1, .cells (VN .u8 nonce) 26), (q, .cells (VN .u8 key) 23)] W0) := h0
  have HRD : Hid (∀ w', Below q w w' → Rd w' (.slice a D.length cap) D) := fun w' hb => rd.below (by rw [hq]; exact hb)
  obtain ⟨n, hD⟩ : ∃ n, D.length = n := ⟨_, rfl⟩
  by_cases hbig : 131072 < n
  · clear h0 hk hn hDb rd HRD
    rw [hD]
    go_enter Try.func4, Try.ntmps4
    go_wp2
    go_ret
    exact ⟨rfl, by rw [HQ.out]; exact H0.out.old⟩
  · have hn1 : n ≤ 131072 := by omega
    have s0 : W0.heap.size = q + 2 := by rw [← hW0, ← hq]; simp [size_alloc]
    have h1 := h0.withRec
    obtain ⟨W1, hW1⟩ : ∃ W, W0.alloc (.cells #[.slice none 0 0, .int .i64 0] 60) = W := ⟨_, rfl⟩
    rw [hW1, s0] at h1
    have s1 : W1.heap.size = q + 3 := by rw [← hW1]; simp [size_alloc, s0]
    have CN : Hid (Calls Try.prog 9 #[] W0 fun e w' => e = .returned (.pointer (some ⟨q + 2, 0, none⟩)) ∧ w' = W1) := by
      have := new_any W0
      rw [s0, hW1] at this
      exact this
    have CR : Hid (Calls Try.prog 16 #[.slice a n cap] W1 fun e w' => e = .returned (.slice (some ⟨q + 3, 0, none⟩) (n + 70) (n + 70)) ∧ Ev q w (.pointer (some ⟨q + 2, 0, none⟩)) [] [(q + 3, .cells (VN .u8 (room D)) 5), (q + 1, .cells (VN .u8 nonce) 26), (q, .cells (VN .u8 key) 23)] w') := by
      have := roomy_any a cap D (by omega) hDb W1 (HRD.out W1 h1.old)
      rw [hD, s1] at this
      refine this.mono ?_
      rintro e w' ⟨he, h2, h3⟩
      exact ⟨he, h1.fresh (by rw [s1]; exact h2) (by rw [s1]; exact Nat.le_refl _) h3.row⟩
    have HKN : Hid (Bs 32 key ∧ Bs 12 nonce ∧ c < 4294967296) := ⟨hk, hn, hc⟩
    have HIK : Hid ((Try.prog.info? 23).map (·.size) = some (VN .u8 key).size) := infoK hk.len
    have HIN : Hid ((Try.prog.info? 26).map (·.size) = some (VN .u8 nonce).size) := infoNn hn.len
    have HKL : Hid (key.length = 32) := hk.len
    have HNL : Hid (nonce.length = 12) := hn.len
    have HRB : Hid (∀ x ∈ room D, x < 256) := room_bd D hDb
    have HRL : Hid ((room D).length = n + 70) := by rw [← hD]; exact room_len D
    have HDB : Hid (∀ x ∈ D, x < 256) := hDb
    have HD : Hid (D.length = n) := hD
    rw [hD] at HRD
    have HXL : Hid ((xlog n).length ≤ 200000) := by
      have : (xlog n).length ≤ 200000 := by have := xlog_len n; omega
      exact this
    clear h0 h1 hk hn hDb rd s0 s1 H0 hW1
    rw [hD]
    clear hD
    go_enter Try.func4, Try.ntmps4
    go_upto_region 6 with (first | (go_at_call 9; refine Calls.mono CN.out ?_; rintro e V ⟨rfl, hV⟩; obtain rfl := hV) | (go_at_call 16; refine Calls.mono CR.out ?_; rintro e w2 ⟨rfl, h2⟩; have H2 : Hid _ := h2; clear h2))
    have h2 := H2.out.drew
    have CX1 : Hid (Calls Try.prog 17 #[.pointer (some ⟨q + 2, 0, none⟩), .agg (VN .u8 key), .int .u32 (c : Int), .agg (VN .u8 nonce), .slice (some ⟨q + 3, 0, none⟩) n (n + 70)] w2.drew fun e w' => e = .returned (.tuple #[]) ∧ Ev q w (.pointer (some ⟨q + 2, 0, none⟩)) (xlog n) [(q + 3, .cells (VN .u8 (xr (room D) 0 n (ks key c nonce))) 5), (q + 1, .cells (VN .u8 nonce) 26), (q, .cells (VN .u8 key) 23)] w') := xor_any { B := q, w := w, rv := .pointer (some ⟨q + 2, 0, none⟩), l := [], key := key, c := c, nonce := nonce, g := q + 3, L := room D, T := 5, fr := (0, 0), o := 0, bx := [(q + 1, .cells (VN .u8 nonce) 26), (q, .cells (VN .u8 key) 23)] } n (n + 70) ⟨HKN.out.1, HKN.out.2.1, HKN.out.2.2, fun p hp => by
        simp only [List.mem_cons, List.not_mem_nil, or_false] at hp
        rcases hp with rfl | rfl
        · show q + 1 ≠ q + 3; omega
        · show q ≠ q + 3; omega, .inl rfl, HRB.out, by simp, by show 0 + n ≤ (room D).length; rw [HRL.out]; omega⟩ hn1 (by omega) w2.drew h2
    have HS1 : Hid (RK w2.drew q key 23 ∧ RK w2.drew (q + 1) nonce 26) := ⟨h2.row (by simp), h2.row (by simp)⟩
    have HA : Hid (n ≤ n + 70 ∧ 0 < n + 70) := ⟨by omega, by omega⟩
    refine wp_as (c' := rgTu6) (by kernel_rfl) ?_
    refine Tu6 (R := fun w' => Ev q w (.pointer (some ⟨q + 2, 0, none⟩)) (xlog n) [(q + 3, .cells (VN .u8 (xr (room D) 0 n (ks key c nonce))) 5), (q + 1, .cells (VN .u8 nonce) 26), (q, .cells (VN .u8 key) 23)] w') HKL HNL HA CX1 HS1 (fun w' h => ⟨h.row (by simp), h.row (by simp)⟩) (fun _ _ d _ _ h => by cases d <;> exact h) ?_
    intro w3 h3
    have H3 : Hid _ := h3
    have HK3 : Hid (RK w3 q key 23) := h3.row (by simp)
    have HN3 : Hid (RK w3 (q + 1) nonce 26) := h3.row (by simp)
    have CRX := rxor key nonce c HKN.out.1 HKN.out.2.1 HKN.out.2.2 D HDB.out (by rw [HD.out]; exact hn1) a cap w3 (by rw [HD.out]; exact HRD.out w3 h3.old)
    rw [HD.out] at CRX
    have HCRX : Hid _ := CRX
    clear h2 h3 CRX CX1 HS1 H2 CN CR
    go_upto_region 9 with (first | (go_at_call 18; refine Calls.mono HCRX.out ?_; rintro e w4 ⟨u4, rfl, r4, hb4⟩; have R4 : Hid (Rd w4 u4 (xl D (ks key c nonce) n)) := r4; have h4 := H3.out.below hb4; have H4 : Hid _ := h4; clear r4 h4 hb4) | (go_at_call 19; refine Calls.mono (revents n hn1 w4) ?_; rintro e w5 ⟨u5, rfl, e5⟩; have E5 : Hid (EW w4.heap.size w4 u5 (xlog n) w5) := e5; clear e5) | (with_reducible refine at_list ?_; first | (refine wpList_load_row rfl 23 (.tmp 4) rfl q rfl 23 (VN .u8 key) (0, 0) _ HK3.out Try.underlying23 rfl HIK.out ?_) | (refine wpList_load_row rfl 26 (.tmp 6) rfl (q + 1) rfl 26 (VN .u8 nonce) (0, 0) _ HN3.out Try.underlying26 rfl HIN.out ?_)))
    obtain ⟨M, hM⟩ : ∃ M, xr (room D) 0 n (ks key c nonce) = M := ⟨_, rfl⟩
    have h5 := H4.out.below E5.out.old
    rw [hM] at h5
    obtain ⟨a5, c5, rfl⟩ := owns_len' E5.out.own
    have r5 := R4.out.below E5.out.old
    have bM : ∀ x ∈ M, x < 256 := by rw [← hM]; exact xr_bd HRB.out (fun j => ks_lt _ _ _ _)
    have lM : M.length = n + 70 := by rw [← hM, xr_len, HRL.out]
    have sM : sub M 0 n = xl D (ks key c nonce) n := by rw [← hM]; exact sub_xl D _ n HD.out
    have mM : ∀ j, n ≤ j → j < n + 70 → M.getD j 0 = 161 + j % 7 := fun j h1 h2 => by rw [← hM]; exact room_xr D _ n j HD.out.symm h1 (by rw [HD.out]; exact h2)
    have fM : ∀ D2 : List Nat, D2.length = n → wT D2 M n = room D2 := fun D2 h => by rw [← hM]; exact wT_full D D2 _ n HD.out h
    have HM : Hid ((∀ x ∈ M, x < 256) ∧ M.length = n + 70 ∧ (∀ j, n ≤ j → j < n + 70 → M.getD j 0 = 161 + j % 7) ∧ ∀ D2 : List Nat, D2.length = n → wT D2 M n = room D2) := ⟨bM, lM, mM, fM⟩
    have H5 : Hid (Ev q w (.pointer (some ⟨q + 2, 0, none⟩)) (xlog n) [(q + 3, .cells (VN .u8 M) 5), (q + 1, .cells (VN .u8 nonce) 26), (q, .cells (VN .u8 key) 23)] w5) := h5
    have S5 : Hid (Sl w5 (.slice a5 (xlog n).length c5) 2 (evC (xlog n)) (xlog n).length) := sl_of_owns E5.out.own
    have CS1 : Hid (Calls Try.prog 20 #[.slice (some ⟨q + 3, 0, none⟩) n (n + 70), u4] w5 fun e w' => e = .returned (.bool true) ∧ Below w5.heap.size w5 w') := by
      have rg : RB w5 (q + 3) M 5 (0, 0) := ⟨h5.row (by simp), .inl rfl, bM⟩
      have d1 := rg.rd 0 n (n + 70) (by rw [lM]; omega) (by omega)
      rw [sM] at d1
      exact same_any _ _ _ (by rw [xl_len]; omega) w5 d1 r5
    have HCB : Hid (∀ w', Ev q w (.pointer (some ⟨q + 2, 0, none⟩)) (xlog n) [(q + 3, .cells (VN .u8 M) 5), (q + 1, .cells (VN .u8 nonce) 26), (q, .cells (VN .u8 key) 23)] w' → Calls Try.prog 21 #[.slice (some ⟨q + 3, 0, none⟩) (n + 70) (n + 70), .int .i64 (n : Int)] w' fun e w'' => e = .returned (.bool true) ∧ Below w'.heap.size w' w'') := fun w' h => behind_any (q + 3) n (n + 70) (n + 70) M (by rw [HM.out.2.1]) (by omega) (by omega) 5 (0, 0) w' ⟨h.row (by simp), .inl rfl, HM.out.1⟩ HM.out.2.2.1
    have hpre := fun w => run_pre w (q + 3) n (n + 70) (n + 70) (n : Int) rfl (by omega) (by omega)
    clear h5 r5 bM lM sM mM fM hM H4 H3 E5 R4 HCRX HK3 HN3
    go_upto_region 11 with (first | (go_at_call 20; refine Calls.mono CS1.out ?_; rintro e w6 ⟨rfl, hb6⟩; have h6 := H5.out.below hb6; have H6 : Hid _ := h6; have S6 : Hid _ := sl_below hb6 S5.out; clear h6 hb6) | (go_at_call 21; refine Calls.mono (HCB.out w6 H6.out) ?_; rintro e w7 ⟨rfl, hb7⟩; have h7 := H6.out.below hb7; have H7 : Hid (Ev q w (.pointer (some ⟨q + 2, 0, none⟩)) (xlog n) [(q + 3, .cells (VN .u8 M) 5), (q + 1, .cells (VN .u8 nonce) 26), (q, .cells (VN .u8 key) 23)] w7) := h7; have S7 : Hid _ := sl_below hb7 S6.out; clear h7 hb7) | (go_at_call 13; obtain ⟨vs7, r7⟩ := H7.out.recO; refine Calls.mono (tEvents_any _ vs7 _ (by have := HXL.out; omega) w7 r7) ?_; rintro e w8 ⟨u8, rfl, o8, hb8⟩; have O8 : Hid _ := o8; have h8 := H7.out.below hb8; have H8 : Hid _ := h8; have S8 : Hid _ := sl_below hb8 S7.out; clear h8 hb8 o8 r7) | (go_at_call 12; refine Calls.mono (rsame_any u8 _ (xlog n) w8 (sl_of_owns O8.out) S8.out (by have := HXL.out; omega)) ?_; rintro e w9 ⟨rfl, nd, hw9⟩; have h9 := H8.out.below (w' := w9) (by rw [hw9]; exact ⟨rfl, rfl, rfl, Nat.le_refl _, fun _ _ => rfl⟩); have H9 : Hid (Ev q w (.pointer (some ⟨q + 2, 0, none⟩)) (xlog n) [(q + 3, .cells (VN .u8 M) 5), (q + 1, .cells (VN .u8 nonce) 26), (q, .cells (VN .u8 key) 23)] w9) := h9; clear h9 hw9))
    clear H5 S5 CS1 H6 S6 H7 S7 H8 S8 O8
    by_cases hn0 : n = 0
    · have b0 : (n : Int) = 0 := by omega
      go_wp2_with (first | (go_at_call 15; refine (known_any w9).mono ?_; rintro e w10 ⟨rfl, hb10⟩; have H10 : Hid (Below q w w10) := (H9.out.below hb10).old; clear hb10))
      go_ret
      exact ⟨rfl, by rw [HQ.out]; exact H10.out⟩
    · have b0 : ¬ (n : Int) = 0 := by omega
      have b0' : ((n : Int) == 0) = false := by simp; omega
      obtain ⟨sz9, hsz9⟩ : ∃ z, w9.heap.size = z := ⟨_, rfl⟩
      obtain ⟨W10, hW10⟩ : ∃ W, w9.alloc (.cells #[] 5) = W := ⟨_, rfl⟩
      have r10 : RB W10 sz9 [] 5 (0, 0) := ⟨by rw [← hW10, heap_alloc_any, hsz9, if_pos rfl]; rfl, .inl rfl, by simp⟩
      have hb10 : Below sz9 w9 W10 := by rw [← hsz9, ← hW10]; exact (Below.refl _ _).alloc (Nat.le_refl _) _
      have e10 := H9.out.below (w' := W10) (by rw [hsz9]; exact hb10)
      obtain ⟨gx, capx, Lx, W11, ap, cx1, cx2, bx11, lx, rx, sx⟩ := app_bytes W10 sz9 r10 a cap D HDB.out (by rw [HD.out]; omega) (by rw [HD.out]; exact HRD.out W10 e10.old)
      rw [HD.out] at ap cx1 cx2 sx
      have hgx : sz9 ≤ gx := by
        have h10s : W10.heap.size = sz9 + 1 := by rw [← hW10]; simp [size_alloc, hsz9]
        rcases lx with h | h <;> omega
      have hb911 : Below w9.heap.size w9 W11 := by rw [hsz9]; exact hb10.trans (bx11.mono (by rw [← hW10]; simp [size_alloc, hsz9]))
      have e11 := H9.out.fresh hb911 (by rw [hsz9]; exact hgx) rx.row
      have l9 : q + 3 < sz9 := by rw [← hsz9]; exact H9.out.lt (List.mem_cons_self ..)
      have c11 := rx.cell (i := 0) (by omega)
      have f11 := rx.froz (j := 0) (by omega)
      have ed : Lx.getD 0 0 = D.getD 0 0 := by
        have := sub_at Lx 0 n 0 (by omega)
        rw [sx] at this
        rw [this]
      rw [ed] at c11
      have bd0 := (Bs.mk rfl HDB.out).at 0
      have xd := u8_xor_nat (D.getD 0 0) 1 bd0 (by decide)
      have bv : D.getD 0 0 ^^^ 1 < 256 := Nat.xor_lt_two_pow (n := 8) bd0 (by decide)
      have rx12 := rx.set 0 (D.getD 0 0 ^^^ 1) bv
      have e12 := e11.set rfl (fun p hp => by
        simp only [List.mem_cons, List.not_mem_nil, or_false] at hp
        rcases hp with rfl | rfl | rfl
        · show q + 3 ≠ gx; omega
        · show q + 1 ≠ gx; omega
        · show q ≠ gx; omega) (Grow.of_but ((But.refl (fun k => k = gx) W11).setCell (p := ⟨gx, 0, none⟩) rfl _)) rx12.row
      obtain ⟨W12, hW12⟩ : ∃ W, W11.setCell ⟨gx, 0, none⟩ (.int .u8 ((D.getD 0 0 ^^^ 1 : Nat) : Int)) = W := ⟨_, rfl⟩
      rw [hW12] at rx12 e12
      obtain ⟨D2, hD2⟩ : ∃ D2, D.set 0 (D.getD 0 0 ^^^ 1) = D2 := ⟨_, rfl⟩
      have lD2 : D2.length = n := by rw [← hD2, List.length_set, HD.out]
      have bD2 : ∀ x ∈ D2, x < 256 := fun x hx => by
        rw [← hD2] at hx
        rcases List.mem_or_eq_of_mem_set hx with hx | rfl
        · exact HDB.out x hx
        · exact bv
      obtain ⟨L2, hL2⟩ : ∃ L2, Lx.set 0 (D.getD 0 0 ^^^ 1) = L2 := ⟨_, rfl⟩
      have lL2 : n ≤ L2.length := by rw [← hL2, List.length_set]; exact cx2
      have sL2 : ∀ j, j < n → L2.getD j 0 = D2.getD j 0 := fun j hj => by
        rw [← hL2, ← hD2]
        by_cases e : j = 0
        · subst e
          rw [getD_set_eq _ _ _ (by omega), getD_set_eq _ _ _ (by rw [HD.out]; omega)]
        · rw [getD_set_ne _ _ _ _ (fun h => e h.symm), getD_set_ne _ _ _ _ (fun h => e h.symm)]
          have := sub_at Lx 0 n j hj
          rw [sx, Nat.zero_add] at this
          exact this.symm
      rw [hL2] at rx12 e12
      have HL2 : Hid ((∀ x ∈ L2, x < 256) ∧ n ≤ L2.length ∧ (∀ j, j < n → L2.getD j 0 = D2.getD j 0) ∧ D2.length = n ∧ (∀ x ∈ D2, x < 256) ∧ n ≤ capx ∧ sz9 ≤ gx ∧ q + 3 < sz9) := ⟨rx12.bd, lL2, sL2, lD2, bD2, cx1, hgx, l9⟩
      obtain ⟨E, hE⟩ : ∃ E : List Nat → World → Prop, ∀ L w', E L w' ↔ Ev q w (.pointer (some ⟨q + 2, 0, none⟩)) (xlog n) [(q + 3, .cells (VN .u8 L) 5), (gx, .cells (VN .u8 L2) 5), (q + 1, .cells (VN .u8 nonce) 26), (q, .cells (VN .u8 key) 23)] w' := ⟨_, fun _ _ => Iff.rfl⟩
      have HE12 : Hid (E (wT D2 M 0) W12) := by
        show E (wT D2 M 0) W12
        rw [hE, wT_zero]
        exact e12.sub (fun p hp => mem_swap2 hp)
      have AP : Hid _ := ap
      have xd' : bits .xor .u8 ((D.getD 0 0 : Nat) : Int) 1 = ((D.getD 0 0 ^^^ 1 : Nat) : Int) := xd
      clear H9 r10 hb10 e10 rx rx12 e11 e12 bx11 lx hb911 ed sx xd hL2 sL2 lL2 hD2 bD2 lD2 HCB ap
      generalize D.getD 0 0 ^^^ 1 = d1 at *
      generalize D.getD 0 0 = d0 at *
      have cp : 0 < n := by omega
      go_wp2_with (first | (at_builtin; refine wpList_append_run _ rfl (.tmp 60) (.tmp 61) 40 40 rfl _ _ rfl rfl AP.out ?_))
      clear hW10 hW12 c11 f11 AP xd' hsz9
      have HST : Hid (∀ i w', i < n → E (wT D2 M i) w' → ∃ x y : Nat, w'.cell? ⟨gx, i, none⟩ = some (.int .u8 (x : Int)) ∧ w'.cell? ⟨q + 3, i, none⟩ = some (.int .u8 (y : Int)) ∧ w'.frozen? ⟨q + 3, i, none⟩ = false ∧ E (wT D2 M (i + 1)) (w'.setCell ⟨q + 3, i, none⟩ (.int .u8 (x : Int)))) := fun i w' hi h => by
        rw [hE] at h
        obtain ⟨z1, z2, z3, z4, z5, z6, z7, z8⟩ := HL2.out
        have rw1 : RB w' (q + 3) (wT D2 M i) 5 (0, 0) := ⟨h.row (by simp), .inl rfl, wT_bd i z5 HM.out.1⟩
        have rx1 : RB w' gx L2 5 (0, 0) := ⟨h.row (by simp), .inl rfl, z1⟩
        have cx := rx1.cell (i := i) (by omega)
        rw [z3 i hi] at cx
        have r2 := rw1.set i (D2.getD i 0) ((Bs.mk rfl z5).at i)
        rw [wT_set _ _ _ (by rw [HM.out.2.1]; omega)] at r2
        refine ⟨_, _, cx, rw1.cell (by rw [wT_len, HM.out.2.1]; omega), rw1.froz (by rw [wT_len, HM.out.2.1]; omega), (hE _ _).2 ?_⟩
        exact h.set rfl (fun p hp => by
          simp only [List.mem_cons, List.not_mem_nil, or_false] at hp
          rcases hp with rfl | rfl | rfl
          · show gx ≠ q + 3; omega
          · show q + 1 ≠ q + 3; omega
          · show q ≠ q + 3; omega) (Grow.of_but ((But.refl (fun k => k = q + 3) w').setCell (p := ⟨q + 3, i, none⟩) rfl _)) r2.row
      have HFX : Hid (∀ w', E (wT D2 M n) w' → (RK w'.drew q key 23 ∧ RK w'.drew (q + 1) nonce 26) ∧ Calls Try.prog 17 #[.pointer none, .agg (VN .u8 key), .int .u32 (c : Int), .agg (VN .u8 nonce), .slice (some ⟨q + 3, 0, none⟩) n (n + 70)] w'.drew fun e w'' => e = .returned (.tuple #[]) ∧ E (xr (room D2) 0 n (ks key c nonce)) w'') := fun w' h => by
        rw [hE, HM.out.2.2.2 D2 HL2.out.2.2.2.1] at h
        obtain ⟨z1, z2, z3, z4, z5, z6, z7, z8⟩ := HL2.out
        have h4 := h.drew
        refine ⟨⟨h4.row (by simp), h4.row (by simp)⟩, ?_⟩
        refine (h4.xorNil HKN.out (fun p hp => ?_) (.inl rfl) (room_bd D2 z5) 0 n (n + 70) hn1 (by omega) (by rw [room_len, z4]; omega)).mono ?_
        · simp only [List.mem_cons, List.not_mem_nil, or_false] at hp
          rcases hp with rfl | rfl | rfl
          · show gx ≠ q + 3; omega
          · show q + 1 ≠ q + 3; omega
          · show q ≠ q + 3; omega
        · rintro e w'' ⟨he, h5⟩
          exact ⟨he, (hE _ _).2 h5⟩
      have HEK : Hid (∀ L w', E L w' → RK w' q key 23 ∧ RK w' (q + 1) nonce 26) := fun L w' h => by
        rw [hE] at h; exact ⟨h.row (by simp), h.row (by simp)⟩
      have HRX : Hid (∀ w', E (xr (room D2) 0 n (ks key c nonce)) w' → Calls Try.prog 18 #[.agg (VN .u8 key), .int .u32 (c : Int), .agg (VN .u8 nonce), .slice (some ⟨gx, 0, none⟩) n capx] w' fun e w'' => ∃ u, e = .returned u ∧ Rd w'' u (xl D2 (ks key c nonce) n) ∧ E (xr (room D2) 0 n (ks key c nonce)) w'') := fun w' h => by
        rw [hE] at h
        obtain ⟨z1, z2, z3, z4, z5, z6, z7, z8⟩ := HL2.out
        have rx1 : RB w' gx L2 5 (0, 0) := ⟨h.row (by simp), .inl rfl, z1⟩
        have d := rx1.rd 0 n capx (by omega) z6
        have es : sub L2 0 n = D2 := by
          apply list_ext (by rw [sub_len _ _ _ (by omega), z4])
          intro j hj
          rw [sub_len _ _ _ (by omega)] at hj
          rw [sub_at _ _ _ _ hj, Nat.zero_add, z3 j hj]
        rw [es] at d
        have := rxor key nonce c HKN.out.1 HKN.out.2.1 HKN.out.2.2 D2 z5 (by rw [z4]; exact hn1) (some ⟨gx, 0, none⟩) capx w' (by rw [z4]; exact d)
        rw [z4] at this
        refine this.mono ?_
        rintro e w'' ⟨u, he, h1, h2⟩
        exact ⟨u, he, h1, (hE _ _).2 (h.below h2)⟩
      have HFS : Hid (∀ w' u, E (xr (room D2) 0 n (ks key c nonce)) w' → Rd w' u (xl D2 (ks key c nonce) n) → Calls Try.prog 20 #[.slice (some ⟨q + 3, 0, none⟩) n (n + 70), u] w' fun e w'' => e = .returned (.bool true) ∧ E (xr (room D2) 0 n (ks key c nonce)) w'') := fun w' u h hu => by
        rw [hE] at h
        obtain ⟨z1, z2, z3, z4, z5, z6, z7, z8⟩ := HL2.out
        have rg : RB w' (q + 3) (xr (room D2) 0 n (ks key c nonce)) 5 (0, 0) := ⟨h.row (by simp), .inl rfl, xr_bd (room_bd D2 z5) (fun j => ks_lt _ _ _ _)⟩
        have d1 := rg.rd 0 n (n + 70) (by rw [xr_len, room_len, z4]; omega) (by omega)
        rw [sub_xl D2 _ n z4] at d1
        refine (same_any _ _ _ (by rw [xl_len]; omega) w' d1 hu).mono ?_
        rintro e w'' ⟨he, hb⟩
        exact ⟨he, (hE _ _).2 (h.below hb)⟩
      have HFB : Hid (∀ w', E (xr (room D2) 0 n (ks key c nonce)) w' → Calls Try.prog 21 #[.slice (some ⟨q + 3, 0, none⟩) (n + 70) (n + 70), .int .i64 (n : Int)] w' fun e w'' => e = .returned (.bool true) ∧ E (xr (room D2) 0 n (ks key c nonce)) w'') := fun w' h => by
        rw [hE] at h
        obtain ⟨z1, z2, z3, z4, z5, z6, z7, z8⟩ := HL2.out
        have rg : RB w' (q + 3) (xr (room D2) 0 n (ks key c nonce)) 5 (0, 0) := ⟨h.row (by simp), .inl rfl, xr_bd (room_bd D2 z5) (fun j => ks_lt _ _ _ _)⟩
        refine (behind_any (q + 3) n (n + 70) (n + 70) _ (by rw [xr_len, room_len, z4]) (by omega) (by omega) 5 (0, 0) w' rg (fun j h1 h2 => room_xr D2 _ n j z4.symm h1 (by rw [z4]; exact h2))).mono ?_
        rintro e w'' ⟨he, hb⟩
        exact ⟨he, (hE _ _).2 (h.below hb)⟩
      have HFT : Hid (∀ w', E (xr (room D2) 0 n (ks key c nonce)) w' → Calls Try.prog 22 #[.pointer (some ⟨q + 2, 0, none⟩)] w' fun e w'' => e = .returned (.int .i64 (xlog n).length) ∧ w'' = w') := fun w' h => by
        rw [hE] at h; exact v_total h
      have HOld : Hid (∀ w' w'', E (xr (room D2) 0 n (ks key c nonce)) w' → Below w'.heap.size w' w'' → Below q w w'') := fun w' w'' h hb => by
        rw [hE] at h; exact (h.below hb).old
      clear hE
      obtain ⟨XR, hXR⟩ : ∃ x, xr (room D2) 0 n (ks key c nonce) = x := ⟨_, rfl⟩
      rw [hXR] at HFX HRX HFS HFB HFT HOld
      clear hXR
      generalize (xlog n).length = LN at *
      go_loopw [15] (fun v w' => ∃ i : Nat, i ≤ n ∧ v = .int .i64 (i : Int) ∧ E (wT D2 M i) w') (fun v _ => n - (intOf v).toNat)
      case atStart => exact ⟨0, by omega, rfl, HE12.out⟩
      case round =>
        clear HE12
        obtain ⟨i, hi, rfl, hp⟩ := hrel
        by_cases hlt : i < n
        · obtain ⟨x, y, k1, k2, k3, h5⟩ := HST.out i wr hlt hp
          have b1 : (i : Int) < (n : Int) := by omega
          have b2 : (i : Int) < (n : Int) + 70 := by omega
          have H5 : Hid (E (wT D2 M (i + 1)) (wr.setCell ⟨q + 3, i, none⟩ (.int .u8 (x : Int)))) := h5
          clear h5 hp HST
          go_wp2
          go_roundw
          case rel => exact ⟨i + 1, by omega, by go_num, H5.out⟩
          case measure => simp [intOf]; omega
        · have b1 : ¬ (i : Int) < (n : Int) := by omega
          have hi' : i = n := by omega
          rw [hi'] at hp
          have hx := HFX.out wr hp
          have HSx : Hid _ := hx.1
          have HCx : Hid _ := hx.2
          clear hx hp hi' HST HFX
          go_upto_region 19 with fail
          refine wp_as (c' := rgTu19) (by kernel_rfl) ?_
          refine Tu19 (R := fun w' => E XR w') HKL HNL HA HCx HSx (fun w' h => HEK.out _ w' h) (fun _ _ d _ _ h => by cases d <;> exact h) ?_
          intro w13 h13
          have H13 : Hid (E XR w13) := h13
          have K13 : Hid (RK w13 q key 23) := (HEK.out _ w13 h13).1
          have N13 : Hid (RK w13 (q + 1) nonce 26) := (HEK.out _ w13 h13).2
          clear h13 HSx HCx
          go_wp2_with (first | (go_at_call 18; refine Calls.mono (HRX.out w13 H13.out) ?_; rintro e w14 ⟨u14, rfl, r14, h14⟩; have R14 : Hid (Rd w14 u14 (xl D2 (ks key c nonce) n)) := r14; have H14 : Hid (E XR w14) := h14; clear r14 h14) | (go_at_call 20; refine Calls.mono (HFS.out w14 _ H14.out R14.out) ?_; rintro e w15 ⟨rfl, h15⟩; have H15 : Hid (E XR w15) := h15; clear h15) | (go_at_call 21; refine Calls.mono (HFB.out w15 H15.out) ?_; rintro e w16 ⟨rfl, h16⟩; have H16 : Hid (E XR w16) := h16; clear h16) | (go_at_call 22; refine Calls.mono (HFT.out w16 H16.out) ?_; rintro e w17 ⟨rfl, hw17⟩; obtain rfl := hw17) | (go_at_call 15; refine (known_any w17).mono ?_; rintro e w18 ⟨rfl, h18⟩; have H18 : Hid (Below q w w18) := HOld.out w17 w18 H16.out h18; clear h18) | (with_reducible refine at_list ?_; first | (refine wpList_load_row rfl 23 (.tmp 4) rfl q rfl 23 (VN .u8 key) (0, 0) _ K13.out Try.underlying23 rfl HIK.out ?_) | (refine wpList_load_row rfl 26 (.tmp 6) rfl (q + 1) rfl 26 (VN .u8 nonce) (0, 0) _ N13.out Try.underlying26 rfl HIN.out ?_)))
          go_ret
          exact ⟨rfl, by rw [HQ.out]; exact H18.out⟩
end Go.Proofs.Ytefnlaookmpbhaa
