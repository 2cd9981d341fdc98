import Derived.Test.YtefnlaookmpbhaaStrW
namespace Go.Proofs.Ytefnlaookmpbhaa
set_option linter.unusedSimpArgs false
set_option linter.unusedVariables false
open Go.ChangeShapes Go.WideShapes Go.ChangeAt Go.RowKit Go.Pin Go.Str
theorem wpList_append_run {P : Program} (w : World) {ops : Array Oper} {rest : List Oper} {o : Oper} {a : Act} {Q : Exit → Act → World → Prop} (hgd : o.guard = none) (d s : Operand) (t t' : TypeId)
    (ho : o.op = .call { callee := .builtin .append, args := #[d, s], argTypes := #[t, t'] }) (v u : Value) (hd : a.eval d = v) (hs : a.eval s = u) {v' : Value} {w' : World}
    (hr : (Builtin.append_ #[t, t'] o.type #[v, u]).run P w = .ok v' w') (h : wpList P ops Q rest (a.put o.dst v') w') : wpList P ops Q (o :: rest) a w :=
  wpList_plain hgd fun _ hK => by
    unfold Oper.wp execOp
    simp only [ho, resolve, invoke, builtin, Sem.run_bind, Sem.run_pure, Result.andThen_ok, List.map_toArray, List.map_cons, List.map_nil, hd, hs, hr]
    exact hK _ _ h
set_option maxRecDepth 100000 in
set_option maxHeartbeats 8000000 in
theorem blind_walk (key1 key2 nonce1 nonce2 : List Nat) (c1 c2 : Nat) (hk1 : Bs 32 key1) (hk2 : Bs 32 key2) (hn1 : Bs 12 nonce1) (hn2 : Bs 12 nonce2) (hc1 : c1 < 4294967296) (hc2 : c2 < 4294967296) (D : List Nat) (hDb : ∀ x ∈ D, x < 256) (a : Option Addr) (cap : Nat) (D2 : List Nat) (hDb2 : ∀ x ∈ D2, x < 256) (a2 : Option Addr) (cap2 : Nat) (w : World) (rd : Rd w (.slice a D.length cap) D) (rd2 : Rd w (.slice a2 D2.length cap2) D2) :
    Calls Try.prog 8 #[.agg (VN .u8 key1), .agg (VN .u8 key2), .int .u32 (c1 : Int), .int .u32 (c2 : Int), .agg (VN .u8 nonce1), .agg (VN .u8 nonce2), .slice a D.length cap, .slice a2 D2.length cap2] w fun e w' => e = .returned (.bool true) ∧ Below w.heap.size w w' := by
  have h0 := ((((ev_nil' w).new (.cells (VN .u8 key1) 23)).new (.cells (VN .u8 key2) 23)).new (.cells (VN .u8 nonce1) 26)).new (.cells (VN .u8 nonce2) 26)
  obtain ⟨q, hq⟩ : ∃ q, w.heap.size = q := ⟨_, rfl⟩
  simp only [size_alloc, hq] at h0
  obtain ⟨W0, hW0⟩ : ∃ W, (((w.alloc (.cells (VN .u8 key1) 23)).alloc (.cells (VN .u8 key2) 23)).alloc (.cells (VN .u8 nonce1) 26)).alloc (.cells (VN .u8 nonce2) 26) = W := ⟨_, rfl⟩
  rw [hW0] at h0
  have HQ : Hid (w.heap.size = q) := hq
  obtain ⟨BX, hBX⟩ : ∃ bx, bx = [(q + 1 + 1 + 1, Obj.cells (VN .u8 nonce2) 26), (q + 1 + 1, .cells (VN .u8 nonce1) 26), (q + 1, .cells (VN .u8 key2) 23), (q, .cells (VN .u8 key1) 23)] := ⟨_, rfl⟩
  rw [← hBX] at h0
  have HM : Hid ((q, Obj.cells (VN .u8 key1) 23) ∈ BX ∧ (q + 1, Obj.cells (VN .u8 key2) 23) ∈ BX ∧ (q + 1 + 1, Obj.cells (VN .u8 nonce1) 26) ∈ BX ∧ (q + 1 + 1 + 1, Obj.cells (VN .u8 nonce2) 26) ∈ BX ∧ ∀ p ∈ BX, p.1 < q + 4) := by
    subst hBX
    refine ⟨by simp, by simp, by simp, by simp, fun p hp => ?_⟩
    simp only [List.mem_cons, List.not_mem_nil, or_false] at hp
    rcases hp with rfl | rfl | rfl | rfl <;> (simp; try omega)
  have hW0s : W0.heap.size = q + 4 := by rw [← hW0, ← hq]; simp [size_alloc]
  have H0 : Hid (Ev q w (.pointer none) [] BX W0) := h0
  have HRD : Hid (∀ w', Below q w w' → Rd w' (.slice a D.length cap) D) := fun w' hb => rd.below (by rw [hq]; exact hb)
  have HRD2 : Hid (∀ w', Below q w w' → Rd w' (.slice a2 D2.length cap2) D2) := fun w' hb => rd2.below (by rw [hq]; exact hb)
  have HKN : Hid (Bs 32 key1 ∧ Bs 32 key2 ∧ Bs 12 nonce1 ∧ Bs 12 nonce2) := ⟨hk1, hk2, hn1, hn2⟩
  have HIK1 : Hid ((Try.prog.info? 23).map (·.size) = some (VN .u8 key1).size) := infoK hk1.len
  have HIK2 : Hid ((Try.prog.info? 23).map (·.size) = some (VN .u8 key2).size) := infoK hk2.len
  have HIN1 : Hid ((Try.prog.info? 26).map (·.size) = some (VN .u8 nonce1).size) := infoNn hn1.len
  have HIN2 : Hid ((Try.prog.info? 26).map (·.size) = some (VN .u8 nonce2).size) := infoNn hn2.len
  have hcc : D.length ≤ cap ∧ D2.length ≤ cap2 := by
    obtain ⟨_, _, e, h, _⟩ := rd
    obtain ⟨_, _, e2, h2, _⟩ := rd2
    injection e with _ _ e3; injection e2 with _ _ e4
    subst e3; subst e4; exact ⟨h, h2⟩
  have HDB : Hid ((∀ x ∈ D, x < 256) ∧ (∀ x ∈ D2, x < 256)) := ⟨hDb, hDb2⟩
  obtain ⟨la, hla⟩ : ∃ n, D.length = n := ⟨_, rfl⟩
  obtain ⟨lb, hlb⟩ : ∃ n, D2.length = n := ⟨_, rfl⟩
  rw [hla, hlb] at hcc
  have HLA : Hid (D.length = la ∧ D2.length = lb) := ⟨hla, hlb⟩
  clear h0 hk1 hk2 hn1 hn2 hDb hDb2 rd rd2 hBX
  rw [hla, hlb]
  rw [hla] at HRD
  rw [hlb] at HRD2
  clear hla hlb
  by_cases hlt : lb < la
  · obtain ⟨n, rfl⟩ : ∃ n, n = lb := ⟨_, rfl⟩
    by_cases hbig : 131072 < n
    · go_enter Try.func8, Try.ntmps8
      go_wp2
      go_ret
      exact ⟨rfl, by rw [HQ.out]; exact H0.out.old⟩
    · have h1 := H0.out.withRec
      obtain ⟨W1, hW1⟩ : ∃ W, W0.alloc (.cells #[.slice none 0 0, .int .i64 0] 60) = W := ⟨_, rfl⟩
      have hs1 : W1.heap.size = q + 5 := by rw [← hW1]; simp [size_alloc, hW0s]
      have CN1 : Hid (Calls Try.prog 9 #[] W0 fun e w' => e = .returned (.pointer (some ⟨q + 4, 0, none⟩)) ∧ w' = W1) := by
        have := new_any W0
        rw [hW0s, hW1] at this
        exact this
      obtain ⟨W2, hW2⟩ : ∃ W, W1.alloc (.cells #[.slice none 0 0, .int .i64 0] 60) = W := ⟨_, rfl⟩
      have CN2 : Hid (Calls Try.prog 9 #[] W1 fun e w' => e = .returned (.pointer (some ⟨q + 5, 0, none⟩)) ∧ w' = W2) := by
        have := new_any W1
        rw [hs1, hW2] at this
        exact this
      have h2 : Ev q w (.pointer (some ⟨q + 4, 0, none⟩)) [] ((q + 5, .cells #[.slice none 0 0, .int .i64 0] 60) :: BX) W2 := by
        rw [hW1, hW0s] at h1
        have := h1.new (.cells #[.slice none 0 0, .int .i64 0] 60)
        rw [hW2, hs1] at this
        exact this
      have hs2 : W2.heap.size = q + 6 := by rw [← hW2]; simp [size_alloc, hs1]
      have t2 : Two q w (q + 4) [] (q + 5) [] [(q + 5, .cells #[.slice none 0 0, .int .i64 0] 60)] BX (.slice none 0 0) W2 := by
        refine ⟨h2, ⟨by omega, h2.row (List.mem_cons_self ..), World.ownsRow_nil _ _ _ _⟩, fun k hk => ?_, fun p hp => ?_, fun p hp hk => ?_⟩
        · rcases hk with rfl | hk
          · exact ⟨_, List.mem_cons_self ..⟩
          · cases hk
        · simp only [List.mem_cons, List.not_mem_nil, or_false] at hp
          subst hp; exact .inl rfl
        · have := HM.out.2.2.2.2 p hp
          rcases hk with hk | hk
          · omega
          · cases hk
      have l1 : (D.take n).length = n := by rw [List.length_take, HLA.out.1]; omega
      have l2 : (D2.take n).length = n := by rw [List.length_take, HLA.out.2]; omega
      -- the first list
      obtain ⟨W3, hW3⟩ : ∃ W, W2.alloc (.cells #[] 5) = W := ⟨_, rfl⟩
      have r3 : RB W3 (q + 6) [] 5 (0, 0) := ⟨by rw [← hW3, heap_alloc_any, hs2, if_pos rfl]; rfl, .inl rfl, by simp⟩
      have hb3 : Below (q + 6) W2 W3 := by rw [← hs2, ← hW3]; exact (Below.refl _ _).alloc (Nat.le_refl _) _
      have e3 := h2.below (w' := W3) (by rw [hs2]; exact hb3)
      obtain ⟨gx, capx, Lx, W4, ap1, cx1, cx2, bx4, lx, rx4, _⟩ := app_bytes W3 (q + 6) r3 a cap (D.take n) (fun x hx => HDB.out.1 x (List.mem_of_mem_take hx)) (by omega) (by have := (HRD.out W3 e3.old); rw [← HLA.out.1] at this; have := this.take n (by rw [HLA.out.1]; omega); rw [l1]; exact this)
      rw [l1] at ap1 cx1 cx2
      have hs3 : W3.heap.size = q + 7 := by rw [← hW3]; simp [size_alloc, hs2]
      have hgx : q + 6 ≤ gx ∧ gx < W4.heap.size := by have := rx4.lt; rcases lx with h | h <;> omega
      have hb24 : Below W2.heap.size W2 W4 := by rw [hs2]; exact hb3.trans (bx4.mono (by omega))
      have e4 := h2.fresh hb24 (by rw [hs2]; exact hgx.1) rx4.row
      have t4 : Two q w (q + 4) [] (q + 5) [] [(q + 5, .cells #[.slice none 0 0, .int .i64 0] 60)] ((gx, .cells (VN .u8 Lx) 5) :: BX) (.slice none 0 0) W4 := t2.step (e4.sub (fun p hp => mem_swap2 hp)) (fun p hp hk => by
        rcases List.mem_cons.1 hp with rfl | hp
        · rcases hk with hk | hk
          · have : gx = q + 5 := hk
            omega
          · cases hk
        · exact t2.dis p hp hk)
      -- the second list
      obtain ⟨z, hz⟩ : ∃ z, W4.heap.size = z := ⟨_, rfl⟩
      obtain ⟨W5, hW5⟩ : ∃ W, W4.alloc (.cells #[] 5) = W := ⟨_, rfl⟩
      have r5 : RB W5 z [] 5 (0, 0) := ⟨by rw [← hW5, heap_alloc_any, hz, if_pos rfl]; rfl, .inl rfl, by simp⟩
      have hb5 : Below z W4 W5 := by rw [← hz, ← hW5]; exact (Below.refl _ _).alloc (Nat.le_refl _) _
      have e5 := t4.ev.below (w' := W5) (by rw [hz]; exact hb5)
      obtain ⟨gy, capy, Ly, W6, ap2, cy1, cy2, by6, ly, ry6, _⟩ := app_bytes W5 z r5 a2 cap2 (D2.take n) (fun x hx => HDB.out.2 x (List.mem_of_mem_take hx)) (by omega) (by have := (HRD2.out W5 e5.old); rw [← HLA.out.2] at this; have := this.take n (by rw [HLA.out.2]; omega); rw [l2]; exact this)
      rw [l2] at ap2 cy1 cy2
      have hs5 : W5.heap.size = z + 1 := by rw [← hW5]; simp [size_alloc, hz]
      have hgy : z ≤ gy := by rcases ly with h | h <;> omega
      have hb46 : Below W4.heap.size W4 W6 := by rw [hz]; exact hb5.trans (by6.mono (by omega))
      have e6 := t4.ev.fresh hb46 (by rw [hz]; exact hgy) ry6.row
      have t6 : Two q w (q + 4) [] (q + 5) [] [(q + 5, .cells #[.slice none 0 0, .int .i64 0] 60)] ((gx, .cells (VN .u8 Lx) 5) :: (gy, .cells (VN .u8 Ly) 5) :: BX) (.slice none 0 0) W6 := t4.step (e6.sub (fun p hp => by
        simp only [List.mem_append, List.mem_cons, List.not_mem_nil, or_false] at hp ⊢
        rcases hp with hp | hp | hp | hp
        · exact .inr (.inl hp)
        · exact .inr (.inr (.inl hp))
        · exact .inl hp
        · exact .inr (.inr (.inr hp)))) (fun p hp hk => by
        rcases List.mem_cons.1 hp with rfl | hp
        · exact t4.dis _ (List.mem_cons_self ..) hk
        · rcases List.mem_cons.1 hp with rfl | hp
          · rcases hk with hk | hk
            · have : gy = q + 5 := hk
              omega
            · cases hk
          · exact t2.dis p hp hk)
      have hxy : gx < gy := by omega
      have nx : ∀ p ∈ (gy, Obj.cells (VN .u8 Ly) 5 (0, 0)) :: BX, p.1 ≠ gx := fun p hp => by
        rcases List.mem_cons.1 hp with rfl | hp
        · show gy ≠ gx; omega
        · have := HM.out.2.2.2.2 p hp; omega
      have ny : ∀ (L : List Nat), ∀ p ∈ (gx, Obj.cells (VN .u8 L) 5 (0, 0)) :: BX, p.1 ≠ gy := fun L p hp => by
        rcases List.mem_cons.1 hp with rfl | hp
        · show gx ≠ gy; omega
        · have := HM.out.2.2.2.2 p hp; omega
      have CX1 : Hid _ := t6.xor (by simp) key1 nonce1 c1 HKN.out.1 HKN.out.2.2.1 hc1 nx (.inl rfl) rx4.bd 0 n capx (by omega) cx1 (by omega)
      have HP : Hid ((∀ y ∈ Ly, y < 256) ∧ n ≤ Ly.length ∧ ∀ (L : List Nat), ∀ p ∈ (gx, Obj.cells (VN .u8 L) 5 (0, 0)) :: BX, p.1 ≠ gy) := ⟨ry6.bd, cy2, ny⟩
      have hK6 := HM.out
      have HR6 : Hid (∀ W' bl vs R l S m b2, Two q w R l S m bl (b2 ++ BX) vs W' → RK W' q key1 23 ∧ RK W' (q + 1) key2 23 ∧ RK W' (q + 1 + 1) nonce1 26 ∧ RK W' (q + 1 + 1 + 1) nonce2 26) := fun W' bl vs R l S m b2 h => ⟨h.ev.row (List.mem_append_right _ (List.mem_append_right _ hK6.1)), h.ev.row (List.mem_append_right _ (List.mem_append_right _ hK6.2.1)), h.ev.row (List.mem_append_right _ (List.mem_append_right _ hK6.2.2.1)), h.ev.row (List.mem_append_right _ (List.mem_append_right _ hK6.2.2.2.1))⟩
      have HK6 : Hid _ := HR6.out W6 _ _ _ _ _ _ [_, _] t6
      have AP1 : Hid _ := ap1
      have AP2 : Hid _ := ap2
      have HLX : Hid ((xlog n).length ≤ 200000) := by
        have : (xlog n).length ≤ 200000 := by have := xlog_len n; omega
        exact this
      have HTG : Hid (4 ≤ (([] ++ xlog n) ++ [((3 : Int), (22 : Int))]).length) := by
        have : 3 ≤ (xlog n).length := by
          unfold xlog
          simp only [List.length_append, List.length_cons, List.length_nil]
          split <;> simp <;> omega
        show 4 ≤ (([] ++ xlog n) ++ [((3 : Int), (22 : Int))]).length
        simp; omega
      have hpA := fun w => run_preA w a n la cap (n : Int) rfl (by omega)
      have hpB := fun w => run_preA w a2 n n cap2 (n : Int) rfl (by omega)
      clear h1 hW1 h2 t2 e3 e4 t4 e5 e6 t6 r3 hb3 ap1 ap2 rx4 ry6 bx4 by6 r5 hb5 hb24 hb46 H0 hs1 hW0s l1 l2 nx ny lx ly hK6 hs3 hs5 cx2 cy2 hW2
      go_enter Try.func8, Try.ntmps8
      go_upto_region 10 with (first | (go_at_call 9; first | (refine Calls.mono CN1.out ?_; rintro e V ⟨rfl, hV⟩; obtain rfl := hV; clear CN1) | (refine Calls.mono CN2.out ?_; rintro e V ⟨rfl, hV⟩; obtain rfl := hV)) | (at_builtin; first | (refine wpList_append_run _ rfl (.tmp 34) (.tmp 37) 40 40 rfl _ _ rfl rfl AP1.out ?_) | (refine wpList_append_run _ rfl (.tmp 39) (.tmp 42) 40 40 rfl _ _ rfl rfl AP2.out ?_)))
      have K6k : Hid (RK W6 q key1 23) := HK6.out.1
      have K6n : Hid (RK W6 (q + 1 + 1) nonce1 26) := HK6.out.2.2.1
      go_upto_region 11 with (first | (go_at_call 17; refine Calls.mono CX1.out ?_; rintro e w7 ⟨rfl, t7⟩; have T7 : Hid _ := t7; clear t7) | (with_reducible refine at_list ?_; first | (refine wpList_load_row rfl 23 (.tmp 8) rfl (q) rfl 23 (VN .u8 key1) (0, 0) _ K6k.out Try.underlying23 rfl HIK1.out ?_) | (refine wpList_load_row rfl 26 (.tmp 12) rfl (q + 1 + 1) rfl 26 (VN .u8 nonce1) (0, 0) _ K6n.out Try.underlying26 rfl HIN1.out ?_)))
      obtain ⟨bl7, vs7, t7⟩ := T7.out.swap
      have t7' := t7.perm (bx' := (gy, .cells (VN .u8 Ly) 5) :: (gx, .cells (VN .u8 (xr Lx 0 n (ks key1 c1 nonce1))) 5) :: BX) (fun p hp => mem_swap2 hp)
      have CX2 : Hid _ := t7'.xor (by simp) key2 nonce2 c2 HKN.out.2.1 HKN.out.2.2.2 hc2 (HP.out.2.2 _) (.inl rfl) HP.out.1 0 n capy (by omega) cy1 (by have := HP.out.2.1; omega)
      have k7 := HR6.out w7 _ _ _ _ _ _ [_, _] t7'
      have K7k : Hid (RK w7 (q + 1) key2 23) := k7.2.1
      have K7n : Hid (RK w7 (q + 1 + 1 + 1) nonce2 26) := k7.2.2.2
      clear t7 t7' k7 T7 CX1 K6k K6n HK6
      go_upto_region 12 with (first | (go_at_call 17; refine Calls.mono CX2.out ?_; rintro e w8 ⟨rfl, t8⟩; have T8 : Hid _ := t8; clear t8) | (with_reducible refine at_list ?_; first | (refine wpList_load_row rfl 23 (.tmp 9) rfl (q + 1) rfl 23 (VN .u8 key2) (0, 0) _ K7k.out Try.underlying23 rfl HIK2.out ?_) | (refine wpList_load_row rfl 26 (.tmp 13) rfl (q + 1 + 1 + 1) rfl 26 (VN .u8 nonce2) (0, 0) _ K7n.out Try.underlying26 rfl HIN2.out ?_)))
      obtain ⟨bl8, vs8, t8⟩ := T8.out.swap
      have CB1 : Hid _ := t8.block (by have := HLX.out; simp; omega) key1 nonce1 c1 HKN.out.1 HKN.out.2.2.1 hc1
      have k8 := HR6.out w8 _ _ _ _ _ _ [_, _] t8
      have K8k : Hid (RK w8 q key1 23) := k8.1
      have K8n : Hid (RK w8 (q + 1 + 1) nonce1 26) := k8.2.2.1
      clear t8 k8 T8 CX2 K7k K7n
      go_upto_region 13 with (first | (go_at_call 11; refine Calls.mono CB1.out ?_; rintro e w9 ⟨rfl, t9⟩; have T9 : Hid _ := t9; clear t9) | (with_reducible refine at_list ?_; first | (refine wpList_load_row rfl 23 (.tmp 8) rfl (q) rfl 23 (VN .u8 key1) (0, 0) _ K8k.out Try.underlying23 rfl HIK1.out ?_) | (refine wpList_load_row rfl 26 (.tmp 12) rfl (q + 1 + 1) rfl 26 (VN .u8 nonce1) (0, 0) _ K8n.out Try.underlying26 rfl HIN1.out ?_)))
      obtain ⟨bl9, vs9, t9⟩ := T9.out.swap
      have CB2 : Hid _ := t9.block (by have := HLX.out; simp; omega) key2 nonce2 c2 HKN.out.2.1 HKN.out.2.2.2 hc2
      have k9 := HR6.out w9 _ _ _ _ _ _ [_, _] t9
      have K9k : Hid (RK w9 (q + 1) key2 23) := k9.2.1
      have K9n : Hid (RK w9 (q + 1 + 1 + 1) nonce2 26) := k9.2.2.2
      clear t9 k9 T9 CB1 K8k K8n
      go_upto_region 14 with (first | (go_at_call 11; refine Calls.mono CB2.out ?_; rintro e w10 ⟨rfl, t10⟩; have T10 : Hid _ := t10; clear t10) | (with_reducible refine at_list ?_; first | (refine wpList_load_row rfl 23 (.tmp 9) rfl (q + 1) rfl 23 (VN .u8 key2) (0, 0) _ K9k.out Try.underlying23 rfl HIK2.out ?_) | (refine wpList_load_row rfl 26 (.tmp 13) rfl (q + 1 + 1 + 1) rfl 26 (VN .u8 nonce2) (0, 0) _ K9n.out Try.underlying26 rfl HIN2.out ?_)))
      obtain ⟨bl10, vs10, t10⟩ := T10.out.swap
      have CS : Hid _ := t10.same (by have := HLX.out; simp; omega)
      have HTot : Hid (4 ≤ ((([] ++ xlog n) ++ [((3 : Int), (22 : Int))]).length : Int)) := by
        have := HTG.out
        exact Int.ofNat_le.2 this
      clear t10 T10 CB2 K9k K9n
      generalize ([] ++ xlog n) ++ [((3 : Int), (22 : Int))] = LG at *
      have hT4 := HTot.out
      go_wp2_with (first | (go_at_call 23; refine Calls.mono CS.out ?_; rintro e w11 ⟨rfl, t11⟩; have T11 : Hid _ := t11; clear t11) | (go_at_call 22; refine Calls.mono (v_total T11.out.ev) ?_; rintro e w12 ⟨rfl, hw12⟩; obtain rfl := hw12) | (go_at_call 15; refine (known_any w12).mono ?_; rintro e w13 ⟨rfl, h13⟩; have H13 : Hid (Below q w w13) := (T11.out.ev.below h13).old; clear h13))
      go_ret
      exact ⟨rfl, by rw [HQ.out]; exact H13.out⟩
  · obtain ⟨n, rfl⟩ : ∃ n, n = la := ⟨_, rfl⟩
    have hge : n ≤ lb := by omega
    by_cases hbig : 131072 < n
    · go_enter Try.func8, Try.ntmps8
      go_wp2
      go_ret
      exact ⟨rfl, by rw [HQ.out]; exact H0.out.old⟩
    · have h1 := H0.out.withRec
      obtain ⟨W1, hW1⟩ : ∃ W, W0.alloc (.cells #[.slice none 0 0, .int .i64 0] 60) = W := ⟨_, rfl⟩
      have hs1 : W1.heap.size = q + 5 := by rw [← hW1]; simp [size_alloc, hW0s]
      have CN1 : Hid (Calls Try.prog 9 #[] W0 fun e w' => e = .returned (.pointer (some ⟨q + 4, 0, none⟩)) ∧ w' = W1) := by
        have := new_any W0
        rw [hW0s, hW1] at this
        exact this
      obtain ⟨W2, hW2⟩ : ∃ W, W1.alloc (.cells #[.slice none 0 0, .int .i64 0] 60) = W := ⟨_, rfl⟩
      have CN2 : Hid (Calls Try.prog 9 #[] W1 fun e w' => e = .returned (.pointer (some ⟨q + 5, 0, none⟩)) ∧ w' = W2) := by
        have := new_any W1
        rw [hs1, hW2] at this
        exact this
      have h2 : Ev q w (.pointer (some ⟨q + 4, 0, none⟩)) [] ((q + 5, .cells #[.slice none 0 0, .int .i64 0] 60) :: BX) W2 := by
        rw [hW1, hW0s] at h1
        have := h1.new (.cells #[.slice none 0 0, .int .i64 0] 60)
        rw [hW2, hs1] at this
        exact this
      have hs2 : W2.heap.size = q + 6 := by rw [← hW2]; simp [size_alloc, hs1]
      have t2 : Two q w (q + 4) [] (q + 5) [] [(q + 5, .cells #[.slice none 0 0, .int .i64 0] 60)] BX (.slice none 0 0) W2 := by
        refine ⟨h2, ⟨by omega, h2.row (List.mem_cons_self ..), World.ownsRow_nil _ _ _ _⟩, fun k hk => ?_, fun p hp => ?_, fun p hp hk => ?_⟩
        · rcases hk with rfl | hk
          · exact ⟨_, List.mem_cons_self ..⟩
          · cases hk
        · simp only [List.mem_cons, List.not_mem_nil, or_false] at hp
          subst hp; exact .inl rfl
        · have := HM.out.2.2.2.2 p hp
          rcases hk with hk | hk
          · omega
          · cases hk
      have l1 : (D.take n).length = n := by rw [List.length_take, HLA.out.1]; omega
      have l2 : (D2.take n).length = n := by rw [List.length_take, HLA.out.2]; omega
      -- the first list
      obtain ⟨W3, hW3⟩ : ∃ W, W2.alloc (.cells #[] 5) = W := ⟨_, rfl⟩
      have r3 : RB W3 (q + 6) [] 5 (0, 0) := ⟨by rw [← hW3, heap_alloc_any, hs2, if_pos rfl]; rfl, .inl rfl, by simp⟩
      have hb3 : Below (q + 6) W2 W3 := by rw [← hs2, ← hW3]; exact (Below.refl _ _).alloc (Nat.le_refl _) _
      have e3 := h2.below (w' := W3) (by rw [hs2]; exact hb3)
      obtain ⟨gx, capx, Lx, W4, ap1, cx1, cx2, bx4, lx, rx4, _⟩ := app_bytes W3 (q + 6) r3 a cap (D.take n) (fun x hx => HDB.out.1 x (List.mem_of_mem_take hx)) (by omega) (by have := (HRD.out W3 e3.old); rw [← HLA.out.1] at this; have := this.take n (by rw [HLA.out.1]; omega); rw [l1]; exact this)
      rw [l1] at ap1 cx1 cx2
      have hs3 : W3.heap.size = q + 7 := by rw [← hW3]; simp [size_alloc, hs2]
      have hgx : q + 6 ≤ gx ∧ gx < W4.heap.size := by have := rx4.lt; rcases lx with h | h <;> omega
      have hb24 : Below W2.heap.size W2 W4 := by rw [hs2]; exact hb3.trans (bx4.mono (by omega))
      have e4 := h2.fresh hb24 (by rw [hs2]; exact hgx.1) rx4.row
      have t4 : Two q w (q + 4) [] (q + 5) [] [(q + 5, .cells #[.slice none 0 0, .int .i64 0] 60)] ((gx, .cells (VN .u8 Lx) 5) :: BX) (.slice none 0 0) W4 := t2.step (e4.sub (fun p hp => mem_swap2 hp)) (fun p hp hk => by
        rcases List.mem_cons.1 hp with rfl | hp
        · rcases hk with hk | hk
          · have : gx = q + 5 := hk
            omega
          · cases hk
        · exact t2.dis p hp hk)
      -- the second list
      obtain ⟨z, hz⟩ : ∃ z, W4.heap.size = z := ⟨_, rfl⟩
      obtain ⟨W5, hW5⟩ : ∃ W, W4.alloc (.cells #[] 5) = W := ⟨_, rfl⟩
      have r5 : RB W5 z [] 5 (0, 0) := ⟨by rw [← hW5, heap_alloc_any, hz, if_pos rfl]; rfl, .inl rfl, by simp⟩
      have hb5 : Below z W4 W5 := by rw [← hz, ← hW5]; exact (Below.refl _ _).alloc (Nat.le_refl _) _
      have e5 := t4.ev.below (w' := W5) (by rw [hz]; exact hb5)
      obtain ⟨gy, capy, Ly, W6, ap2, cy1, cy2, by6, ly, ry6, _⟩ := app_bytes W5 z r5 a2 cap2 (D2.take n) (fun x hx => HDB.out.2 x (List.mem_of_mem_take hx)) (by omega) (by have := (HRD2.out W5 e5.old); rw [← HLA.out.2] at this; have := this.take n (by rw [HLA.out.2]; omega); rw [l2]; exact this)
      rw [l2] at ap2 cy1 cy2
      have hs5 : W5.heap.size = z + 1 := by rw [← hW5]; simp [size_alloc, hz]
      have hgy : z ≤ gy := by rcases ly with h | h <;> omega
      have hb46 : Below W4.heap.size W4 W6 := by rw [hz]; exact hb5.trans (by6.mono (by omega))
      have e6 := t4.ev.fresh hb46 (by rw [hz]; exact hgy) ry6.row
      have t6 : Two q w (q + 4) [] (q + 5) [] [(q + 5, .cells #[.slice none 0 0, .int .i64 0] 60)] ((gx, .cells (VN .u8 Lx) 5) :: (gy, .cells (VN .u8 Ly) 5) :: BX) (.slice none 0 0) W6 := t4.step (e6.sub (fun p hp => by
        simp only [List.mem_append, List.mem_cons, List.not_mem_nil, or_false] at hp ⊢
        rcases hp with hp | hp | hp | hp
        · exact .inr (.inl hp)
        · exact .inr (.inr (.inl hp))
        · exact .inl hp
        · exact .inr (.inr (.inr hp)))) (fun p hp hk => by
        rcases List.mem_cons.1 hp with rfl | hp
        · exact t4.dis _ (List.mem_cons_self ..) hk
        · rcases List.mem_cons.1 hp with rfl | hp
          · rcases hk with hk | hk
            · have : gy = q + 5 := hk
              omega
            · cases hk
          · exact t2.dis p hp hk)
      have hxy : gx < gy := by omega
      have nx : ∀ p ∈ (gy, Obj.cells (VN .u8 Ly) 5 (0, 0)) :: BX, p.1 ≠ gx := fun p hp => by
        rcases List.mem_cons.1 hp with rfl | hp
        · show gy ≠ gx; omega
        · have := HM.out.2.2.2.2 p hp; omega
      have ny : ∀ (L : List Nat), ∀ p ∈ (gx, Obj.cells (VN .u8 L) 5 (0, 0)) :: BX, p.1 ≠ gy := fun L p hp => by
        rcases List.mem_cons.1 hp with rfl | hp
        · show gx ≠ gy; omega
        · have := HM.out.2.2.2.2 p hp; omega
      have CX1 : Hid _ := t6.xor (by simp) key1 nonce1 c1 HKN.out.1 HKN.out.2.2.1 hc1 nx (.inl rfl) rx4.bd 0 n capx (by omega) cx1 (by omega)
      have HP : Hid ((∀ y ∈ Ly, y < 256) ∧ n ≤ Ly.length ∧ ∀ (L : List Nat), ∀ p ∈ (gx, Obj.cells (VN .u8 L) 5 (0, 0)) :: BX, p.1 ≠ gy) := ⟨ry6.bd, cy2, ny⟩
      have hK6 := HM.out
      have HR6 : Hid (∀ W' bl vs R l S m b2, Two q w R l S m bl (b2 ++ BX) vs W' → RK W' q key1 23 ∧ RK W' (q + 1) key2 23 ∧ RK W' (q + 1 + 1) nonce1 26 ∧ RK W' (q + 1 + 1 + 1) nonce2 26) := fun W' bl vs R l S m b2 h => ⟨h.ev.row (List.mem_append_right _ (List.mem_append_right _ hK6.1)), h.ev.row (List.mem_append_right _ (List.mem_append_right _ hK6.2.1)), h.ev.row (List.mem_append_right _ (List.mem_append_right _ hK6.2.2.1)), h.ev.row (List.mem_append_right _ (List.mem_append_right _ hK6.2.2.2.1))⟩
      have HK6 : Hid _ := HR6.out W6 _ _ _ _ _ _ [_, _] t6
      have AP1 : Hid _ := ap1
      have AP2 : Hid _ := ap2
      have HLX : Hid ((xlog n).length ≤ 200000) := by
        have : (xlog n).length ≤ 200000 := by have := xlog_len n; omega
        exact this
      have HTG : Hid (4 ≤ (([] ++ xlog n) ++ [((3 : Int), (22 : Int))]).length) := by
        have : 3 ≤ (xlog n).length := by
          unfold xlog
          simp only [List.length_append, List.length_cons, List.length_nil]
          split <;> simp <;> omega
        show 4 ≤ (([] ++ xlog n) ++ [((3 : Int), (22 : Int))]).length
        simp; omega
      have hpA := fun w => run_preA w a n n cap (n : Int) rfl (by omega)
      have hpB := fun w => run_preA w a2 n lb cap2 (n : Int) rfl (by omega)
      clear h1 hW1 h2 t2 e3 e4 t4 e5 e6 t6 r3 hb3 ap1 ap2 rx4 ry6 bx4 by6 r5 hb5 hb24 hb46 H0 hs1 hW0s l1 l2 nx ny lx ly hK6 hs3 hs5 cx2 cy2 hW2
      go_enter Try.func8, Try.ntmps8
      go_upto_region 10 with (first | (go_at_call 9; first | (refine Calls.mono CN1.out ?_; rintro e V ⟨rfl, hV⟩; obtain rfl := hV; clear CN1) | (refine Calls.mono CN2.out ?_; rintro e V ⟨rfl, hV⟩; obtain rfl := hV)) | (at_builtin; first | (refine wpList_append_run _ rfl (.tmp 34) (.tmp 37) 40 40 rfl _ _ rfl rfl AP1.out ?_) | (refine wpList_append_run _ rfl (.tmp 39) (.tmp 42) 40 40 rfl _ _ rfl rfl AP2.out ?_)))
      have K6k : Hid (RK W6 q key1 23) := HK6.out.1
      have K6n : Hid (RK W6 (q + 1 + 1) nonce1 26) := HK6.out.2.2.1
      go_upto_region 11 with (first | (go_at_call 17; refine Calls.mono CX1.out ?_; rintro e w7 ⟨rfl, t7⟩; have T7 : Hid _ := t7; clear t7) | (with_reducible refine at_list ?_; first | (refine wpList_load_row rfl 23 (.tmp 8) rfl (q) rfl 23 (VN .u8 key1) (0, 0) _ K6k.out Try.underlying23 rfl HIK1.out ?_) | (refine wpList_load_row rfl 26 (.tmp 12) rfl (q + 1 + 1) rfl 26 (VN .u8 nonce1) (0, 0) _ K6n.out Try.underlying26 rfl HIN1.out ?_)))
      obtain ⟨bl7, vs7, t7⟩ := T7.out.swap
      have t7' := t7.perm (bx' := (gy, .cells (VN .u8 Ly) 5) :: (gx, .cells (VN .u8 (xr Lx 0 n (ks key1 c1 nonce1))) 5) :: BX) (fun p hp => mem_swap2 hp)
      have CX2 : Hid _ := t7'.xor (by simp) key2 nonce2 c2 HKN.out.2.1 HKN.out.2.2.2 hc2 (HP.out.2.2 _) (.inl rfl) HP.out.1 0 n capy (by omega) cy1 (by have := HP.out.2.1; omega)
      have k7 := HR6.out w7 _ _ _ _ _ _ [_, _] t7'
      have K7k : Hid (RK w7 (q + 1) key2 23) := k7.2.1
      have K7n : Hid (RK w7 (q + 1 + 1 + 1) nonce2 26) := k7.2.2.2
      clear t7 t7' k7 T7 CX1 K6k K6n HK6
      go_upto_region 12 with (first | (go_at_call 17; refine Calls.mono CX2.out ?_; rintro e w8 ⟨rfl, t8⟩; have T8 : Hid _ := t8; clear t8) | (with_reducible refine at_list ?_; first | (refine wpList_load_row rfl 23 (.tmp 9) rfl (q + 1) rfl 23 (VN .u8 key2) (0, 0) _ K7k.out Try.underlying23 rfl HIK2.out ?_) | (refine wpList_load_row rfl 26 (.tmp 13) rfl (q + 1 + 1 + 1) rfl 26 (VN .u8 nonce2) (0, 0) _ K7n.out Try.underlying26 rfl HIN2.out ?_)))
      obtain ⟨bl8, vs8, t8⟩ := T8.out.swap
      have CB1 : Hid _ := t8.block (by have := HLX.out; simp; omega) key1 nonce1 c1 HKN.out.1 HKN.out.2.2.1 hc1
      have k8 := HR6.out w8 _ _ _ _ _ _ [_, _] t8
      have K8k : Hid (RK w8 q key1 23) := k8.1
      have K8n : Hid (RK w8 (q + 1 + 1) nonce1 26) := k8.2.2.1
      clear t8 k8 T8 CX2 K7k K7n
      go_upto_region 13 with (first | (go_at_call 11; refine Calls.mono CB1.out ?_; rintro e w9 ⟨rfl, t9⟩; have T9 : Hid _ := t9; clear t9) | (with_reducible refine at_list ?_; first | (refine wpList_load_row rfl 23 (.tmp 8) rfl (q) rfl 23 (VN .u8 key1) (0, 0) _ K8k.out Try.underlying23 rfl HIK1.out ?_) | (refine wpList_load_row rfl 26 (.tmp 12) rfl (q + 1 + 1) rfl 26 (VN .u8 nonce1) (0, 0) _ K8n.out Try.underlying26 rfl HIN1.out ?_)))
      obtain ⟨bl9, vs9, t9⟩ := T9.out.swap
      have CB2 : Hid _ := t9.block (by have := HLX.out; simp; omega) key2 nonce2 c2 HKN.out.2.1 HKN.out.2.2.2 hc2
      have k9 := HR6.out w9 _ _ _ _ _ _ [_, _] t9
      have K9k : Hid (RK w9 (q + 1) key2 23) := k9.2.1
      have K9n : Hid (RK w9 (q + 1 + 1 + 1) nonce2 26) := k9.2.2.2
      clear t9 k9 T9 CB1 K8k K8n
      go_upto_region 14 with (first | (go_at_call 11; refine Calls.mono CB2.out ?_; rintro e w10 ⟨rfl, t10⟩; have T10 : Hid _ := t10; clear t10) | (with_reducible refine at_list ?_; first | (refine wpList_load_row rfl 23 (.tmp 9) rfl (q + 1) rfl 23 (VN .u8 key2) (0, 0) _ K9k.out Try.underlying23 rfl HIK2.out ?_) | (refine wpList_load_row rfl 26 (.tmp 13) rfl (q + 1 + 1 + 1) rfl 26 (VN .u8 nonce2) (0, 0) _ K9n.out Try.underlying26 rfl HIN2.out ?_)))
      obtain ⟨bl10, vs10, t10⟩ := T10.out.swap
      have CS : Hid _ := t10.same (by have := HLX.out; simp; omega)
      have HTot : Hid (4 ≤ ((([] ++ xlog n) ++ [((3 : Int), (22 : Int))]).length : Int)) := by
        have := HTG.out
        exact Int.ofNat_le.2 this
      clear t10 T10 CB2 K9k K9n
      generalize ([] ++ xlog n) ++ [((3 : Int), (22 : Int))] = LG at *
      have hT4 := HTot.out
      go_wp2_with (first | (go_at_call 23; refine Calls.mono CS.out ?_; rintro e w11 ⟨rfl, t11⟩; have T11 : Hid _ := t11; clear t11) | (go_at_call 22; refine Calls.mono (v_total T11.out.ev) ?_; rintro e w12 ⟨rfl, hw12⟩; obtain rfl := hw12) | (go_at_call 15; refine (known_any w12).mono ?_; rintro e w13 ⟨rfl, h13⟩; have H13 : Hid (Below q w w13) := (T11.out.ev.below h13).old; clear h13))
      go_ret
      exact ⟨rfl, by rw [HQ.out]; exact H13.out⟩
end Go.Proofs.Ytefnlaookmpbhaa
