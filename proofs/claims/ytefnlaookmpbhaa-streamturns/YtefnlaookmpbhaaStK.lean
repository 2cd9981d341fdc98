import Derived.Test.YtefnlaookmpbhaaRsD
import Derived.Test.YtefnlaookmpbhaaStrU
import Derived.Test.YtefnlaookmpbhaaTrE
import Derived.Test.YtefnlaookmpbhaaTrS
namespace Go.Proofs.Ytefnlaookmpbhaa
set_option linter.unusedSimpArgs false
set_option linter.unusedVariables false
open Go.ChangeShapes Go.WideShapes Go.ChangeAt Go.RowKit Go.Pin Go.Str
theorem wpList_load_row_g {P : Program} {ops : Array Oper} {rest : List Oper} {o : Oper} {a : Act} {w : World} {Q : Exit → Act → World → Prop} (hw : Region.wanted o (yielded ops a.tmps) = true) (ty : TypeId) (x : Operand) (ho : o.op = .load ty x)
    (g : Nat) (hx : a.eval x = .pointer (some ⟨g, 0, none⟩)) (t : TypeId) (cs : Array Value) (fr : Nat × Nat) (d : TypeDesc) (hg : w.heap[g]? = some (.cells cs t fr))
    (hu : P.underlying ty = some d) (hd : (match d with | .struct _ | .array _ _ => true | _ => false) = true) (hi : (P.info? ty).map (·.size) = some cs.size)
    (h : wpList P ops Q rest (a.put o.dst (.agg cs)) w) : wpList P ops Q (o :: rest) a w := by
  unfold wpList
  rw [if_pos hw]
  exact .inl (wp_load_row ty x ho g hx t cs fr d hg hu hd hi h)
theorem rop2 (v : Int) (w : World) : Calls Try.prog 14 #[.int .i64 v] w fun e w' => e = .returned (.agg #[.int .i64 3, .int .i64 v]) ∧ w' = w.alloc (.cells #[.int .i64 3, .int .i64 v] 36) := by
  go_enter Try.func14, Try.ntmps14
  go_wp2
  exact bodyPost_ret (v := .agg #[.int .i64 3, .int .i64 v]) (by simp [results, Try.results14, go_sem]) rfl ⟨rfl, rfl⟩
theorem rat2 (v : Int) (w : World) : Calls Try.prog 34 #[.int .i64 v] w fun e w' => e = .returned (.agg #[.int .i64 2, .int .i64 v]) ∧ w' = w.alloc (.cells #[.int .i64 2, .int .i64 v] 36) := by
  go_enter Try.func34, Try.ntmps34
  go_wp2
  exact bodyPost_ret (v := .agg #[.int .i64 2, .int .i64 v]) (by simp [results, Try.results34, go_sem]) rfl ⟨rfl, rfl⟩
theorem rif2 (b : Bool) (w : World) : Calls Try.prog 33 #[.bool b] w fun e w' => e = .returned (.agg #[.int .i64 1, .int .i64 (if b then 1 else 0)]) ∧ w' = w.alloc (.cells #[.int .i64 1, .int .i64 (if b then 1 else 0)] 36) := by
  cases b
  · go_enter Try.func33, Try.ntmps33
    go_wp2
    exact bodyPost_ret (v := .agg #[.int .i64 1, .int .i64 0]) (by simp [results, Try.results33, go_sem]) rfl ⟨rfl, rfl⟩
  · go_enter Try.func33, Try.ntmps33
    go_wp2
    exact bodyPost_ret (v := .agg #[.int .i64 1, .int .i64 1]) (by simp [results, Try.results33, go_sem]) rfl ⟨rfl, rfl⟩
theorem eq64 (w : World) (l : List Nat) (hl : l.length = 64) (d : Nat) : (Op.equalIn (d + 2) 29 (.agg (VN .u8 l)) (.agg (VN .u8 l))).run Try.prog w = .ok true w := by
  have := run_equalIn_row (P := Try.prog) w d 29 5 .u8 64 (l.map Int.ofNat) (l.map Int.ofNat) (by simpa using hl) (by simpa using hl) Try.underlying29 Try.underlying5 size_u8
  rw [beq_self_eq_true] at this
  exact this
theorem Ev.recO {B : Nat} {w : World} {R : Nat} {l : List (Int × Int)} {bx : List (Nat × Obj)} {W : World} (h : Ev B w (.pointer (some ⟨R, 0, none⟩)) l bx W) : ∃ vs, RecO W (.pointer (some ⟨R, 0, none⟩)) vs l := by
  rcases h.rc with e | ⟨R', vs, e, h2, h3⟩
  · cases e
  · injection e with e; injection e with e; injection e with e1; subst e1
    exact ⟨vs, h2.opt⟩
set_option maxRecDepth 100000 in
set_option maxHeartbeats 8000000 in
theorem blocks_walk (key nonce : List Nat) (c : Nat) (hk : Bs 32 key) (hn : Bs 12 nonce) (hc : c < 4294967296) (w : World) :
    Calls Try.prog 3 #[.agg (VN .u8 key), .int .u32 (c : Int), .agg (VN .u8 nonce)] w fun e w' => e = .returned (.bool true) ∧ Below w.heap.size w w' := by
  have h0 := ((ev_nil' w).new (.cells (VN .u8 key) 23)).new (.cells (VN .u8 nonce) 26)
  obtain ⟨q, hq⟩ : ∃ q, w.heap.size = q := ⟨_, rfl⟩
  simp only [size_alloc, hq] at h0
  obtain ⟨W0, hW0⟩ : ∃ W, (w.alloc (.cells (VN .u8 key) 23)).alloc (.cells (VN .u8 nonce) 26) = W := ⟨_, rfl⟩
  rw [hW0] at h0
  have s0 : W0.heap.size = q + 2 := by rw [← hW0, ← hq]; simp [size_alloc]
  have h1 := h0.withRec
  obtain ⟨W1, hW1⟩ : ∃ W, W0.alloc (.cells #[.slice none 0 0, .int .i64 0] 60) = W := ⟨_, rfl⟩
  rw [hW1, s0] at h1
  have CN : Hid (Calls Try.prog 9 #[] W0 fun e w' => e = .returned (.pointer (some ⟨q + 2, 0, none⟩)) ∧ w' = W1) := by
    have := new_any W0
    rw [s0, hW1] at this
    exact this
  have H1 : Hid (Ev q w (.pointer (some ⟨q + 2, 0, none⟩)) [] [(q + 1, .cells (VN .u8 nonce) 26), (q, .cells (VN .u8 key) 23)] W1) := h1
  have HK1 : Hid (RK W1 q key 23) := h1.row (by simp)
  have HN1 : Hid (RK W1 (q + 1) nonce 26) := h1.row (by simp)
  have HIK : Hid ((Try.prog.info? 23).map (·.size) = some (VN .u8 key).size) := infoK hk.len
  have HIN : Hid ((Try.prog.info? 26).map (·.size) = some (VN .u8 nonce).size) := infoNn hn.len
  have CRB : Hid (Calls Try.prog 10 #[.agg (VN .u8 key), .int .u32 (c : Int), .agg (VN .u8 nonce)] W1 fun e w' => e = .returned (.agg (VN .u8 (kb key c nonce))) ∧ Below W1.heap.size W1 w') := rblock key nonce c hk hn hc W1
  have CB : Hid (∀ rv l bx W, Ev q w rv l bx W → l.length ≤ 1000000 → Calls Try.prog 11 #[rv, .agg (VN .u8 key), .int .u32 (c : Int), .agg (VN .u8 nonce)] W fun e w' => e = .returned (.agg (VN .u8 (kb key c nonce))) ∧ Ev q w rv (l ++ [(3, 22)]) bx w') := fun rv l bx W h hl => block_any h hl key nonce c hk hn hc
  have CBN : Hid (∀ W, Calls Try.prog 11 #[.pointer none, .agg (VN .u8 key), .int .u32 (c : Int), .agg (VN .u8 nonce)] W fun e w' => e = .returned (.agg (VN .u8 (kb key c nonce))) ∧ Below W.heap.size W w') := fun W => by
    refine (block_any (ev_nil' W) (by simp) key nonce c hk hn hc).mono ?_
    rintro e w' ⟨he, h⟩
    exact ⟨he, h.old⟩
  have HQ : Hid (w.heap.size = q) := hq
  have HIB : Hid ((Try.prog.info? 29).map (·.size) = some (VN .u8 (kb key c nonce)).size) := infoB (kb_len _ _ _)
  have HSB : Hid ((VN .u8 (List.replicate 64 0)).size = (VN .u8 (kb key c nonce)).size) := by
    have : (VN .u8 (List.replicate 64 0)).size = (VN .u8 (kb key c nonce)).size := by rw [VN_size, VN_size, kb_len, List.length_replicate]
    exact this
  have HE : Hid (∀ w d, (Op.equalIn (d + 2) 29 (.agg (VN .u8 (kb key c nonce))) (.agg (VN .u8 (kb key c nonce)))).run Try.prog w = .ok true w) := fun w d => eq64 w _ (kb_len _ _ _) d
  clear h0 h1 hk hn hW1 s0
  obtain ⟨kbs, hkb⟩ : ∃ x, kb key c nonce = x := ⟨_, rfl⟩
  rw [hkb] at CRB CB HIB HSB HE
  simp only [hkb] at CBN
  clear hkb
  go_enter Try.func3, Try.ntmps3
  go_wp2_with (first | (go_at_call 9; refine Calls.mono CN.out ?_; rintro e V ⟨rfl, hV⟩; obtain rfl := hV) | (go_at_call 10; refine Calls.mono CRB.out ?_; rintro e w2 ⟨rfl, hb2⟩; have h2 := H1.out.below hb2; have H2 : Hid _ := h2; clear h2 hb2) | (with_reducible refine at_list ?_; first | (refine wpList_load_row rfl 23 (.tmp 3) rfl q rfl 23 (VN .u8 key) (0, 0) _ HK1.out Try.underlying23 rfl HIK.out ?_) | (refine wpList_load_row rfl 26 (.tmp 5) rfl (q + 1) rfl 26 (VN .u8 nonce) (0, 0) _ HN1.out Try.underlying26 rfl HIN.out ?_) | (refine hold_store 29 (.tmp 8) (.tmp 15) rfl ?_)))
  refine store_row_new rfl 29 (.tmp 8) (.tmp 15) rfl w2.heap.size (VN .u8 kbs) rfl rfl rfl 29 (VN .u8 (List.replicate 64 0)) HIB.out HSB.out (VN_one _ _) ?_
  have h3 := H2.out.new (.cells (VN .u8 kbs) 29)
  obtain ⟨W3, hW3⟩ : ∃ W, w2.alloc (.cells (VN .u8 kbs) 29) = W := ⟨_, rfl⟩
  obtain ⟨m1, hm1⟩ : ∃ m, w2.heap.size = m := ⟨_, rfl⟩
  rw [hW3, hm1] at h3 ⊢
  have C3 : Hid _ := CB.out _ _ _ W3 h3 (by simp)
  have HK3 : Hid (RK W3 q key 23) := h3.row (by simp)
  have HN3 : Hid (RK W3 (q + 1) nonce 26) := h3.row (by simp)
  clear h3 hW3 H2 H1 HK1 HN1 CN CRB
  go_wp2_with (first | (go_at_call 11; refine Calls.mono C3.out ?_; rintro e w4 ⟨rfl, h4⟩; have H4 : Hid _ := h4; clear h4) | (with_reducible refine at_list ?_; first | (refine wpList_load_row rfl 23 (.tmp 3) rfl q rfl 23 (VN .u8 key) (0, 0) _ HK3.out Try.underlying23 rfl HIK.out ?_) | (refine wpList_load_row rfl 26 (.tmp 5) rfl (q + 1) rfl 26 (VN .u8 nonce) (0, 0) _ HN3.out Try.underlying26 rfl HIN.out ?_) | (refine hold_store 29 (.tmp 9) (.tmp 20) rfl ?_)))
  refine store_row_new rfl 29 (.tmp 9) (.tmp 20) rfl w4.heap.size (VN .u8 kbs) rfl rfl rfl 29 (VN .u8 (List.replicate 64 0)) HIB.out HSB.out (VN_one _ _) ?_
  have h5 := H4.out.new (.cells (VN .u8 kbs) 29)
  obtain ⟨W5, hW5⟩ : ∃ W, w4.alloc (.cells (VN .u8 kbs) 29) = W := ⟨_, rfl⟩
  obtain ⟨m2, hm2⟩ : ∃ m, w4.heap.size = m := ⟨_, rfl⟩
  rw [hW5, hm2] at h5 ⊢
  have H5 : Hid _ := h5
  have HK5 : Hid (RK W5 q key 23) := h5.row (by simp)
  have HN5 : Hid (RK W5 (q + 1) nonce 26) := h5.row (by simp)
  have C5 : Hid (Calls Try.prog 11 #[.pointer none, .agg (VN .u8 key), .int .u32 (c : Int), .agg (VN .u8 nonce)] W5 fun e w' => e = .returned (.agg (VN .u8 kbs)) ∧ Below W5.heap.size W5 w') := by
    refine Calls.mono (CBN.out W5) ?_
    rintro e w' ⟨he, h⟩
    exact ⟨he, h⟩
  clear h5 hW5 H4 C3 HK3 HN3
  go_wp2_with (first | (go_at_call 11; refine Calls.mono C5.out ?_; rintro e w6 ⟨rfl, hb6⟩; have h6 := H5.out.below hb6; have H6 : Hid _ := h6; clear h6 hb6) | (with_reducible refine at_list ?_; first | (refine wpList_load_row rfl 23 (.tmp 3) rfl q rfl 23 (VN .u8 key) (0, 0) _ HK5.out Try.underlying23 rfl HIK.out ?_) | (refine wpList_load_row rfl 26 (.tmp 5) rfl (q + 1) rfl 26 (VN .u8 nonce) (0, 0) _ HN5.out Try.underlying26 rfl HIN.out ?_) | (refine hold_store 29 (.tmp 10) (.tmp 24) rfl ?_)))
  refine store_row_new rfl 29 (.tmp 10) (.tmp 24) rfl w6.heap.size (VN .u8 kbs) rfl rfl rfl 29 (VN .u8 (List.replicate 64 0)) HIB.out HSB.out (VN_one _ _) ?_
  have h7 := H6.out.new (.cells (VN .u8 kbs) 29)
  obtain ⟨W7, hW7⟩ : ∃ W, w6.alloc (.cells (VN .u8 kbs) 29) = W := ⟨_, rfl⟩
  obtain ⟨m3, hm3⟩ : ∃ m, w6.heap.size = m := ⟨_, rfl⟩
  rw [hW7, hm3] at h7 ⊢
  have H7 : Hid _ := h7
  have M1 : Hid (RK W7 m1 kbs 29) := h7.row (by simp)
  have M2 : Hid (RK W7 m2 kbs 29) := h7.row (by simp)
  have M3 : Hid (RK W7 m3 kbs 29) := h7.row (by simp)
  obtain ⟨vs7, r7⟩ := h7.recO
  have CE : Hid _ := tEvents_any _ vs7 _ (by simp) W7 r7
  have he := fun (w : World) => HE.out w 9998
  clear h7 hW7 H6 HK5 HN5 C5 r7
  go_wp2_with (first | (go_at_call 13; refine Calls.mono CE.out ?_; rintro e w8 ⟨u8, rfl, o8, hb8⟩; have O8 : Hid _ := o8; have h8 := H7.out.below hb8; have H8 : Hid _ := h8; clear h8 hb8 o8) | (go_at_call 14; refine (rop2 22 w8).mono ?_; rintro e w9 ⟨rfl, hw9⟩; obtain rfl := hw9) | (with_reducible refine at_list ?_; first | (refine wpList_load_row rfl 29 (.tmp 9) rfl m2 rfl 29 (VN .u8 kbs) (0, 0) _ M2.out Try.underlying29 rfl HIB.out ?_) | (refine wpList_load_row rfl 29 (.tmp 8) rfl m1 rfl 29 (VN .u8 kbs) (0, 0) _ M1.out Try.underlying29 rfl HIB.out ?_) | (refine wpList_load_row_g (by kernel_rfl) 29 (.tmp 10) rfl m3 rfl 29 (VN .u8 kbs) (0, 0) _ M3.out Try.underlying29 rfl HIB.out ?_) | (refine wpList_load_row_g (by kernel_rfl) 29 (.tmp 8) rfl m1 rfl 29 (VN .u8 kbs) (0, 0) _ M1.out Try.underlying29 rfl HIB.out ?_)))
  obtain ⟨W9, hW9⟩ : ∃ W, (w8.alloc (.cells #[.int .i64 3, .int .i64 22] 36)).alloc (.cells #[.int .i64 3, .int .i64 22] 36) = W := ⟨_, rfl⟩
  have hb9 : Below w8.heap.size w8 W9 := by rw [← hW9]; exact ((Below.refl _ _).alloc (Nat.le_refl _) _).alloc (by simp) _
  have sa : Sl W9 u8 2 (evC ([] ++ [(3, 22)])) ([((3 : Int), (22 : Int))]).length := sl_below hb9 (sl_of_owns O8.out)
  have r9 : W9.heap[w8.heap.size + 1]? = some (.cells #[.int .i64 3, .int .i64 22] 36 (0, 0)) := by rw [← hW9, heap_alloc_any, if_pos (by simp [size_alloc])]
  have sb : Sl W9 (.slice (some ⟨w8.heap.size + 1, 0, none⟩) 1 1) 2 (evC ([] ++ [(3, 22)])) ([((3 : Int), (22 : Int))]).length := by
    refine ⟨rfl, _, _, rfl, Nat.le_refl _, .inr ⟨_, _, rfl, fun j x hx => ?_⟩⟩
    rw [cell_of_row _ _ _ _ _ _ r9, Nat.zero_add]
    have hj : j < 2 := by have := (List.getElem?_eq_some_iff.1 hx).1; exact this
    rcases (by omega : j = 0 ∨ j = 1) with rfl | rfl
    · exact hx
    · exact hx
  rw [hW9]
  refine (rsame_any u8 _ _ W9 sa sb (by decide)).mono ?_
  rintro e w10 ⟨rfl, nd, rfl⟩
  have H10 : Hid (Below q w (W9.drewN nd)) := below_drewN' (H8.out.below hb9).old _
  clear sa sb r9 hb9 hW9
  go_wp2_with (first | (go_at_call 15; refine (known_any (W9.drewN nd)).mono ?_; rintro e w11 ⟨rfl, h11⟩; have H11 : Hid (Below q w w11) := H10.out.trans (h11.mono (by have := H10.out.size; have := HQ.out; omega)); clear h11))
  go_ret
  exact ⟨rfl, by rw [HQ.out]; exact H11.out⟩
end Go.Proofs.Ytefnlaookmpbhaa
