import Derived.Test.YtefnlaookmpbhaaStrO
namespace Go.Proofs.Ytefnlaookmpbhaa
set_option linter.unusedSimpArgs false
set_option linter.unusedVariables false
open Go.ChangeShapes Go.WideShapes Go.ChangeAt Go.RowKit Go.Pin Go.Str
/-- the bytes of a block -/
def kb (key : List Nat) (c : Nat) (nonce : List Nat) : List Nat := (List.range 64).map (ks key c nonce)
theorem kb_len (key : List Nat) (c : Nat) (nonce : List Nat) : (kb key c nonce).length = 64 := by simp [kb]
theorem kb_at (key : List Nat) (c : Nat) (nonce : List Nat) (j : Nat) (hj : j < 64) : (kb key c nonce).getD j 0 = ks key c nonce j := by simp [kb, List.getD, hj]
theorem kb_bd (key : List Nat) (c : Nat) (nonce : List Nat) : ∀ x ∈ kb key c nonce, x < 256 := fun x hx => by
  simp only [kb, List.mem_map] at hx
  obtain ⟨j, _, rfl⟩ := hx
  exact ks_lt _ _ _ _
theorem rep_bd (n : Nat) : ∀ x ∈ List.replicate n 0, x < 256 := fun x hx => by rw [List.eq_of_mem_replicate hx]; decide
theorem rep_at (n j : Nat) : (List.replicate n (0 : Nat)).getD j 0 = 0 := by simp only [List.getD, List.getElem?_replicate]; split <;> rfl
theorem block_bytes (key : List Nat) (c : Nat) (nonce : List Nat) (hc : c < 4294967296) : xr (List.replicate 64 0) 0 64 (bt (blk (st key c nonce))) = kb key c nonce := by
  apply list_ext (by rw [xr_len, kb_len, List.length_replicate])
  intro j hj
  rw [xr_len, List.length_replicate] at hj
  have h := bt_ks key c nonce 0 j rfl hj
  rw [cat0 _ hc, Nat.zero_add] at h
  rw [xr_at _ _ _ _ _ (by rw [List.length_replicate]; exact hj), if_pos (by omega), kb_at _ _ _ _ hj, ← h, Nat.sub_zero, rep_at, Nat.zero_xor]
theorem but_setRow (w : World) (g : Nat) (cs : Array Value) : But (fun k => k = g) w (w.setRow g cs) := ⟨rfl, rfl, rfl, size_setRow _ _ _, fun k hk => setRow_other w g k cs (fun e => hk e)⟩
set_option maxRecDepth 100000 in
set_option maxHeartbeats 4000000 in
theorem block_any {B : Nat} {w : World} {rv : Value} {l : List (Int × Int)} {bx : List (Nat × Obj)} {w0 : World} (h : Ev B w rv l bx w0) (hl : l.length ≤ 1000000) (key nonce : List Nat) (c : Nat) (hk : Bs 32 key) (hn : Bs 12 nonce) (hc : c < 4294967296) :
    Calls Try.prog 11 #[rv, .agg (VN .u8 key), .int .u32 (c : Int), .agg (VN .u8 nonce)] w0 fun e w' => e = .returned (.agg (VN .u8 (kb key c nonce))) ∧ Ev B w rv (l ++ [(3, 22)]) bx w' := by
  obtain ⟨q, hq⟩ : ∃ q, w0.heap.size = q := ⟨_, rfl⟩
  have e3 := ((h.new (.cells (VN .u8 key) 23)).new (.cells (VN .u8 nonce) 26)).new (.cells (VN .u8 (List.replicate 64 0)) 29)
  simp only [size_alloc, hq] at e3
  obtain ⟨W0, hW0⟩ : ∃ W, ((w0.alloc (.cells (VN .u8 key) 23)).alloc (.cells (VN .u8 nonce) 26)).alloc (.cells (VN .u8 (List.replicate 64 0)) 29) = W := ⟨_, rfl⟩
  rw [hW0] at e3
  have hW0' : ((w0.alloc (.cells (VN .u8 key) 23)).alloc (.cells (VN .u8 nonce) 26)).alloc (.cells #[.int .u8 0, .int .u8 0, .int .u8 0, .int .u8 0, .int .u8 0, .int .u8 0, .int .u8 0, .int .u8 0, .int .u8 0, .int .u8 0, .int .u8 0, .int .u8 0, .int .u8 0, .int .u8 0, .int .u8 0, .int .u8 0, .int .u8 0, .int .u8 0, .int .u8 0, .int .u8 0, .int .u8 0, .int .u8 0, .int .u8 0, .int .u8 0, .int .u8 0, .int .u8 0, .int .u8 0, .int .u8 0, .int .u8 0, .int .u8 0, .int .u8 0, .int .u8 0, .int .u8 0, .int .u8 0, .int .u8 0, .int .u8 0, .int .u8 0, .int .u8 0, .int .u8 0, .int .u8 0, .int .u8 0, .int .u8 0, .int .u8 0, .int .u8 0, .int .u8 0, .int .u8 0, .int .u8 0, .int .u8 0, .int .u8 0, .int .u8 0, .int .u8 0, .int .u8 0, .int .u8 0, .int .u8 0, .int .u8 0, .int .u8 0, .int .u8 0, .int .u8 0, .int .u8 0, .int .u8 0, .int .u8 0, .int .u8 0, .int .u8 0, .int .u8 0] 29) = W0 := hW0
  have hbxq : ∀ p ∈ bx, p.1 < q := fun p hp => by rw [← hq]; exact heap_lt (h.at' p hp)
  have HOP : Hid (Calls Try.prog 26 #[rv, .int .i64 22] W0 fun e w' => e = .returned (.tuple #[]) ∧ Ev B w rv (l ++ [(3, 22)]) ((q + 1 + 1, .cells (VN .u8 (List.replicate 64 0)) 29) :: (q + 1, .cells (VN .u8 nonce) 26) :: (q, .cells (VN .u8 key) 23) :: bx) w') := v_op e3 hl 22
  have HIK : Hid ((Try.prog.info? 23).map (·.size) = some (VN .u8 key).size) := infoK hk.len
  have HIN : Hid ((Try.prog.info? 26).map (·.size) = some (VN .u8 nonce).size) := infoNn hn.len
  have HIB : Hid ((Try.prog.info? 29).map (·.size) = some (VN .u8 (kb key c nonce)).size) := infoB (kb_len _ _ _)
  have HSB : Hid ((VN .u8 (List.replicate 64 0)).size = (VN .u8 (kb key c nonce)).size) := by
    have : (VN .u8 (List.replicate 64 0)).size = (VN .u8 (kb key c nonce)).size := by rw [VN_size, VN_size, kb_len, List.length_replicate]
    exact this
  have HBG : Hid (∀ w, Calls Try.prog 28 #[.agg (VN .u8 key), .int .u32 (c : Int), .agg (VN .u8 nonce)] w fun e w' => e = .returned (.agg (VN .u32 (Str.st key c nonce))) ∧ Below w.heap.size w w') := fun w => begin_any key nonce c hk hn hc w
  have HTO : Hid (∀ g w, RB w g (List.replicate 64 0) 29 (0, 0) → Calls Try.prog 27 #[.pointer (some ⟨g, 0, none⟩), .agg (VN .u32 (Str.st key c nonce))] w fun e w' => e = .returned (.tuple #[]) ∧ Grow (fun k => k = g) w w' ∧ RB w' g (kb key c nonce) 29 (0, 0)) := fun g w h => by
    have := turnOne_any g 0 (Str.st key c nonce) (st_st hk hn hc) _ 29 (0, 0) w h (by simp)
    rw [block_bytes _ _ _ hc] at this
    exact this
  have HXQ : Hid (∀ p ∈ bx, p.1 < q) := hbxq
  clear e3 h hW0 hk hn hbxq hl
  obtain ⟨kbs, hkb⟩ : ∃ x, kb key c nonce = x := ⟨_, rfl⟩
  have HKB : Hid (kb key c nonce = kbs) := hkb
  rw [hkb] at HIB HSB HTO
  clear hkb
  go_enter Try.func11, Try.ntmps11
  go_upto_region 3 with (first | (go_at_call 26; refine Calls.mono HOP.out ?_; rintro e w2 ⟨rfl, h2⟩; have H2 : Hid _ := h2; clear h2))
  obtain ⟨m, hm⟩ : ∃ m, w2.heap.size = m := ⟨_, rfl⟩
  have e4 := H2.out.new (.cells (VN .u8 (List.replicate 64 0)) 29)
  obtain ⟨W3, hW3⟩ : ∃ W, w2.alloc (.cells (VN .u8 (List.replicate 64 0)) 29) = W := ⟨_, rfl⟩
  rw [hW3, hm] at e4
  have hW3' : w2.alloc (.cells #[.int .u8 0, .int .u8 0, .int .u8 0, .int .u8 0, .int .u8 0, .int .u8 0, .int .u8 0, .int .u8 0, .int .u8 0, .int .u8 0, .int .u8 0, .int .u8 0, .int .u8 0, .int .u8 0, .int .u8 0, .int .u8 0, .int .u8 0, .int .u8 0, .int .u8 0, .int .u8 0, .int .u8 0, .int .u8 0, .int .u8 0, .int .u8 0, .int .u8 0, .int .u8 0, .int .u8 0, .int .u8 0, .int .u8 0, .int .u8 0, .int .u8 0, .int .u8 0, .int .u8 0, .int .u8 0, .int .u8 0, .int .u8 0, .int .u8 0, .int .u8 0, .int .u8 0, .int .u8 0, .int .u8 0, .int .u8 0, .int .u8 0, .int .u8 0, .int .u8 0, .int .u8 0, .int .u8 0, .int .u8 0, .int .u8 0, .int .u8 0, .int .u8 0, .int .u8 0, .int .u8 0, .int .u8 0, .int .u8 0, .int .u8 0, .int .u8 0, .int .u8 0, .int .u8 0, .int .u8 0, .int .u8 0, .int .u8 0, .int .u8 0, .int .u8 0] 29) = W3 := hW3
  rw [hW3', hm]
  have hqm : q + 1 + 1 < m := by rw [← hm]; exact H2.out.lt (List.mem_cons_self ..)
  have H4 : Hid (Ev B w rv (l ++ [(3, 22)]) ((m, .cells (VN .u8 (List.replicate 64 0)) 29) :: (q + 1 + 1, .cells (VN .u8 (List.replicate 64 0)) 29) :: (q + 1, .cells (VN .u8 nonce) 26) :: (q, .cells (VN .u8 key) 23) :: bx) W3) := e4
  have HK4 : Hid (RK W3 q key 23) := e4.row (by simp)
  have HN4 : Hid (RK W3 (q + 1) nonce 26) := e4.row (by simp)
  clear e4 hW3' hW3 hm HOP hW0' H2
  go_wp2_with (first | (go_at_call 28; refine (HBG.out W3).mono ?_; rintro e w5 ⟨rfl, hb5⟩; have h5 := H4.out.below hb5; have H5 : Hid _ := h5; clear h5 hb5) | (go_at_call 27; refine (HTO.out m w5 ⟨H5.out.row (List.mem_cons_self ..), .inl rfl, rep_bd 64⟩).mono ?_; rintro e w6 ⟨rfl, hg6, hr6⟩; have h6 := H5.out.set rfl (fun p hp => by rcases List.mem_cons.1 hp with rfl | hp; (show q + 1 + 1 ≠ m; omega); rcases List.mem_cons.1 hp with rfl | hp; (show q + 1 ≠ m; omega); rcases List.mem_cons.1 hp with rfl | hp; (show q ≠ m; omega); (have := HXQ.out p hp; omega)) hg6 hr6.row; have H6 : Hid (Ev B w rv (l ++ [(3, 22)]) ((m, .cells (VN .u8 kbs) 29) :: (q + 1 + 1, .cells (VN .u8 (List.replicate 64 0)) 29) :: (q + 1, .cells (VN .u8 nonce) 26) :: (q, .cells (VN .u8 key) 23) :: bx) w6) := h6; have HM6 : Hid (RK w6 m kbs 29) := h6.row (by simp); have HR6 : Hid (RK w6 (q + 1 + 1) (List.replicate 64 0) 29) := h6.row (by simp); clear h6 hg6 hr6) | (with_reducible refine at_list ?_; first | (refine wpList_load_row rfl 23 (.tmp 5) rfl q rfl 23 (VN .u8 key) (0, 0) _ HK4.out Try.underlying23 rfl HIK.out ?_) | (refine wpList_load_row rfl 26 (.tmp 7) rfl (q + 1) rfl 26 (VN .u8 nonce) (0, 0) _ HN4.out Try.underlying26 rfl HIN.out ?_) | (refine wpList_load_row rfl 29 (.tmp 9) rfl m rfl 29 (VN .u8 kbs) (0, 0) _ HM6.out Try.underlying29 rfl HIB.out ?_) | (refine wpList_store_row rfl 29 (.tmp 8) (.tmp 17) rfl (q + 1 + 1) (VN .u8 kbs) rfl rfl 29 (VN .u8 (List.replicate 64 0)) HR6.out HIB.out HSB.out (VN_one _ _) ?_)))
  have hfin : Ev B w rv (l ++ [(3, 22)]) bx (w6.setRow (q + 1 + 1) (VN .u8 kbs)) := by
    have h7 := (H6.out.sub (by' := (q + 1 + 1, .cells (VN .u8 (List.replicate 64 0)) 29) :: bx) (fun p hp => by
      rcases List.mem_cons.1 hp with rfl | hp
      · simp
      · simp [hp])).set rfl (fun p hp => by have := HXQ.out p hp; omega) (Grow.of_but (but_setRow w6 (q + 1 + 1) (VN .u8 kbs))) (setRow_heap _ _ _ _ _ _ HR6.out)
    exact h7.sub (fun p hp => List.mem_cons_of_mem _ hp)
  refine bodyPost_ret (v := .agg (VN .u8 kbs)) ?_ rfl ⟨by rw [HKB.out], hfin⟩
  exact results_cell_row (P := Try.prog) (fn := Try.f11) (p := 8) (ty := 29) rfl _ _ (q + 1 + 1) 29 (VN .u8 kbs) (0, 0) _ rfl (setRow_heap _ _ _ _ 29 _ HR6.out) Try.underlying29 rfl HIB.out
end Go.Proofs.Ytefnlaookmpbhaa
