import Derived.Test.YtefnlaookmpbhaaStrP
namespace Go.Proofs.Ytefnlaookmpbhaa
set_option linter.unusedSimpArgs false
set_option linter.unusedVariables false
open Go.ChangeShapes Go.WideShapes Go.ChangeAt Go.RowKit Go.Pin Go.Str
def N12 : List Nat := [0, 0, 0, 0, 1, 2, 3, 4, 5, 6, 7, 8]
def kl (m : Nat) : List Nat := (List.range 32).map fun p => if p < m then p else 0
theorem kn : ks (kl 32) 1 N12 0 = 239 ∧ ks (kl 32) 1 N12 1 = 230 ∧ ks (kl 32) 1 N12 63 = 237 ∧ 107 ^^^ ks (kl 32) 1 N12 0 = 132 ∧ 108 ^^^ ks (kl 32) 1 N12 3 = 148 := by decide +kernel
theorem kl_len (m : Nat) : (kl m).length = 32 := by simp [kl]
theorem kl_set (m : Nat) (hm : m < 32) : (kl m).set m m = kl (m + 1) := by
  apply list_ext (by simp [kl_len])
  intro p hp
  simp only [List.length_set, kl_len] at hp
  by_cases e : p = m
  · subst e
    simp [List.getD, kl, hp]
  · have e' : ¬ m = p := fun h => e h.symm
    simp only [List.getD, List.getElem?_set_ne e', kl, List.getElem?_map, List.getElem?_range hp, Option.map_some, Option.getD_some]
    by_cases h : p < m
    · simp [h, show p < m + 1 by omega]
    · simp [h, show ¬ p < m + 1 by omega]
theorem kl_bs (m : Nat) : Bs 32 (kl m) := ⟨kl_len m, fun x hx => by
  simp only [kl, List.mem_map, List.mem_range] at hx
  obtain ⟨p, hp, rfl⟩ := hx
  split <;> omega⟩
theorem n12_bs : Bs 12 N12 := ⟨rfl, by decide⟩
/-- a new Recorder beside the boxes -/
theorem Ev.withRec {B : Nat} {w : World} {l : List (Int × Int)} {bx : List (Nat × Obj)} {wr : World} (h : Ev B w (.pointer none) l bx wr) : Ev B w (.pointer (some ⟨wr.heap.size, 0, none⟩)) [] bx (wr.alloc (.cells #[.slice none 0 0, .int .i64 0] 60)) := by
  have hb : Below wr.heap.size wr (wr.alloc (.cells #[.slice none 0 0, .int .i64 0] 60)) := (Below.refl _ _).alloc (Nat.le_refl _) _
  have h' := h.below hb
  refine ⟨h'.old, h'.le, h'.ge, h'.at', .inr ⟨_, _, rfl, (rec_new wr).mono h.le, fun p hp hk => ?_⟩⟩
  have := heap_lt (h.at' p hp)
  rcases hk with hk | hk
  · omega
  · cases hk
theorem v_total {B : Nat} {w : World} {R : Nat} {l : List (Int × Int)} {bx : List (Nat × Obj)} {wr : World} (h : Ev B w (.pointer (some ⟨R, 0, none⟩)) l bx wr) : Calls Try.prog 22 #[.pointer (some ⟨R, 0, none⟩)] wr fun e w' => e = .returned (.int .i64 l.length) ∧ w' = wr := by
  rcases h.rc with e | ⟨R', vs, e, h2, h3⟩
  · cases e
  · injection e with e; injection e with e; injection e with e1; subst e1
    exact total_any _ vs l wr h2.opt
set_option maxRecDepth 100000 in
set_option maxHeartbeats 8000000 in
theorem known_any (w : World) : Calls Try.prog 15 #[] w fun e w' => e = .returned (.bool true) ∧ Below w.heap.size w w' := by
  have h0 := (ev_nil' w).new (.cells (VN .u8 (kl 0)) 23)
  obtain ⟨n, hn⟩ : ∃ n, w.heap.size = n := ⟨_, rfl⟩
  obtain ⟨W, hW⟩ : ∃ W, w.alloc (.cells (VN .u8 (kl 0)) 23) = W := ⟨_, rfl⟩
  rw [hW, hn] at h0
  have hW' : w.alloc (.cells #[.int .u8 0, .int .u8 0, .int .u8 0, .int .u8 0, .int .u8 0, .int .u8 0, .int .u8 0, .int .u8 0, .int .u8 0, .int .u8 0, .int .u8 0, .int .u8 0, .int .u8 0, .int .u8 0, .int .u8 0, .int .u8 0, .int .u8 0, .int .u8 0, .int .u8 0, .int .u8 0, .int .u8 0, .int .u8 0, .int .u8 0, .int .u8 0, .int .u8 0, .int .u8 0, .int .u8 0, .int .u8 0, .int .u8 0, .int .u8 0, .int .u8 0, .int .u8 0] 23) = W := hW
  have H0 : Hid (Ev n w (.pointer none) [] [(n, .cells (VN .u8 (kl 0)) 23)] W) := h0
  have HN : Hid (w.heap.size = n) := hn
  have HS : Hid (∀ m w', m < 32 → Ev n w (.pointer none) [] [(n, .cells (VN .u8 (kl m)) 23)] w' → (∃ x : Nat, w'.cell? ⟨n, m, none⟩ = some (.int .u8 (x : Int))) ∧ w'.frozen? ⟨n, m, none⟩ = false ∧ Ev n w (.pointer none) [] [(n, .cells (VN .u8 (kl (m + 1))) 23)] (w'.setCell ⟨n, m, none⟩ (.int .u8 (m : Int)))) := fun m w' hm h => by
    have r : RB w' n (kl m) 23 (0, 0) := ⟨h.row (List.mem_cons_self ..), .inl rfl, (kl_bs m).bd⟩
    have r2 := r.set m m (by omega)
    rw [kl_set m hm] at r2
    exact ⟨⟨_, r.cell (by rw [kl_len]; exact hm)⟩, r.froz (by rw [kl_len]; exact hm), h.set rfl (by simp) (Grow.of_but ((But.refl (fun k => k = n) w').setCell (p := ⟨n, m, none⟩) rfl _)) r2.row⟩
  clear h0 hW
  go_enter Try.func15, Try.ntmps15
  go_wp2
  go_loopw [2] (fun v w' => ∃ m : Nat, m ≤ 32 ∧ v = .int .i64 m ∧ Ev n w (.pointer none) [] [(n, .cells (VN .u8 (kl m)) 23)] w') (fun v _ => 32 - (intOf v).toNat)
  case atStart => exact ⟨0, Nat.zero_le _, rfl, H0.out⟩
  case round =>
    clear H0 hW'
    obtain ⟨m, hm, rfl, hp⟩ := hrel
    by_cases hlt : m < 32
    · obtain ⟨⟨x, c1⟩, f1, h1⟩ := HS.out m wr hlt hp
      have b1 : (m : Int) < 32 := by omega
      have H1 : Hid (Ev n w (.pointer none) [] [(n, .cells (VN .u8 (kl (m + 1))) 23)] (wr.setCell ⟨n, m, none⟩ (.int .u8 (m : Int)))) := h1
      clear h1 hp HS
      go_wp2
      go_roundw
      case rel => exact ⟨m + 1, by omega, by go_num, H1.out⟩
      case measure => simp [intOf]; omega
    · have hm' : m = 32 := by omega
      rw [hm'] at hp
      clear HS hm'
      have HP : Hid (Ev n w (.pointer none) [] [(n, .cells (VN .u8 (kl 32)) 23)] wr) := hp
      clear hp
      go_wp2_with (with_reducible refine at_list ?_; refine hold_store 26 (.tmp 3) (.tmp 15) rfl ?_)
      refine store_row_new rfl 26 (.tmp 3) (.tmp 15) rfl wr.heap.size (VN .u8 N12) rfl rfl rfl 26 (VN .u8 (List.replicate 12 0)) (infoNn rfl) (by rw [VN_size, VN_size]; rfl) (VN_one _ _) ?_
      have h1 := HP.out.new (.cells (VN .u8 N12) 26)
      obtain ⟨p, hp⟩ : ∃ p, wr.heap.size = p := ⟨_, rfl⟩
      obtain ⟨W1, hW1⟩ : ∃ W, wr.alloc (.cells (VN .u8 N12) 26) = W := ⟨_, rfl⟩
      rw [hW1, hp] at h1 ⊢
      have hnp : n < p := by rw [← hp]; exact HP.out.lt (List.mem_cons_self ..)
      have h2 := h1.withRec
      obtain ⟨R, hR⟩ : ∃ R, W1.heap.size = R := ⟨_, rfl⟩
      have hpR : p < R := by rw [← hR]; exact h1.lt (List.mem_cons_self ..)
      have CN : Hid (Calls Try.prog 9 #[] W1 fun e w' => e = .returned (.pointer (some ⟨R, 0, none⟩)) ∧ w' = W1.alloc (.cells #[.slice none 0 0, .int .i64 0] 60)) := by
        have := new_any W1
        rw [hR] at this
        exact this
      obtain ⟨W2, hW2⟩ : ∃ W, W1.alloc (.cells #[.slice none 0 0, .int .i64 0] 60) = W := ⟨_, rfl⟩
      rw [hW2, hR] at h2
      rw [hW2] at CN
      have H2 : Hid (Ev n w (.pointer (some ⟨R, 0, none⟩)) [] [(p, .cells (VN .u8 N12) 26), (n, .cells (VN .u8 (kl 32)) 23)] W2) := h2
      have HK2 : Hid (RK W2 n (kl 32) 23) := h2.row (by simp)
      have HN2 : Hid (RK W2 p N12 26) := h2.row (by simp)
      have CB : Hid (Calls Try.prog 11 #[.pointer (some ⟨R, 0, none⟩), .agg (VN .u8 (kl 32)), .int .u32 1, .agg (VN .u8 N12)] W2 fun e w' => e = .returned (.agg (VN .u8 (kb (kl 32) 1 N12))) ∧ Ev n w (.pointer (some ⟨R, 0, none⟩)) ([] ++ [(3, 22)]) [(p, .cells (VN .u8 N12) 26), (n, .cells (VN .u8 (kl 32)) 23)] w') := block_any h2 (by simp) (kl 32) N12 1 (kl_bs 32) n12_bs (by decide)
      clear h1 h2 hW1 hW2 HP
      go_wp2_with (first | (go_at_call 9; refine Calls.mono CN.out ?_; rintro e V2 ⟨rfl, hV⟩; obtain rfl := hV) | (go_at_call 11; refine Calls.mono CB.out ?_; rintro e w3 ⟨rfl, h3⟩; have H3 : Hid _ := h3; clear h3) | (with_reducible refine at_list ?_; first | (refine wpList_load_row rfl 23 (.tmp 1) rfl n rfl 23 (VN .u8 (kl 32)) (0, 0) _ HK2.out Try.underlying23 rfl (infoK rfl) ?_) | (refine wpList_load_row rfl 26 (.tmp 3) rfl p rfl 26 (VN .u8 N12) (0, 0) _ HN2.out Try.underlying26 rfl (infoNn rfl) ?_) | (refine hold_store 29 (.tmp 5) (.tmp 20) rfl ?_)))
      refine store_row_new rfl 29 (.tmp 5) (.tmp 20) rfl w3.heap.size (VN .u8 (kb (kl 32) 1 N12)) rfl rfl rfl 29 (VN .u8 (List.replicate 64 0)) (infoB (kb_len _ _ _)) (by rw [VN_size, VN_size, kb_len, List.length_replicate]) (VN_one _ _) ?_
      have h4 := H3.out.new (.cells (VN .u8 (kb (kl 32) 1 N12)) 29)
      obtain ⟨W4, hW4⟩ : ∃ W, w3.alloc (.cells (VN .u8 (kb (kl 32) 1 N12)) 29) = W := ⟨_, rfl⟩
      obtain ⟨m4, hm4⟩ : ∃ m, w3.heap.size = m := ⟨_, rfl⟩
      rw [hW4, hm4] at h4 ⊢
      have hcv := Lib.run_convert_bytes_const (P := Try.prog) W4 40 5 #[.int .u8 107, .int .u8 101, .int .u8 101, .int .u8 108] 4 4 Try.underlying40 Try.underlying5
      have h5 := h4.new (.cells (VN .u8 [107, 101, 101, 108]) 5 (4, 5))
      obtain ⟨g5, hg5⟩ : ∃ m, W4.heap.size = m := ⟨_, rfl⟩
      rw [hg5] at hcv
      have hm5 : m4 < g5 := by rw [← hg5]; exact h4.lt (List.mem_cons_self ..)
      have hp5 : p < g5 := by rw [← hg5]; exact h4.lt (g := p) (x := .cells (VN .u8 N12) 26) (by simp)
      have hn5 : n < g5 := by rw [← hg5]; exact h4.lt (g := n) (x := .cells (VN .u8 (kl 32)) 23) (by simp)
      have H4 : Hid _ := h5
      clear h4 h5 hW4 H2 H3 CN CB HK2 HN2
      go_upto_region 10 with fail
      obtain ⟨W5, hW5⟩ : ∃ W, W4.alloc (.cells (VN .u8 [107, 101, 101, 108]) 5 (4, 5)) = W := ⟨_, rfl⟩
      rw [show W4.alloc (.cells #[.int .u8 107, .int .u8 101, .int .u8 101, .int .u8 108] 5 (4, 5)) = W5 from hW5]
      rw [hW5, hg5] at H4
      have HK2 : Hid (RK W5 n (kl 32) 23) := H4.out.row (by simp)
      have HN2 : Hid (RK W5 p N12 26) := H4.out.row (by simp)
      have CX : Hid _ := xor_any { B := n, w := w, rv := .pointer (some ⟨R, 0, none⟩), l := [] ++ [(3, 22)], key := kl 32, c := 1, nonce := N12, g := g5, L := [107, 101, 101, 108], T := 5, fr := (4, 5), o := 0, bx := _ } 4 4
        ⟨kl_bs 32, n12_bs, by show 1 < 4294967296; decide, fun q hq => by
          simp only [List.mem_cons, List.not_mem_nil, or_false] at hq
          rcases hq with rfl | rfl | rfl
          · show m4 ≠ g5; omega
          · show p ≠ g5; omega
          · show n ≠ g5; omega, .inr (by show 4 ≤ 4; decide), by show ∀ y ∈ [107, 101, 101, 108], y < 256; decide, by simp, by show 0 + 4 ≤ 4; decide⟩ (by decide) (by decide) W5 H4.out
      dsimp only at CX
      have HBX : Hid (∀ w', Ev n w (.pointer (some ⟨R, 0, none⟩)) ([] ++ [(3, 22)] ++ xlog 4) [(g5, .cells (VN .u8 (xr [107, 101, 101, 108] 0 4 (ks (kl 32) 1 N12))) 5 (4, 5)), (m4, .cells (VN .u8 (kb (kl 32) 1 N12)) 29), (p, .cells (VN .u8 N12) 26), (n, .cells (VN .u8 (kl 32)) 23)] w' → w'.cell? ⟨m4, 0, none⟩ = some (.int .u8 239) ∧ w'.cell? ⟨m4, 1, none⟩ = some (.int .u8 230) ∧ w'.cell? ⟨m4, 63, none⟩ = some (.int .u8 237) ∧ w'.cell? ⟨g5, 0, none⟩ = some (.int .u8 132) ∧ w'.cell? ⟨g5, 3, none⟩ = some (.int .u8 148) ∧ Below n w w' ∧ Calls Try.prog 22 #[.pointer (some ⟨R, 0, none⟩)] w' fun e w'' => e = .returned (.int .i64 6) ∧ w'' = w') := fun w' h => by
        obtain ⟨k0, k1, k2, k3, k4⟩ := kn
        have rm : RB w' m4 (kb (kl 32) 1 N12) 29 (0, 0) := ⟨h.row (by simp), .inl rfl, kb_bd _ _ _⟩
        have rg : w'.heap[g5]? = some (.cells (VN .u8 (xr [107, 101, 101, 108] 0 4 (ks (kl 32) 1 N12))) 5 (4, 5)) := h.row (by simp)
        have c0 := rm.cell (i := 0) (by rw [kb_len]; decide)
        have c1 := rm.cell (i := 1) (by rw [kb_len]; decide)
        have c2 := rm.cell (i := 63) (by rw [kb_len]; decide)
        rw [kb_at _ _ _ _ (by decide), k0] at c0
        rw [kb_at _ _ _ _ (by decide), k1] at c1
        rw [kb_at _ _ _ _ (by decide), k2] at c2
        have c3 : w'.cell? ⟨g5, 0, none⟩ = some (.int .u8 ((132 : Nat) : Int)) := by
          rw [cell_of_row _ _ _ _ _ _ rg, VN_at _ _ _ (by rw [xr_len]; decide), xr_at _ _ _ _ _ (by decide), if_pos (by decide)]
          rw [show [107, 101, 101, 108].getD 0 0 ^^^ ks (kl 32) 1 N12 (0 - 0) = 132 from k3]
        have c4 : w'.cell? ⟨g5, 3, none⟩ = some (.int .u8 ((148 : Nat) : Int)) := by
          rw [cell_of_row _ _ _ _ _ _ rg, VN_at _ _ _ (by rw [xr_len]; decide), xr_at _ _ _ _ _ (by decide), if_pos (by decide)]
          rw [show [107, 101, 101, 108].getD 3 0 ^^^ ks (kl 32) 1 N12 (3 - 0) = 148 from k4]
        exact ⟨c0, c1, c2, c3, c4, h.old, v_total h⟩
      clear H4 hW5
      go_wp2_with (first | (go_at_call 17; refine Calls.mono CX.out ?_; rintro e w6 ⟨rfl, h6⟩; obtain ⟨d0, d1, d2, d3, d4, d5, d6⟩ := HBX.out w6 h6; have HT : Hid _ := d6; have HB6 : Hid _ := d5; clear h6 d5 d6 CX HBX) | (go_at_call 22; refine Calls.mono HT.out ?_; rintro e w7 ⟨rfl, hw7⟩; obtain rfl := hw7) | (with_reducible refine at_list ?_; first | (refine wpList_load_row rfl 23 (.tmp 1) rfl n rfl 23 (VN .u8 (kl 32)) (0, 0) _ HK2.out Try.underlying23 rfl (infoK rfl) ?_) | (refine wpList_load_row rfl 26 (.tmp 3) rfl p rfl 26 (VN .u8 N12) (0, 0) _ HN2.out Try.underlying26 rfl (infoNn rfl) ?_)))
      go_ret
      exact ⟨rfl, by rw [HN.out]; exact HB6.out⟩
end Go.Proofs.Ytefnlaookmpbhaa
