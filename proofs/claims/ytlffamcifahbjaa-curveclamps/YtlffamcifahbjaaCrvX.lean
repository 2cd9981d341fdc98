import Derived.Test.YtlffamcifahbjaaCrvW
namespace Go.Proofs.Ytlffamcifahbjaa
set_option linter.unusedSimpArgs false
set_option linter.unusedVariables false
open Go.ChangeShapes Go.WideShapes Go.ChangeAt Go.RowKit Go.Pin Go.Fld
set_option maxRecDepth 100000 in
set_option maxHeartbeats 4000000 in
theorem rclamp_any (k : List Int) (hk : Key32 k) (w : World) :
    Calls Try.prog 20 #[.agg (VI .u8 k)] w fun e w' => e = .returned (.agg (VI .u8 (clk k))) ∧ Below w.heap.size w w' := by
  have h0 := kw_start w k
  obtain ⟨n, hn⟩ : ∃ n, w.heap.size = n := ⟨_, rfl⟩
  obtain ⟨W, hW⟩ : ∃ W, (w.alloc (.cells (VI .u8 k) 23)).alloc (.cells (VI .u8 (List.replicate 32 0)) 23) = W := ⟨_, rfl⟩
  rw [hW, hn] at h0
  have x0 := byte_in hk (i := 0) (by decide)
  have x1 := byte_in hk (i := 31) (by decide)
  have m8 : (k.getD 0 0).tmod 8 = k.getD 0 0 % 8 := Int.tmod_eq_emod_of_nonneg x0.1
  have m64 : (k.getD 31 0).tmod 64 = k.getD 31 0 % 64 := Int.tmod_eq_emod_of_nonneg x1.1
  have b8 := wrap8 (k.getD 0 0 - k.getD 0 0 % 8) (by omega) (by omega)
  have b64 := wrap8 (k.getD 31 0 % 64 + 64) (by omega) (by omega)
  have c0 := rowB_cell h0.hk (i := 0) (by rw [hk.len]; decide)
  have f0 : W.frozen? ⟨n, 0, none⟩ = false := frozen_of_row W _ _ _ _ h0.hk
  have h1 := h0.set 0 (k.getD 0 0 - k.getD 0 0 % 8)
  obtain ⟨W1, e1⟩ : ∃ W1, W.setCell ⟨n, 0, none⟩ (.int .u8 (k.getD 0 0 - k.getD 0 0 % 8)) = W1 := ⟨_, rfl⟩
  rw [e1] at h1
  have c1 := rowB_cell h1.hk (i := 31) (by simp [hk.len])
  rw [getD_set_ne _ _ _ _ (by decide)] at c1
  have f1 : W1.frozen? ⟨n, 31, none⟩ = false := frozen_of_row W1 _ _ _ _ h1.hk
  have h3 := h1.set 31 (k.getD 31 0 % 64 + 64)
  obtain ⟨W3, e3⟩ : ∃ W3, W1.setCell ⟨n, 31, none⟩ (.int .u8 (k.getD 31 0 % 64 + 64)) = W3 := ⟨_, rfl⟩
  rw [e3] at h3
  have H3 : Hid (KW n w (clk k) W3) := h3
  have HK : Hid (Key32 (clk k)) := clk_key hk
  have HN : Hid (w.heap.size = n) := hn
  have hW' : (w.alloc (.cells (VI .u8 k) 23)).alloc (.cells #[.int .u8 0, .int .u8 0, .int .u8 0, .int .u8 0, .int .u8 0, .int .u8 0, .int .u8 0, .int .u8 0, .int .u8 0, .int .u8 0, .int .u8 0, .int .u8 0, .int .u8 0, .int .u8 0, .int .u8 0, .int .u8 0, .int .u8 0, .int .u8 0, .int .u8 0, .int .u8 0, .int .u8 0, .int .u8 0, .int .u8 0, .int .u8 0, .int .u8 0, .int .u8 0, .int .u8 0, .int .u8 0, .int .u8 0, .int .u8 0, .int .u8 0, .int .u8 0] 23) = W := hW
  clear h0 h1 h3 hk hW
  generalize k.getD 0 0 = y0 at *
  generalize k.getD 31 0 = y1 at *
  go_enter Try.func20, Try.ntmps20
  go_wp2_with (with_reducible refine at_list ?_; first | (refine wpList_load_row rfl 23 (.tmp 1) rfl n rfl 23 (VI .u8 (clk k)) (0, 0) _ H3.out.hk Try.underlying23 rfl HK.out.info ?_) | (refine wpList_store_row rfl 23 (.tmp 2) (.tmp 15) rfl (n + 1) (VI .u8 (clk k)) rfl rfl 23 (VI .u8 (List.replicate 32 0)) H3.out.hr HK.out.info (by simp [HK.out.len]) (VI_one _ _) ?_))
  refine bodyPost_ret (v := .agg (VI .u8 (clk k))) ?_ rfl ⟨rfl, below_setRow (by rw [HN.out]; exact H3.out.old) _ (by rw [HN.out]; omega) _⟩
  exact results_cell_row (P := Try.prog) (fn := Try.f20) (p := 2) (ty := 23) rfl _ _ (n + 1) 23 (VI .u8 (clk k)) (0, 0) _ rfl (setRow_heap W3 _ _ _ 23 _ H3.out.hr) Try.underlying23 rfl HK.out.info
theorem list_set_same (l : List Int) (i : Nat) (v : Int) (h : l.getD i 0 = v) (hi : i < l.length) : l.set i v = l := by
  apply List.ext_getElem?
  intro j
  rw [List.getElem?_set]
  by_cases e : i = j
  · subst e
    rw [if_pos rfl, if_pos hi, ← h]
    simp [List.getD, hi]
  · rw [if_neg e]
theorem clk_at0 {k : List Int} (hk : Key32 k) : (clk k).getD 0 0 = k.getD 0 0 - k.getD 0 0 % 8 := by
  unfold clk
  rw [getD_set_ne _ _ _ _ (by decide), getD_set_eq _ _ _ (by rw [hk.len]; decide)]
theorem clk_at31 {k : List Int} (hk : Key32 k) : (clk k).getD 31 0 = k.getD 31 0 % 64 + 64 := by
  unfold clk
  rw [getD_set_eq _ _ _ (by rw [List.length_set, hk.len]; decide)]
theorem clk_mid (k : List Int) {i : Nat} (h1 : 1 ≤ i) (h2 : i < 31) : (clk k).getD i 0 = k.getD i 0 := by
  unfold clk
  rw [getD_set_ne _ _ _ _ (by omega), getD_set_ne _ _ _ _ (by omega)]
theorem clk_clk {k : List Int} (hk : Key32 k) : clk (clk k) = clk k := by
  have h0 := byte_in hk (i := 0) (by decide)
  have h1 := byte_in hk (i := 31) (by decide)
  have a0 := clk_at0 hk
  have a1 := clk_at31 hk
  have hl := (clk_key hk).len
  rw [show clk (clk k) = ((clk k).set 0 ((clk k).getD 0 0 - (clk k).getD 0 0 % 8)).set 31 ((clk k).getD 31 0 % 64 + 64) from rfl]
  rw [list_set_same (clk k) 0 _ (by rw [a0]; omega) (by rw [hl]; decide), list_set_same (clk k) 31 _ (by rw [a1]; omega) (by rw [hl]; decide)]
theorem xor5 (x : Int) (h0 : 0 ≤ x) (h1 : x < 256) : 0 ≤ bits .xor .u8 x 5 ∧ bits .xor .u8 x 5 < 256 ∧ bits .xor .u8 x 5 - bits .xor .u8 x 5 % 8 = x - x % 8 := by
  have h : ∀ n : Fin 256, 0 ≤ bits .xor .u8 (n.val : Int) 5 ∧ bits .xor .u8 (n.val : Int) 5 < 256 ∧ bits .xor .u8 (n.val : Int) 5 - bits .xor .u8 (n.val : Int) 5 % 8 = (n.val : Int) - (n.val : Int) % 8 := by decide +kernel
  have := h ⟨x.toNat, by omega⟩
  rw [show ((x.toNat : Nat) : Int) = x by omega] at this
  exact this
theorem xor192 (x : Int) (h0 : 0 ≤ x) (h1 : x < 256) : 0 ≤ bits .xor .u8 x 192 ∧ bits .xor .u8 x 192 < 256 ∧ bits .xor .u8 x 192 % 64 = x % 64 := by
  have h : ∀ n : Fin 256, 0 ≤ bits .xor .u8 (n.val : Int) 192 ∧ bits .xor .u8 (n.val : Int) 192 < 256 ∧ bits .xor .u8 (n.val : Int) 192 % 64 = (n.val : Int) % 64 := by decide +kernel
  have := h ⟨x.toNat, by omega⟩
  rw [show ((x.toNat : Nat) : Int) = x by omega] at this
  exact this
/-- the digits that say nothing turned -/
def tur (k : List Int) : List Int := (k.set 0 (bits .xor .u8 (k.getD 0 0) 5)).set 31 (bits .xor .u8 (k.getD 31 0) 192)
theorem tur_key {k : List Int} (h : Key32 k) : Key32 (tur k) := by
  have h0 := byte_in h (i := 0) (by decide)
  have h1 := byte_in h (i := 31) (by decide)
  have x0 := xor5 _ h0.1 h0.2
  have x1 := xor192 _ h1.1 h1.2
  refine ⟨by simp [tur, h.len], fun x hx => ?_⟩
  unfold tur at hx
  rcases List.mem_or_eq_of_mem_set hx with hx | rfl
  · rcases List.mem_or_eq_of_mem_set hx with hx | rfl
    · exact h.bd x hx
    · exact ⟨x0.1, x0.2.1⟩
  · exact ⟨x1.1, x1.2.1⟩
theorem clk_tur {k : List Int} (hk : Key32 k) : clk (tur k) = clk k := by
  have h0 := byte_in hk (i := 0) (by decide)
  have h1 := byte_in hk (i := 31) (by decide)
  have x0 := xor5 _ h0.1 h0.2
  have x1 := xor192 _ h1.1 h1.2
  have t0 : (tur k).getD 0 0 = bits .xor .u8 (k.getD 0 0) 5 := by
    unfold tur
    rw [getD_set_ne _ _ _ _ (by decide), getD_set_eq _ _ _ (by rw [hk.len]; decide)]
  have t1 : (tur k).getD 31 0 = bits .xor .u8 (k.getD 31 0) 192 := by
    unfold tur
    rw [getD_set_eq _ _ _ (by rw [List.length_set, hk.len]; decide)]
  rw [show clk (tur k) = ((tur k).set 0 ((tur k).getD 0 0 - (tur k).getD 0 0 % 8)).set 31 ((tur k).getD 31 0 % 64 + 64) from rfl, t0, t1, x0.2.2, x1.2.2]
  unfold tur clk
  rw [List.set_comm (l := k.set 0 _) _ _ (by decide : (31 : Nat) ≠ 0), List.set_set, List.set_set]
theorem shn_clk {k : List Int} (hk : Key32 k) (u : List Int) : shn (clk k) u = shn k u := by unfold shn; rw [clk_clk hk]
theorem shn_tur {k : List Int} (hk : Key32 k) (u : List Int) : shn (tur k) u = shn k u := by unfold shn; rw [clk_tur hk]
end Go.Proofs.Ytlffamcifahbjaa
