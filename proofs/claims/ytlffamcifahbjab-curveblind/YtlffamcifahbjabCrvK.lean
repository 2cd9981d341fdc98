import Derived.Test.YtlffamcifahbjabCrvS
namespace Go.Proofs.Ytlffamcifahbjab
set_option linter.unusedSimpArgs false
set_option linter.unusedVariables false
open Go.ChangeShapes Go.WideShapes Go.ChangeAt Go.RowKit Go.Pin Go.Fld
/-- a private key as it is used -/
def clk (k : List Int) : List Int := (k.set 0 (k.getD 0 0 - k.getD 0 0 % 8)).set 31 (k.getD 31 0 % 64 + 64)
theorem byte_in {k : List Int} (h : Key32 k) {i : Nat} (hi : i < 32) : 0 ≤ k.getD i 0 ∧ k.getD i 0 < 256 := by
  have hl : i < k.length := by rw [h.len]; exact hi
  have : k.getD i 0 ∈ k := by simp [List.getD, hl]
  exact h.bd _ this
theorem clk_key {k : List Int} (h : Key32 k) : Key32 (clk k) := by
  have h0 := byte_in h (i := 0) (by decide)
  have h1 := byte_in h (i := 31) (by decide)
  refine ⟨by simp [clk, h.len], fun x hx => ?_⟩
  unfold clk at hx
  rcases List.mem_or_eq_of_mem_set hx with hx | rfl
  · rcases List.mem_or_eq_of_mem_set hx with hx | rfl
    · exact h.bd x hx
    · omega
  · omega
theorem not7 (x : Int) (h0 : 0 ≤ x) (h1 : x < 256) : bits .andNot .u8 x 7 = x - x % 8 := by
  have h : ∀ n : Fin 256, bits .andNot .u8 (n.val : Int) 7 = (n.val : Int) - (n.val : Int) % 8 := by decide +kernel
  have := h ⟨x.toNat, by omega⟩
  rw [show ((x.toNat : Nat) : Int) = x by omega] at this
  exact this
theorem not128 (x : Int) (h0 : 0 ≤ x) (h1 : x < 256) : bits .andNot .u8 x 128 = x % 128 := by
  have h : ∀ n : Fin 256, bits .andNot .u8 (n.val : Int) 128 = (n.val : Int) % 128 := by decide +kernel
  have := h ⟨x.toNat, by omega⟩
  rw [show ((x.toNat : Nat) : Int) = x by omega] at this
  exact this
theorem or64 (x : Int) (h0 : 0 ≤ x) (h1 : x < 256) : bits .or .u8 (x % 128) 64 = x % 64 + 64 := by
  have h : ∀ n : Fin 256, bits .or .u8 ((n.val : Int) % 128) 64 = (n.val : Int) % 64 + 64 := by decide +kernel
  have := h ⟨x.toNat, by omega⟩
  rw [show ((x.toNat : Nat) : Int) = x by omega] at this
  exact this
theorem getD_set_ne (l : List Int) (i j : Nat) (v : Int) (h : i ≠ j) : (l.set i v).getD j 0 = l.getD j 0 := by simp [List.getD, List.getElem?_set_ne h]
theorem getD_set_eq (l : List Int) (i : Nat) (v : Int) (h : i < l.length) : (l.set i v).getD i 0 = v := by simp [List.getD, List.getElem?_set_self h]
/-- Clamp's boxes -/
structure KW (n : Nat) (w : World) (L : List Int) (wr : World) : Prop where
  old : Below n w wr
  sz : n + 2 ≤ wr.heap.size
  hk : rowB wr n L 23
  hr : rowB wr (n + 1) (List.replicate 32 0) 23
theorem KW.set {n : Nat} {w wr : World} {L : List Int} (h : KW n w L wr) (i : Nat) (v : Int) : KW n w (L.set i v) (wr.setCell ⟨n, i, none⟩ (.int .u8 v)) :=
  ⟨h.old.setCell (Nat.le_refl _) _, by simpa using h.sz, rowB_set h.hk _ _, (heap_setCell_other _ _ _ _ (by simp)).trans h.hr⟩
theorem kw_start (w : World) (k : List Int) : KW w.heap.size w k ((w.alloc (.cells (VI .u8 k) 23)).alloc (.cells (VI .u8 (List.replicate 32 0)) 23)) := by
  refine ⟨((Below.refl _ _).alloc (Nat.le_refl _) _).alloc (by simp) _, by simp [size_alloc], ?_, ?_⟩
  all_goals simp only [rowB, heap_alloc_any, size_alloc]
  · rw [if_neg (by omega), if_pos trivial]
  · rw [if_pos trivial]
set_option maxRecDepth 100000 in
set_option maxHeartbeats 4000000 in
theorem clamp_any (k : List Int) (hk : Key32 k) (w : World) :
    Calls Try.prog 12 #[.agg (VI .u8 k)] w fun e w' => e = .returned (.agg (VI .u8 (clk k))) ∧ Below w.heap.size w w' := by
  have h0 := kw_start w k
  obtain ⟨n, hn⟩ : ∃ n, w.heap.size = n := ⟨_, rfl⟩
  obtain ⟨W, hW⟩ : ∃ W, (w.alloc (.cells (VI .u8 k) 23)).alloc (.cells (VI .u8 (List.replicate 32 0)) 23) = W := ⟨_, rfl⟩
  rw [hW, hn] at h0
  have x0 := byte_in hk (i := 0) (by decide)
  have x1 := byte_in hk (i := 31) (by decide)
  have b7 := not7 _ x0.1 x0.2
  have b128 := not128 _ x1.1 x1.2
  have b64 := or64 _ x1.1 x1.2
  have c0 := rowB_cell h0.hk (i := 0) (by rw [hk.len]; decide)
  have f0 : W.frozen? ⟨n, 0, none⟩ = false := frozen_of_row W _ _ _ _ h0.hk
  have h1 := h0.set 0 (k.getD 0 0 - k.getD 0 0 % 8)
  obtain ⟨W1, e1⟩ : ∃ W1, W.setCell ⟨n, 0, none⟩ (.int .u8 (k.getD 0 0 - k.getD 0 0 % 8)) = W1 := ⟨_, rfl⟩
  rw [e1] at h1
  have c1 := rowB_cell h1.hk (i := 31) (by simp [hk.len])
  rw [getD_set_ne _ _ _ _ (by decide)] at c1
  have f1 : W1.frozen? ⟨n, 31, none⟩ = false := frozen_of_row W1 _ _ _ _ h1.hk
  have h2 := h1.set 31 (k.getD 31 0 % 128)
  obtain ⟨W2, e2⟩ : ∃ W2, W1.setCell ⟨n, 31, none⟩ (.int .u8 (k.getD 31 0 % 128)) = W2 := ⟨_, rfl⟩
  rw [e2] at h2
  have c2 := rowB_cell h2.hk (i := 31) (by simp [hk.len])
  rw [getD_set_eq _ _ _ (by simp [hk.len])] at c2
  have f2 : W2.frozen? ⟨n, 31, none⟩ = false := frozen_of_row W2 _ _ _ _ h2.hk
  have h3 := h2.set 31 (k.getD 31 0 % 64 + 64)
  obtain ⟨W3, e3⟩ : ∃ W3, W2.setCell ⟨n, 31, none⟩ (.int .u8 (k.getD 31 0 % 64 + 64)) = W3 := ⟨_, rfl⟩
  rw [e3, List.set_set] at h3
  have H3 : Hid (KW n w (clk k) W3) := h3
  have HK : Hid (Key32 (clk k)) := clk_key hk
  have HN : Hid (w.heap.size = n) := hn
  have hW' : (w.alloc (.cells (VI .u8 k) 23)).alloc (.cells #[.int .u8 0, .int .u8 0, .int .u8 0, .int .u8 0, .int .u8 0, .int .u8 0, .int .u8 0, .int .u8 0, .int .u8 0, .int .u8 0, .int .u8 0, .int .u8 0, .int .u8 0, .int .u8 0, .int .u8 0, .int .u8 0, .int .u8 0, .int .u8 0, .int .u8 0, .int .u8 0, .int .u8 0, .int .u8 0, .int .u8 0, .int .u8 0, .int .u8 0, .int .u8 0, .int .u8 0, .int .u8 0, .int .u8 0, .int .u8 0, .int .u8 0, .int .u8 0] 23) = W := hW
  clear h0 h1 h2 h3 hk hW
  generalize k.getD 0 0 = y0 at *
  generalize k.getD 31 0 = y1 at *
  go_enter Try.func12, Try.ntmps12
  go_wp2_with (with_reducible refine at_list ?_; first | (refine wpList_load_row rfl 23 (.tmp 1) rfl n rfl 23 (VI .u8 (clk k)) (0, 0) _ H3.out.hk Try.underlying23 rfl HK.out.info ?_) | (refine wpList_store_row rfl 23 (.tmp 2) (.tmp 15) rfl (n + 1) (VI .u8 (clk k)) rfl rfl 23 (VI .u8 (List.replicate 32 0)) H3.out.hr HK.out.info (by simp [HK.out.len]) (VI_one _ _) ?_))
  refine bodyPost_ret (v := .agg (VI .u8 (clk k))) ?_ rfl ⟨rfl, below_setRow (by rw [HN.out]; exact H3.out.old) _ (by rw [HN.out]; omega) _⟩
  exact results_cell_row (P := Try.prog) (fn := Try.f12) (p := 2) (ty := 23) rfl _ _ (n + 1) 23 (VI .u8 (clk k)) (0, 0) _ rfl (setRow_heap W3 _ _ _ 23 _ H3.out.hr) Try.underlying23 rfl HK.out.info
end Go.Proofs.Ytlffamcifahbjab
