import Derived.Test.YtlffamcifahbjaaMgaw
import Derived.Test.YtlffamcifahbjaaMgao
import Derived.Test.YtlffamcifahbjaaMgak
import Derived.Test.YtlffamcifahbjaaMgal
import Derived.Test.YtlffamcifahbjaaMgam
namespace Go.Proofs.Ytlffamcifahbjaa
set_option linter.unusedSimpArgs false
set_option linter.unusedVariables false
open Go.ChangeShapes Go.WideShapes Go.ChangeAt Go.RowKit Go.Pin Go.Fld
theorem kk9 : Key32 (kk 9) := kk_key 9 (by decide) (by decide)
set_option maxRecDepth 100000 in
set_option maxHeartbeats 4000000 in
theorem public_any {B : Nat} {w : World} {rv : Value} {l : List (Int × Int)} {bx : List (Nat × Obj)} {wr : World} {k : List Int} (h : Ev B w rv l bx wr) (hl : l.length ≤ 700000) (hk : Key32 k) :
    Calls Try.prog 17 #[rv, .agg (VI .u8 k)] wr fun e w' => e = .returned (.agg (VI .u8 (bts (shn k (kk 9))))) ∧ Ev B w rv (l ++ shlog) bx w' := by
  have HK : Hid (Key32 k) := hk
  have h3 := (h.new (bxK k)).new (bxK (List.replicate 32 0))
  have f3 : ∀ p ∈ (((wr.heap.size, bxK k) :: bx) : List (Nat × Obj)), p.1 ≠ (wr.alloc (bxK k)).heap.size := fun p hp => Nat.ne_of_lt ((h.new (bxK k)).lt (g := p.1) (x := p.2) hp)
  simp only [size_alloc] at h3 f3
  obtain ⟨W3, hW⟩ : ∃ W, (wr.alloc (bxK k)).alloc (bxK (List.replicate 32 0)) = W := ⟨_, rfl⟩
  have hW' : (wr.alloc (.cells (VI .u8 k) 23)).alloc (.cells #[.int .u8 0, .int .u8 0, .int .u8 0, .int .u8 0, .int .u8 0, .int .u8 0, .int .u8 0, .int .u8 0, .int .u8 0, .int .u8 0, .int .u8 0, .int .u8 0, .int .u8 0, .int .u8 0, .int .u8 0, .int .u8 0, .int .u8 0, .int .u8 0, .int .u8 0, .int .u8 0, .int .u8 0, .int .u8 0, .int .u8 0, .int .u8 0, .int .u8 0, .int .u8 0, .int .u8 0, .int .u8 0, .int .u8 0, .int .u8 0, .int .u8 0, .int .u8 0] 23) = W3 := hW
  rw [hW] at h3
  obtain ⟨gk, hg⟩ : ∃ g, wr.heap.size = g := ⟨_, rfl⟩
  rw [hg] at h3 f3
  have X3 : Hid (Ev B w rv l ((gk + 1, bxK (List.replicate 32 0)) :: (gk, bxK k) :: bx) W3) := h3
  have F3 : Hid (∀ p ∈ (((gk, bxK k) :: bx) : List (Nat × Obj)), p.1 ≠ gk + 1) := f3
  have CS : Hid (Calls Try.prog 11 #[rv, .agg (VI .u8 k), .agg #[.int .u8 9, .int .u8 0, .int .u8 0, .int .u8 0, .int .u8 0, .int .u8 0, .int .u8 0, .int .u8 0, .int .u8 0, .int .u8 0, .int .u8 0, .int .u8 0, .int .u8 0, .int .u8 0, .int .u8 0, .int .u8 0, .int .u8 0, .int .u8 0, .int .u8 0, .int .u8 0, .int .u8 0, .int .u8 0, .int .u8 0, .int .u8 0, .int .u8 0, .int .u8 0, .int .u8 0, .int .u8 0, .int .u8 0, .int .u8 0, .int .u8 0, .int .u8 0]] W3 fun e w' => e = .returned (.agg (VI .u8 (bts (shn k (kk 9))))) ∧ Ev B w rv (l ++ shlog) ((gk + 1, bxK (List.replicate 32 0)) :: (gk, bxK k) :: bx) w') := shared_any h3 hl hk kk9
  clear h hl hk h3 f3 hW
  go_enter Try.func17, Try.ntmps17
  go_wp2_with (with_reducible refine at_list ?_; first | (refine wpList_load_row rfl 23 (.tmp 3) rfl gk rfl 23 (VI .u8 k) (0, 0) _ (X3.out.row (g := gk) (x := bxK k) (by simp)) Try.underlying23 rfl HK.out.info ?_))
  refine CS.out.mono ?_
  rintro e W4 ⟨rfl, hN⟩
  have X4 : Hid (Ev B w rv (l ++ shlog) ((gk + 1, bxK (List.replicate 32 0)) :: (gk, bxK k) :: bx) W4) := hN
  clear hN X3 hW' hg CS
  go_wp2_with (with_reducible refine at_list ?_; refine hold_store 23 (.tmp 4) (.tmp 8) rfl ?_)
  have ht := there_mid (X4.out.row (g := gk + 1) (x := bxK (List.replicate 32 0)) (by simp)) 0 32 (by decide)
  refine wpList_store_mid rfl 23 (.tmp 4) (.tmp 8) rfl (gk + 1) 0 (VI .u8 (bts (shn k (kk 9)))) rfl rfl (by rw [VI_size, bts_len]; exact ht) (infoK (bts_len _)) (VI_one _ _) ?_
  have hN := X4.out.set rfl F3.out (but_setCells (gk + 1) ((bts (shn k (kk 9))).map (Value.int .u8)) 0 W4) (whole_setK (X4.out.row (g := gk + 1) (x := bxK (List.replicate 32 0)) (by simp)) (by rw [bts_len]; rfl))
  obtain ⟨W5, hW⟩ : ∃ W, W4.setCells (gk + 1) 0 ((bts (shn k (kk 9))).map (Value.int .u8)) = W := ⟨_, rfl⟩
  rw [hW] at hN
  rw [show W4.setCells (gk + 1) 0 (VI .u8 (bts (shn k (kk 9)))).toList = W5 from hW]
  have X5 : Hid _ := hN
  clear hN hW ht X4
  go_wp2_with fail
  refine bodyPost_ret (v := .agg (VI .u8 (bts (shn k (kk 9))))) ?_ rfl ⟨rfl, X5.out.sub (fun p hp => by simp [hp])⟩
  exact results_cell_row (P := Try.prog) (fn := Try.f17) (p := 4) (ty := 23) rfl _ _ (gk + 1) 23 (VI .u8 (bts (shn k (kk 9)))) (0, 0) _ rfl (X5.out.row (g := gk + 1) (x := bxK (bts (shn k (kk 9)))) (by simp)) Try.underlying23 rfl (infoK (bts_len _))
theorem shared_nil {k u : List Int} (hk : Key32 k) (hu : Key32 u) (w : World) : Calls Try.prog 11 #[.pointer none, .agg (VI .u8 k), .agg (VI .u8 u)] w fun e w' => e = .returned (.agg (VI .u8 (bts (shn k u)))) ∧ Below w.heap.size w w' :=
  (shared_any (ev_nil' w) (by decide) hk hu).mono fun e w' h => ⟨h.1, h.2.old⟩
theorem public_nil {k : List Int} (hk : Key32 k) (w : World) : Calls Try.prog 17 #[.pointer none, .agg (VI .u8 k)] w fun e w' => e = .returned (.agg (VI .u8 (bts (shn k (kk 9))))) ∧ Below w.heap.size w w' :=
  (public_any (ev_nil' w) (by decide) hk).mono fun e w' h => ⟨h.1, h.2.old⟩
theorem key_bts (n : Nat) : Key32 (bts n) := ⟨bts_len n, bts_bd n⟩
theorem known_a : (bts (shn (kk 0) (kk 9))).getD 0 0 = 47 ∧ (bts (shn (kk 0) (kk 9))).getD 1 0 = 229 ∧ (bts (shn (kk 0) (kk 9))).getD 31 0 = 116 := by
  have h : shn (kk 0) (kk 9) = 52573937849532372069814888178136277301931757964231753054399601207743438775599 := by decide +kernel
  rw [h]; decide +kernel
theorem known_b : bts (shn (kk 5) (kk 1)) = kk 0 := by
  have h : shn (kk 5) (kk 1) = 0 := by decide +kernel
  rw [h]; decide +kernel
theorem known_c : clk (kk 7) = (kk 0).set 31 64 := by decide +kernel
end Go.Proofs.Ytlffamcifahbjaa
namespace Go.Proofs.Ytlffamcifahbjaa
set_option linter.unusedSimpArgs false
set_option linter.unusedVariables false
open Go.ChangeShapes Go.WideShapes Go.ChangeAt Go.RowKit Go.Pin Go.Fld
theorem wrap8 (x : Int) (h0 : 0 ≤ x) (h1 : x < 256) : IntKind.u8.wrap x = x := by
  have h : ∀ n : Fin 256, IntKind.u8.wrap (n.val : Int) = (n.val : Int) := by decide +kernel
  have := h ⟨x.toNat, by omega⟩
  rw [show ((x.toNat : Nat) : Int) = x by omega] at this
  exact this
section
variable {B : Nat} {w : World} {rv : Value} {l : List (Int × Int)} {wr : World}
theorem Ev.setK {g : Nat} {L : List Int} {b2 : List (Nat × Obj)} (h : Ev B w rv l ((g, bxK L) :: b2) wr) (hne : ∀ p ∈ b2, p.1 ≠ g) (i : Nat) (v : Int) : Ev B w rv l ((g, bxK (L.set i v)) :: b2) (wr.setCell ⟨g, i, none⟩ (.int .u8 v)) :=
  h.set rfl hne ((But.refl (fun k => k = g) wr).setCell (p := ⟨g, i, none⟩) rfl _) (rowB_set (h.row (g := g) (x := bxK L) (by simp)) i v)
theorem Ev.cellK {g : Nat} {L : List Int} {bx : List (Nat × Obj)} (h : Ev B w rv l bx wr) (hm : (g, bxK L) ∈ bx) {i : Nat} (hi : i < L.length) : wr.cell? ⟨g, i, none⟩ = some (.int .u8 (L.getD i 0)) := rowB_cell (h.row hm) hi
theorem Ev.frozK {g : Nat} {L : List Int} {bx : List (Nat × Obj)} (h : Ev B w rv l bx wr) (hm : (g, bxK L) ∈ bx) (i : Nat) : wr.frozen? ⟨g, i, none⟩ = false := frozen_of_row wr _ _ _ _ (h.row hm)
theorem Ev.fresh {bx : List (Nat × Obj)} (h : Ev B w rv l bx wr) : ∀ p ∈ bx, p.1 ≠ wr.heap.size := fun p hp => Nat.ne_of_lt (h.lt (g := p.1) (x := p.2) hp)
end
theorem eqK {x : List Int} (h : x.length = 32) (w : World) : (Op.equalIn 10000 23 (.agg (VI .u8 x)) (.agg (VI .u8 x))).run Try.prog w = .ok true w :=
  (run_equalIn_row w 9998 23 5 .u8 32 x x h h Try.underlying23 Try.underlying5 size5).trans (by rw [beq_self_eq_true])
end Go.Proofs.Ytlffamcifahbjaa
namespace Go.Proofs.Ytlffamcifahbjaa
set_option linter.unusedSimpArgs false
set_option linter.unusedVariables false
open Go.ChangeShapes Go.WideShapes Go.ChangeAt Go.RowKit Go.Pin Go.Fld
set_option maxRecDepth 100000 in
set_option maxHeartbeats 4000000 in
theorem rclamp_any (k : List Int) (hk : Key32 k) (w : World) :
    Calls Try.prog 20 #[.agg (VI .u8 k)] w fun e w' => e = .returned (.agg (VI .u8 (clk k))) ∧ Below w.heap.size w w' := by
  have h0 := kw_start w k
  obtain ⟨n, hn⟩ : ∃ n, w.heap.size = n := ⟨_, rfl⟩
  obtain ⟨W, hW⟩ : ∃ W, (w.alloc (.cells (VI .u8 k) 23)).alloc (.cells (VI .u8 (List.replicate 32 0)) 23) = W := ⟨_, rfl⟩
  rw [hW, hn] at h0
  have x0 := byte_in hk (i := 0) (by decide)
  have x1 := byte_in hk (i := 31) (by decide)
  have m8 : (k.getD 0 0).tmod 8 = k.getD 0 0 % 8 := Int.tmod_eq_emod_of_nonneg x0.1
  have m64 : (k.getD 31 0).tmod 64 = k.getD 31 0 % 64 := Int.tmod_eq_emod_of_nonneg x1.1
  have b8 := wrap8 (k.getD 0 0 - k.getD 0 0 % 8) (by omega) (by omega)
  have b64 := wrap8 (k.getD 31 0 % 64 + 64) (by omega) (by omega)
  have c0 := rowB_cell h0.hk (i := 0) (by rw [hk.len]; decide)
  have f0 : W.frozen? ⟨n, 0, none⟩ = false := frozen_of_row W _ _ _ _ h0.hk
  have h1 := h0.set 0 (k.getD 0 0 - k.getD 0 0 % 8)
  obtain ⟨W1, e1⟩ : ∃ W1, W.setCell ⟨n, 0, none⟩ (.int .u8 (k.getD 0 0 - k.getD 0 0 % 8)) = W1 := ⟨_, rfl⟩
  rw [e1] at h1
  have c1 := rowB_cell h1.hk (i := 31) (by simp [hk.len])
  rw [getD_set_ne _ _ _ _ (by decide)] at c1
  have f1 : W1.frozen? ⟨n, 31, none⟩ = false := frozen_of_row W1 _ _ _ _ h1.hk
  have h3 := h1.set 31 (k.getD 31 0 % 64 + 64)
  obtain ⟨W3, e3⟩ : ∃ W3, W1.setCell ⟨n, 31, none⟩ (.int .u8 (k.getD 31 0 % 64 + 64)) = W3 := ⟨_, rfl⟩
  rw [e3] at h3
  have H3 : Hid (KW n w (clk k) W3) := h3
  have HK : Hid (Key32 (clk k)) := clk_key hk
  have HN : Hid (w.heap.size = n) := hn
  have hW' : (w.alloc (.cells (VI .u8 k) 23)).alloc (.cells #[.int .u8 0, .int .u8 0, .int .u8 0, .int .u8 0, .int .u8 0, .int .u8 0, .int .u8 0, .int .u8 0, .int .u8 0, .int .u8 0, .int .u8 0, .int .u8 0, .int .u8 0, .int .u8 0, .int .u8 0, .int .u8 0, .int .u8 0, .int .u8 0, .int .u8 0, .int .u8 0, .int .u8 0, .int .u8 0, .int .u8 0, .int .u8 0, .int .u8 0, .int .u8 0, .int .u8 0, .int .u8 0, .int .u8 0, .int .u8 0, .int .u8 0, .int .u8 0] 23) = W := hW
  clear h0 h1 h3 hk hW
  generalize k.getD 0 0 = y0 at *
  generalize k.getD 31 0 = y1 at *
  go_enter Try.func20, Try.ntmps20
  go_wp2_with (with_reducible refine at_list ?_; first | (refine wpList_load_row rfl 23 (.tmp 1) rfl n rfl 23 (VI .u8 (clk k)) (0, 0) _ H3.out.hk Try.underlying23 rfl HK.out.info ?_) | (refine wpList_store_row rfl 23 (.tmp 2) (.tmp 15) rfl (n + 1) (VI .u8 (clk k)) rfl rfl 23 (VI .u8 (List.replicate 32 0)) H3.out.hr HK.out.info (by simp [HK.out.len]) (VI_one _ _) ?_))
  refine bodyPost_ret (v := .agg (VI .u8 (clk k))) ?_ rfl ⟨rfl, below_setRow (by rw [HN.out]; exact H3.out.old) _ (by rw [HN.out]; omega) _⟩
  exact results_cell_row (P := Try.prog) (fn := Try.f20) (p := 2) (ty := 23) rfl _ _ (n + 1) 23 (VI .u8 (clk k)) (0, 0) _ rfl (setRow_heap W3 _ _ _ 23 _ H3.out.hr) Try.underlying23 rfl HK.out.info
theorem list_set_same (l : List Int) (i : Nat) (v : Int) (h : l.getD i 0 = v) (hi : i < l.length) : l.set i v = l := by
  apply List.ext_getElem?
  intro j
  rw [List.getElem?_set]
  by_cases e : i = j
  · subst e
    rw [if_pos rfl, if_pos hi, ← h]
    simp [List.getD, hi]
  · rw [if_neg e]
theorem clk_at0 {k : List Int} (hk : Key32 k) : (clk k).getD 0 0 = k.getD 0 0 - k.getD 0 0 % 8 := by
  unfold clk
  rw [getD_set_ne _ _ _ _ (by decide), getD_set_eq _ _ _ (by rw [hk.len]; decide)]
theorem clk_at31 {k : List Int} (hk : Key32 k) : (clk k).getD 31 0 = k.getD 31 0 % 64 + 64 := by
  unfold clk
  rw [getD_set_eq _ _ _ (by rw [List.length_set, hk.len]; decide)]
theorem clk_mid (k : List Int) {i : Nat} (h1 : 1 ≤ i) (h2 : i < 31) : (clk k).getD i 0 = k.getD i 0 := by
  unfold clk
  rw [getD_set_ne _ _ _ _ (by omega), getD_set_ne _ _ _ _ (by omega)]
theorem clk_clk {k : List Int} (hk : Key32 k) : clk (clk k) = clk k := by
  have h0 := byte_in hk (i := 0) (by decide)
  have h1 := byte_in hk (i := 31) (by decide)
  have a0 := clk_at0 hk
  have a1 := clk_at31 hk
  have hl := (clk_key hk).len
  rw [show clk (clk k) = ((clk k).set 0 ((clk k).getD 0 0 - (clk k).getD 0 0 % 8)).set 31 ((clk k).getD 31 0 % 64 + 64) from rfl]
  rw [list_set_same (clk k) 0 _ (by rw [a0]; omega) (by rw [hl]; decide), list_set_same (clk k) 31 _ (by rw [a1]; omega) (by rw [hl]; decide)]
theorem xor5 (x : Int) (h0 : 0 ≤ x) (h1 : x < 256) : 0 ≤ bits .xor .u8 x 5 ∧ bits .xor .u8 x 5 < 256 ∧ bits .xor .u8 x 5 - bits .xor .u8 x 5 % 8 = x - x % 8 := by
  have h : ∀ n : Fin 256, 0 ≤ bits .xor .u8 (n.val : Int) 5 ∧ bits .xor .u8 (n.val : Int) 5 < 256 ∧ bits .xor .u8 (n.val : Int) 5 - bits .xor .u8 (n.val : Int) 5 % 8 = (n.val : Int) - (n.val : Int) % 8 := by decide +kernel
  have := h ⟨x.toNat, by omega⟩
  rw [show ((x.toNat : Nat) : Int) = x by omega] at this
  exact this
theorem xor192 (x : Int) (h0 : 0 ≤ x) (h1 : x < 256) : 0 ≤ bits .xor .u8 x 192 ∧ bits .xor .u8 x 192 < 256 ∧ bits .xor .u8 x 192 % 64 = x % 64 := by
  have h : ∀ n : Fin 256, 0 ≤ bits .xor .u8 (n.val : Int) 192 ∧ bits .xor .u8 (n.val : Int) 192 < 256 ∧ bits .xor .u8 (n.val : Int) 192 % 64 = (n.val : Int) % 64 := by decide +kernel
  have := h ⟨x.toNat, by omega⟩
  rw [show ((x.toNat : Nat) : Int) = x by omega] at this
  exact this
/-- the digits that say nothing turned -/
def tur (k : List Int) : List Int := (k.set 0 (bits .xor .u8 (k.getD 0 0) 5)).set 31 (bits .xor .u8 (k.getD 31 0) 192)
theorem tur_key {k : List Int} (h : Key32 k) : Key32 (tur k) := by
  have h0 := byte_in h (i := 0) (by decide)
  have h1 := byte_in h (i := 31) (by decide)
  have x0 := xor5 _ h0.1 h0.2
  have x1 := xor192 _ h1.1 h1.2
  refine ⟨by simp [tur, h.len], fun x hx => ?_⟩
  unfold tur at hx
  rcases List.mem_or_eq_of_mem_set hx with hx | rfl
  · rcases List.mem_or_eq_of_mem_set hx with hx | rfl
    · exact h.bd x hx
    · exact ⟨x0.1, x0.2.1⟩
  · exact ⟨x1.1, x1.2.1⟩
theorem clk_tur {k : List Int} (hk : Key32 k) : clk (tur k) = clk k := by
  have h0 := byte_in hk (i := 0) (by decide)
  have h1 := byte_in hk (i := 31) (by decide)
  have x0 := xor5 _ h0.1 h0.2
  have x1 := xor192 _ h1.1 h1.2
  have t0 : (tur k).getD 0 0 = bits .xor .u8 (k.getD 0 0) 5 := by
    unfold tur
    rw [getD_set_ne _ _ _ _ (by decide), getD_set_eq _ _ _ (by rw [hk.len]; decide)]
  have t1 : (tur k).getD 31 0 = bits .xor .u8 (k.getD 31 0) 192 := by
    unfold tur
    rw [getD_set_eq _ _ _ (by rw [List.length_set, hk.len]; decide)]
  rw [show clk (tur k) = ((tur k).set 0 ((tur k).getD 0 0 - (tur k).getD 0 0 % 8)).set 31 ((tur k).getD 31 0 % 64 + 64) from rfl, t0, t1, x0.2.2, x1.2.2]
  unfold tur clk
  rw [List.set_comm (l := k.set 0 _) _ _ (by decide : (31 : Nat) ≠ 0), List.set_set, List.set_set]
theorem shn_clk {k : List Int} (hk : Key32 k) (u : List Int) : shn (clk k) u = shn k u := by unfold shn; rw [clk_clk hk]
theorem shn_tur {k : List Int} (hk : Key32 k) (u : List Int) : shn (tur k) u = shn k u := by unfold shn; rw [clk_tur hk]
end Go.Proofs.Ytlffamcifahbjaa
namespace Go.Proofs.Ytlffamcifahbjaa
set_option linter.unusedSimpArgs false
set_option linter.unusedVariables false
open Go.ChangeShapes Go.WideShapes Go.ChangeAt Go.RowKit Go.Pin Go.Fld
set_option maxRecDepth 100000 in
set_option maxHeartbeats 4000000 in
theorem rbit_any {k : List Int} (hk : Key32 k) (t : Nat) (ht : t < 256) (w : World) :
    Calls Try.prog 32 #[.agg (VI .u8 k), .int .i64 t] w fun e w' => e = .returned (.int .i64 (kbit k t)) ∧ Below w.heap.size w w' := by
  have hE := (ev_nil' w).new (bxK k)
  obtain ⟨W0, hW⟩ : ∃ W, w.alloc (.cells (VI .u8 k) 23) = W := ⟨_, rfl⟩
  rw [show w.alloc (bxK k) = W0 from hW] at hE
  obtain ⟨j, hj⟩ : ∃ j : Nat, j = t / 8 := ⟨_, rfl⟩
  obtain ⟨r, hr⟩ : ∃ r : Nat, r = t % 8 := ⟨_, rfl⟩
  have hj' : (t : Int).tdiv 8 = (j : Int) := by rw [Int.tdiv_eq_ediv_of_nonneg (by omega)]; omega
  have hr' : (t : Int).tmod 8 = (r : Int) := by rw [Int.tmod_eq_emod_of_nonneg (by omega)]; omega
  have hj32 : j < 32 := by omega
  have hr8 : r < 8 := by omega
  have hc := hE.cellK (g := w.heap.size) (L := k) (i := j) (by simp) (by rw [hk.len]; exact hj32)
  have yb := byte_in hk hj32
  obtain ⟨y, hy⟩ := Int.eq_ofNat_of_zero_le yb.1
  rw [hy] at hc yb
  have KB : Hid (kbit k t = y / 2 ^ r % 2) := by
    unfold kbit; rw [← hj, ← hr, hy]; rfl
  have O : Hid (Below w.heap.size w W0) := hE.old
  clear hE hk hj hr hy
  go_enter Try.func32, Try.ntmps32
  go_wp2_with fail
  go_loopw [6, 5] (fun i v w' => ∃ n : Nat, n ≤ r ∧ i = .int .i64 n ∧ v = .int .i64 ((y / 2 ^ n : Nat) : Int) ∧ w' = W0) (fun i _ _ => r - (intOf i).toNat)
  case atStart => exact ⟨0, Nat.zero_le _, rfl, by simp, rfl⟩
  case round =>
    obtain ⟨n, hn, rfl, rfl, rfl⟩ := hrel
    have hle : y / 2 ^ n ≤ y := Nat.div_le_self _ _
    obtain ⟨z, hz⟩ : ∃ z : Nat, y / 2 ^ n = z := ⟨_, rfl⟩
    by_cases hlt : n < r
    · have HZ : Hid (y / 2 ^ (n + 1) = z / 2) := by rw [← hz, Nat.pow_succ, ← Nat.div_div_eq_div_mul]; exact rfl
      rw [hz]
      rw [hz] at hle
      have hq : (z : Int).tdiv 2 = ((z / 2 : Nat) : Int) := by rw [Int.tdiv_eq_ediv_of_nonneg (by omega)]; omega
      clear hz
      go_wp2
      go_roundw
      case rel => exact ⟨n + 1, by omega, by go_num, by rw [HZ.out]; simp, trivial⟩
      case measure => simp [intOf]; omega
    · have hn' : n = r := by omega
      subst hn'
      have HZ : Hid (kbit k t = z % 2) := by rw [KB.out, hz]; exact rfl
      rw [hz]
      rw [hz] at hle
      have hq : (z : Int).tmod 2 = ((z % 2 : Nat) : Int) := by rw [Int.tmod_eq_emod_of_nonneg (by omega)]; omega
      clear hz
      go_wp2
      go_ret
      exact ⟨by rw [HZ.out]; simp, O.out⟩
end Go.Proofs.Ytlffamcifahbjaa
namespace Go.Proofs.Ytlffamcifahbjaa
set_option linter.unusedSimpArgs false
set_option linter.unusedVariables false
open Go.ChangeShapes Go.WideShapes Go.ChangeAt Go.RowKit Go.Pin Go.Fld
/-- a box of one of the document's numbers -/
abbrev bxL (x : List Int) : Obj := .cells (VI .i64 x) 65
theorem infoNm {x : List Int} (h : x.length = 16) : (Try.prog.info? 65).map (·.size) = some (VI .i64 x).size := by rw [VI_size, h]; kernel_rfl
theorem whole_setN {w : World} {g : Nat} {z x : List Int} (h : w.heap[g]? = some (bxL z)) (hl : z.length = x.length) : (w.setCells g 0 (x.map (Value.int .i64))).heap[g]? = some (bxL x) := by
  have := heap_setCells_midK .i64 g x z [] [] w hl (by simpa using h)
  simpa using this
theorem results_four {P : Program} {fn : Func} {p0 p1 p2 p3 : Tmp} {ty : TypeId} (h : fn.results = #[.cell p0 ty, .cell p1 ty, .cell p2 ty, .cell p3 ty]) (tmps : Array Value) (w : World) (g0 g1 g2 g3 : Nat) (t : TypeId) (c0 c1 c2 c3 : Array Value) (d : TypeDesc)
    (h0 : tmps.getD p0 undef = .pointer (some ⟨g0, 0, none⟩)) (h1 : tmps.getD p1 undef = .pointer (some ⟨g1, 0, none⟩)) (h2 : tmps.getD p2 undef = .pointer (some ⟨g2, 0, none⟩)) (h3 : tmps.getD p3 undef = .pointer (some ⟨g3, 0, none⟩))
    (w0 : w.heap[g0]? = some (.cells c0 t (0, 0))) (w1 : w.heap[g1]? = some (.cells c1 t (0, 0))) (w2 : w.heap[g2]? = some (.cells c2 t (0, 0))) (w3 : w.heap[g3]? = some (.cells c3 t (0, 0)))
    (hu : P.underlying ty = some d) (hd : (match d with | .struct _ | .array _ _ => true | _ => false) = true) (i0 : (P.info? ty).map (·.size) = some c0.size) (i1 : (P.info? ty).map (·.size) = some c1.size) (i2 : (P.info? ty).map (·.size) = some c2.size) (i3 : (P.info? ty).map (·.size) = some c3.size) :
    (results fn tmps).run P w = .ok (.tuple #[.agg c0, .agg c1, .agg c2, .agg c3]) w := by
  have h0' : tmps[p0]?.getD undef = .pointer (some ⟨g0, 0, none⟩) := by simpa using h0
  have h1' : tmps[p1]?.getD undef = .pointer (some ⟨g1, 0, none⟩) := by simpa using h1
  have h2' : tmps[p2]?.getD undef = .pointer (some ⟨g2, 0, none⟩) := by simpa using h2
  have h3' : tmps[p3]?.getD undef = .pointer (some ⟨g3, 0, none⟩) := by simpa using h3
  simp [results, h, h0', h1', h2', h3', asAddr, run_loadVar_row w g0 t ty c0 (0, 0) d w0 hu hd i0, run_loadVar_row w g1 t ty c1 (0, 0) d w1 hu hd i1, run_loadVar_row w g2 t ty c2 (0, 0) d w2 hu hd i2, run_loadVar_row w g3 t ty c3 (0, 0) d w3 hu hd i3]
end Go.Proofs.Ytlffamcifahbjaa
