import Derived.Test.YtlffamcifahbjaaMgat
namespace Go.Proofs.Ytlffamcifahbjaa
set_option linter.unusedSimpArgs false
set_option linter.unusedVariables false
open Go.ChangeShapes Go.WideShapes Go.ChangeAt Go.RowKit Go.Pin Go.Fld
theorem VI_get (k : IntKind) (l : List Int) (j : Nat) : (VI k l)[j]? = (l[j]?).map (Value.int k) := by simp [VI]
theorem getD_some {x : List Int} {j : Nat} (h : j < x.length) : x[j]? = some (x.getD j 0) := by simp [List.getD, h]
theorem four_get {a b c d : List Int} (ha : a.length = 5) (hb : b.length = 5) (hc : c.length = 5) (j : Nat) :
    (a ++ (b ++ (c ++ d)))[j]? = if j < 5 then a[j]? else if j < 10 then b[j - 5]? else if j < 15 then c[j - 10]? else d[j - 15]? := by
  split
  · rw [List.getElem?_append_left (by omega)]
  · rw [List.getElem?_append_right (by omega), ha]
    split
    · rw [List.getElem?_append_left (by omega)]
    · rw [List.getElem?_append_right (by omega), hb]
      split
      · rw [List.getElem?_append_left (by omega), show j - 5 - 5 = j - 10 by omega]
      · rw [List.getElem?_append_right (by omega), hc, show j - 5 - 5 - 5 = j - 15 by omega]
section
variable {W1 w' : World} {T : Nat} {a b c d x y : List Int} (ha : a.length = 5) (hb : b.length = 5) (hc : c.length = 5) (hd : d.length = 5) (hx : x.length = 5) (hy : y.length = 5) (hW : W1.heap[T]? = some (ro a b c d))
include ha hb hc hd hx hy hW
theorem swI_ro0 (h : SwI T 0 T 10 W1 a c x y 5 w') : w'.heap[T]? = some (ro x b y d) ∧ But (fun k => k = T) W1 w' := by
  refine ⟨?_, ⟨h.cw.os, h.cw.tape, h.cw.output, h.cw.size, fun k hk => h.cw.other k (fun j hs => ?_)⟩⟩
  · obtain ⟨cs', h1, h2, h3⟩ := h.cw.obj T _ _ (0, 0) hW
    rw [h2, ro]
    congr 2
    apply Array.ext_getElem?
    intro j
    rw [VI_get, four_get hx hb hy]
    have hs : cs'.size = 20 := by rw [h1, VI_size]; simp [ha, hb, hc, hd]
    by_cases j1 : j < 5
    · have := h.ca j j1
      rw [Nat.zero_add, cell_of_row w' T j _ _ _ h2, if_pos j1] at this
      rw [this, if_pos j1, getD_some (by omega)]; rfl
    rw [if_neg j1]
    by_cases j2 : j < 10
    · rw [if_pos j2, h3 j (by unfold SS; omega), VI_get, four_get ha hb hc, if_neg j1, if_pos j2]
    rw [if_neg j2]
    by_cases j3 : j < 15
    · have := h.cb (j - 10) (by omega)
      rw [show 10 + (j - 10) = j by omega, cell_of_row w' T j _ _ _ h2, if_pos (by omega)] at this
      rw [this, if_pos j3, getD_some (by omega)]; rfl
    · rw [if_neg j3, h3 j (by unfold SS; omega), VI_get, four_get ha hb hc, if_neg j1, if_neg j2, if_neg j3]
  · unfold SS at hs; omega
theorem swI_ro5 (h : SwI T 5 T 15 W1 b d x y 5 w') : w'.heap[T]? = some (ro a x c y) ∧ But (fun k => k = T) W1 w' := by
  refine ⟨?_, ⟨h.cw.os, h.cw.tape, h.cw.output, h.cw.size, fun k hk => h.cw.other k (fun j hs => ?_)⟩⟩
  · obtain ⟨cs', h1, h2, h3⟩ := h.cw.obj T _ _ (0, 0) hW
    rw [h2, ro]
    congr 2
    apply Array.ext_getElem?
    intro j
    rw [VI_get, four_get ha hx hc]
    have hs : cs'.size = 20 := by rw [h1, VI_size]; simp [ha, hb, hc, hd]
    by_cases j1 : j < 5
    · rw [if_pos j1, h3 j (by unfold SS; omega), VI_get, four_get ha hb hc, if_pos j1]
    rw [if_neg j1]
    by_cases j2 : j < 10
    · have := h.ca (j - 5) (by omega)
      rw [show 5 + (j - 5) = j by omega, cell_of_row w' T j _ _ _ h2, if_pos (by omega)] at this
      rw [this, if_pos j2, getD_some (by omega)]; rfl
    rw [if_neg j2]
    by_cases j3 : j < 15
    · rw [if_pos j3, h3 j (by unfold SS; omega), VI_get, four_get ha hb hc, if_neg j1, if_neg j2, if_pos j3]
    rw [if_neg j3]
    by_cases j4 : j < 20
    · have := h.cb (j - 15) (by omega)
      rw [show 15 + (j - 15) = j by omega, cell_of_row w' T j _ _ _ h2, if_pos (by omega)] at this
      rw [this, getD_some (by omega)]; rfl
    · rw [Array.getElem?_eq_none (by omega), List.getElem?_eq_none (by omega)]; rfl
  · unfold SS at hs; omega
end
theorem ro_fr {w : World} {T : Nat} {a b c d : List Int} (h : w.heap[T]? = some (ro a b c d)) (j : Nat) : w.frozen? ⟨T, j, none⟩ = false := by unfold ro at h; simp [World.frozen?, h]
section
variable {B : Nat} {w : World} {rv : Value} {l : List (Int × Int)} {bx : List (Nat × Obj)} {wr : World} {T : Nat} {a b c d : List Int}
theorem swp_lim {s : Int} {a b : List Int} (ha : Lim a) (hb : Lim b) : Lim (swp s a b) := by unfold swp; split; exact hb; exact ha
theorem range_cell {w : World} {b o : Nat} {a : List Int} (h : w.rangeAt b o (a.map (Value.int .u64))) (j : Nat) (hj : j < a.length) : w.cell? ⟨b, o + j, none⟩ = some (.int .u64 (a.getD j 0)) :=
  h j _ (by rw [List.getElem?_map, getD_some hj]; rfl)
theorem swap0 (h : Ev B w rv l ((T, ro a b c d) :: bx) wr) (hT : ∀ p ∈ bx, p.1 ≠ T) (hl : l.length ≤ 1000000) (ha : Lim a) (hb : Lim b) (hc : Lim c) (hd : Lim d) (s : Int) (s0 : 0 ≤ s) (s1 : s < 18446744073709551616) :
    Calls Try.prog 39 #[rv, .int .u64 s, .pointer (some ⟨T, 0, none⟩), .pointer (some ⟨T, 10, none⟩)] wr fun e w' => e = .returned (.tuple #[]) ∧ Ev B w rv (l ++ [(3, 7)]) ((T, ro (swp s a c) b (swp s c a) d) :: bx) w' := by
  refine (fswap_any rv s s0 s1 T 0 T 10 a c ha hc wr (fun W1 => Ev B w rv (l ++ [(3, 7)]) ((T, ro a b c d) :: bx) W1) (v_op h hl 7) (fun W1 hq => ?_) (.inl fun i j _ _ e => by injection e; omega)).mono ?_
  · have hr := hq.row (g := T) (x := ro a b c d) (by simp)
    refine ⟨CW.refl _ _, fun j hj => ?_, fun j hj => ?_, fun j => ro_fr hr _, fun j => ro_fr hr _⟩
    · rw [if_neg (by omega)]; exact range_cell (ro_0 ha.len hb.len hc.len hd.len hr) j (by rw [ha.len]; exact hj)
    · rw [if_neg (by omega)]; exact range_cell (ro_10 ha.len hb.len hc.len hd.len hr) j (by rw [hc.len]; exact hj)
  · rintro e w' ⟨he, W1, hq, hs⟩
    obtain ⟨q1, q2⟩ := swI_ro0 ha.len hb.len hc.len hd.len (swp_lim ha hc).len (swp_lim hc ha).len (hq.row (g := T) (x := ro a b c d) (by simp)) hs
    exact ⟨he, hq.set rfl hT q2 q1⟩
theorem swap5 (h : Ev B w rv l ((T, ro a b c d) :: bx) wr) (hT : ∀ p ∈ bx, p.1 ≠ T) (hl : l.length ≤ 1000000) (ha : Lim a) (hb : Lim b) (hc : Lim c) (hd : Lim d) (s : Int) (s0 : 0 ≤ s) (s1 : s < 18446744073709551616) :
    Calls Try.prog 39 #[rv, .int .u64 s, .pointer (some ⟨T, 5, none⟩), .pointer (some ⟨T, 15, none⟩)] wr fun e w' => e = .returned (.tuple #[]) ∧ Ev B w rv (l ++ [(3, 7)]) ((T, ro a (swp s b d) c (swp s d b)) :: bx) w' := by
  refine (fswap_any rv s s0 s1 T 5 T 15 b d hb hd wr (fun W1 => Ev B w rv (l ++ [(3, 7)]) ((T, ro a b c d) :: bx) W1) (v_op h hl 7) (fun W1 hq => ?_) (.inl fun i j _ _ e => by injection e; omega)).mono ?_
  · have hr := hq.row (g := T) (x := ro a b c d) (by simp)
    refine ⟨CW.refl _ _, fun j hj => ?_, fun j hj => ?_, fun j => ro_fr hr _, fun j => ro_fr hr _⟩
    · rw [if_neg (by omega)]; exact range_cell (ro_5 ha.len hb.len hc.len hd.len hr) j (by rw [hb.len]; exact hj)
    · rw [if_neg (by omega)]; exact range_cell (ro_15 ha.len hb.len hc.len hd.len hr) j (by rw [hd.len]; exact hj)
  · rintro e w' ⟨he, W1, hq, hs⟩
    obtain ⟨q1, q2⟩ := swI_ro5 ha.len hb.len hc.len hd.len (swp_lim hb hd).len (swp_lim hd hb).len (hq.row (g := T) (x := ro a b c d) (by simp)) hs
    exact ⟨he, hq.set rfl hT q2 q1⟩
set_option maxRecDepth 100000 in
set_option maxHeartbeats 2000000 in
theorem rswap_any (h : Ev B w rv l ((T, ro a b c d) :: bx) wr) (hT : ∀ p ∈ bx, p.1 ≠ T) (hl : l.length ≤ 900000) (ha : Lim a) (hb : Lim b) (hc : Lim c) (hd : Lim d) (s : Int) (s0 : 0 ≤ s) (s1 : s < 18446744073709551616) :
    Calls Try.prog 23 #[.pointer (some ⟨T, 0, none⟩), rv, .int .u64 s] wr fun e w' => e = .returned (.tuple #[]) ∧ Ev B w rv (l ++ [(3, 7), (3, 7)]) ((T, ro (swp s a c) (swp s b d) (swp s c a) (swp s d b)) :: bx) w' := by
  have C0 : Hid (Calls Try.prog 39 #[rv, .int .u64 s, .pointer (some ⟨T, 0, none⟩), .pointer (some ⟨T, 10, none⟩)] wr.drew fun e w' => e = .returned (.tuple #[]) ∧ Ev B w rv (l ++ [(3, 7)]) ((T, ro (swp s a c) b (swp s c a) d) :: bx) w') := swap0 h.drew hT (by omega) ha hb hc hd s s0 s1
  have C5 : Hid (∀ W, Ev B w rv (l ++ [(3, 7)]) ((T, ro (swp s a c) b (swp s c a) d) :: bx) W → Calls Try.prog 39 #[rv, .int .u64 s, .pointer (some ⟨T, 5, none⟩), .pointer (some ⟨T, 15, none⟩)] W.drew fun e w' => e = .returned (.tuple #[]) ∧ Ev B w rv ((l ++ [(3, 7)]) ++ [(3, 7)]) ((T, ro (swp s a c) (swp s b d) (swp s c a) (swp s d b)) :: bx) w') :=
    fun W hW => swap5 hW.drew hT (by simp; omega) (swp_lim ha hc) hb (swp_lim hc ha) hd s s0 s1
  clear h hT hl ha hb hc hd s0 s1
  go_enter Try.func23, Try.ntmps23
  go_wp2_with fail
  go_region_with (go_at_call 39; refine C0.out.mono ?_; rintro e W1 ⟨rfl, h1⟩)
  all_goals (
    have H1 : Hid _ := h1
    clear h1
    go_wp2_with fail
    go_region_with (go_at_call 39; refine (C5.out W1 H1.out).mono ?_; rintro e W2 ⟨rfl, h2⟩)
    all_goals (
      have H2 : Hid _ := h2
      clear h2
      go_wp2
      go_end0
      have h3 := H2.out
      simp only [List.append_assoc, List.cons_append, List.nil_append] at h3
      exact ⟨rfl, h3⟩))
end
end Go.Proofs.Ytlffamcifahbjaa
namespace Go.Proofs.Ytlffamcifahbjaa
set_option linter.unusedSimpArgs false
set_option linter.unusedVariables false
open Go.ChangeShapes Go.WideShapes Go.ChangeAt Go.RowKit Go.Pin Go.Fld
/-- a private key as it is used -/
def clk (k : List Int) : List Int := (k.set 0 (k.getD 0 0 - k.getD 0 0 % 8)).set 31 (k.getD 31 0 % 64 + 64)
theorem byte_in {k : List Int} (h : Key32 k) {i : Nat} (hi : i < 32) : 0 ≤ k.getD i 0 ∧ k.getD i 0 < 256 := by
  have hl : i < k.length := by rw [h.len]; exact hi
  have : k.getD i 0 ∈ k := by simp [List.getD, hl]
  exact h.bd _ this
theorem clk_key {k : List Int} (h : Key32 k) : Key32 (clk k) := by
  have h0 := byte_in h (i := 0) (by decide)
  have h1 := byte_in h (i := 31) (by decide)
  refine ⟨by simp [clk, h.len], fun x hx => ?_⟩
  unfold clk at hx
  rcases List.mem_or_eq_of_mem_set hx with hx | rfl
  · rcases List.mem_or_eq_of_mem_set hx with hx | rfl
    · exact h.bd x hx
    · omega
  · omega
theorem not7 (x : Int) (h0 : 0 ≤ x) (h1 : x < 256) : bits .andNot .u8 x 7 = x - x % 8 := by
  have h : ∀ n : Fin 256, bits .andNot .u8 (n.val : Int) 7 = (n.val : Int) - (n.val : Int) % 8 := by decide +kernel
  have := h ⟨x.toNat, by omega⟩
  rw [show ((x.toNat : Nat) : Int) = x by omega] at this
  exact this
theorem not128 (x : Int) (h0 : 0 ≤ x) (h1 : x < 256) : bits .andNot .u8 x 128 = x % 128 := by
  have h : ∀ n : Fin 256, bits .andNot .u8 (n.val : Int) 128 = (n.val : Int) % 128 := by decide +kernel
  have := h ⟨x.toNat, by omega⟩
  rw [show ((x.toNat : Nat) : Int) = x by omega] at this
  exact this
theorem or64 (x : Int) (h0 : 0 ≤ x) (h1 : x < 256) : bits .or .u8 (x % 128) 64 = x % 64 + 64 := by
  have h : ∀ n : Fin 256, bits .or .u8 ((n.val : Int) % 128) 64 = (n.val : Int) % 64 + 64 := by decide +kernel
  have := h ⟨x.toNat, by omega⟩
  rw [show ((x.toNat : Nat) : Int) = x by omega] at this
  exact this
theorem getD_set_ne (l : List Int) (i j : Nat) (v : Int) (h : i ≠ j) : (l.set i v).getD j 0 = l.getD j 0 := by simp [List.getD, List.getElem?_set_ne h]
theorem getD_set_eq (l : List Int) (i : Nat) (v : Int) (h : i < l.length) : (l.set i v).getD i 0 = v := by simp [List.getD, List.getElem?_set_self h]
/-- Clamp's boxes -/
structure KW (n : Nat) (w : World) (L : List Int) (wr : World) : Prop where
  old : Below n w wr
  sz : n + 2 ≤ wr.heap.size
  hk : rowB wr n L 23
  hr : rowB wr (n + 1) (List.replicate 32 0) 23
theorem KW.set {n : Nat} {w wr : World} {L : List Int} (h : KW n w L wr) (i : Nat) (v : Int) : KW n w (L.set i v) (wr.setCell ⟨n, i, none⟩ (.int .u8 v)) :=
  ⟨h.old.setCell (Nat.le_refl _) _, by simpa using h.sz, rowB_set h.hk _ _, (heap_setCell_other _ _ _ _ (by simp)).trans h.hr⟩
theorem kw_start (w : World) (k : List Int) : KW w.heap.size w k ((w.alloc (.cells (VI .u8 k) 23)).alloc (.cells (VI .u8 (List.replicate 32 0)) 23)) := by
  refine ⟨((Below.refl _ _).alloc (Nat.le_refl _) _).alloc (by simp) _, by simp [size_alloc], ?_, ?_⟩
  all_goals simp only [rowB, heap_alloc_any, size_alloc]
  · rw [if_neg (by omega), if_pos trivial]
  · rw [if_pos trivial]
set_option maxRecDepth 100000 in
set_option maxHeartbeats 4000000 in
theorem clamp_any (k : List Int) (hk : Key32 k) (w : World) :
    Calls Try.prog 19 #[.agg (VI .u8 k)] w fun e w' => e = .returned (.agg (VI .u8 (clk k))) ∧ Below w.heap.size w w' := by
  have h0 := kw_start w k
  obtain ⟨n, hn⟩ : ∃ n, w.heap.size = n := ⟨_, rfl⟩
  obtain ⟨W, hW⟩ : ∃ W, (w.alloc (.cells (VI .u8 k) 23)).alloc (.cells (VI .u8 (List.replicate 32 0)) 23) = W := ⟨_, rfl⟩
  rw [hW, hn] at h0
  have x0 := byte_in hk (i := 0) (by decide)
  have x1 := byte_in hk (i := 31) (by decide)
  have b7 := not7 _ x0.1 x0.2
  have b128 := not128 _ x1.1 x1.2
  have b64 := or64 _ x1.1 x1.2
  have c0 := rowB_cell h0.hk (i := 0) (by rw [hk.len]; decide)
  have f0 : W.frozen? ⟨n, 0, none⟩ = false := frozen_of_row W _ _ _ _ h0.hk
  have h1 := h0.set 0 (k.getD 0 0 - k.getD 0 0 % 8)
  obtain ⟨W1, e1⟩ : ∃ W1, W.setCell ⟨n, 0, none⟩ (.int .u8 (k.getD 0 0 - k.getD 0 0 % 8)) = W1 := ⟨_, rfl⟩
  rw [e1] at h1
  have c1 := rowB_cell h1.hk (i := 31) (by simp [hk.len])
  rw [getD_set_ne _ _ _ _ (by decide)] at c1
  have f1 : W1.frozen? ⟨n, 31, none⟩ = false := frozen_of_row W1 _ _ _ _ h1.hk
  have h2 := h1.set 31 (k.getD 31 0 % 128)
  obtain ⟨W2, e2⟩ : ∃ W2, W1.setCell ⟨n, 31, none⟩ (.int .u8 (k.getD 31 0 % 128)) = W2 := ⟨_, rfl⟩
  rw [e2] at h2
  have c2 := rowB_cell h2.hk (i := 31) (by simp [hk.len])
  rw [getD_set_eq _ _ _ (by simp [hk.len])] at c2
  have f2 : W2.frozen? ⟨n, 31, none⟩ = false := frozen_of_row W2 _ _ _ _ h2.hk
  have h3 := h2.set 31 (k.getD 31 0 % 64 + 64)
  obtain ⟨W3, e3⟩ : ∃ W3, W2.setCell ⟨n, 31, none⟩ (.int .u8 (k.getD 31 0 % 64 + 64)) = W3 := ⟨_, rfl⟩
  rw [e3, List.set_set] at h3
  have H3 : Hid (KW n w (clk k) W3) := h3
  have HK : Hid (Key32 (clk k)) := clk_key hk
  have HN : Hid (w.heap.size = n) := hn
  have hW' : (w.alloc (.cells (VI .u8 k) 23)).alloc (.cells #[.int .u8 0, .int .u8 0, .int .u8 0, .int .u8 0, .int .u8 0, .int .u8 0, .int .u8 0, .int .u8 0, .int .u8 0, .int .u8 0, .int .u8 0, .int .u8 0, .int .u8 0, .int .u8 0, .int .u8 0, .int .u8 0, .int .u8 0, .int .u8 0, .int .u8 0, .int .u8 0, .int .u8 0, .int .u8 0, .int .u8 0, .int .u8 0, .int .u8 0, .int .u8 0, .int .u8 0, .int .u8 0, .int .u8 0, .int .u8 0, .int .u8 0, .int .u8 0] 23) = W := hW
  clear h0 h1 h2 h3 hk hW
  generalize k.getD 0 0 = y0 at *
  generalize k.getD 31 0 = y1 at *
  go_enter Try.func19, Try.ntmps19
  go_wp2_with (with_reducible refine at_list ?_; first | (refine wpList_load_row rfl 23 (.tmp 1) rfl n rfl 23 (VI .u8 (clk k)) (0, 0) _ H3.out.hk Try.underlying23 rfl HK.out.info ?_) | (refine wpList_store_row rfl 23 (.tmp 2) (.tmp 15) rfl (n + 1) (VI .u8 (clk k)) rfl rfl 23 (VI .u8 (List.replicate 32 0)) H3.out.hr HK.out.info (by simp [HK.out.len]) (VI_one _ _) ?_))
  refine bodyPost_ret (v := .agg (VI .u8 (clk k))) ?_ rfl ⟨rfl, below_setRow (by rw [HN.out]; exact H3.out.old) _ (by rw [HN.out]; omega) _⟩
  exact results_cell_row (P := Try.prog) (fn := Try.f19) (p := 2) (ty := 23) rfl _ _ (n + 1) 23 (VI .u8 (clk k)) (0, 0) _ rfl (setRow_heap W3 _ _ _ 23 _ H3.out.hr) Try.underlying23 rfl HK.out.info
end Go.Proofs.Ytlffamcifahbjaa
