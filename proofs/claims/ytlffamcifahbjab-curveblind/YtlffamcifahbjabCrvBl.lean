import Derived.Test.YtlffamcifahbjabCrvZ
import Derived.Test.YtlffamcifahbjabTrE
import Derived.Test.YtlffamcifahbjabTrQ
import Derived.Test.YtlffamcifahbjabTrV5
import Derived.Test.YtlffamcifahbjabFldH
namespace Go.Proofs.Ytlffamcifahbjab
set_option linter.unusedSimpArgs false
set_option linter.unusedVariables false
open Go.ChangeShapes Go.WideShapes Go.ChangeAt Go.RowKit Go.Pin Go.Fld
theorem shared_at {n : Nat} {k u z : List Int} (hk : Key32 k) (hu : Key32 u) (hz : bts (shn k u) = z) : Hid (∀ B w rv bx wr, Ev B w rv [] bx wr → Calls Try.prog 5 #[rv, .agg (VI .u8 k), .agg (VI .u8 u)] wr fun e w' => e = .returned (.agg (VI .u8 z)) ∧ Ev B w rv shlog bx w') := fun B w rv bx wr h =>
  (shared_any h (by decide) hk hu).mono fun e w' hh => ⟨by rw [hh.1, hz], by have := hh.2; rwa [List.nil_append] at this⟩
set_option maxRecDepth 100000 in
set_option maxHeartbeats 8000000 in
theorem blind_walk {a b u v : List Int} (ha : Key32 a) (hb : Key32 b) (hu : Key32 u) (hv : Key32 v) (w : World) :
    Calls Try.prog 4 #[.agg (VI .u8 a), .agg (VI .u8 b), .agg (VI .u8 u), .agg (VI .u8 v)] w fun e w' => e = .returned (.bool true) ∧ Below w.heap.size w w' := by
  have La : Hid (a.length = 32) := ha.len
  have Lb : Hid (b.length = 32) := hb.len
  have Lu : Hid (u.length = 32) := hu.len
  have Lv : Hid (v.length = 32) := hv.len
  obtain ⟨x, hx⟩ : ∃ x, bts (shn a u) = x := ⟨_, rfl⟩
  obtain ⟨y, hy⟩ : ∃ y, bts (shn b v) = y := ⟨_, rfl⟩
  have Lx : Hid (x.length = 32) := hx ▸ bts_len _
  have Ly : Hid (y.length = 32) := hy ▸ bts_len _
  have SX := shared_at (n := 0) ha hu hx
  have SY := shared_at (n := 0) hb hv hy
  have S1 : Hid (∀ w, Calls Try.prog 5 #[.pointer none, .agg (VI .u8 a), .agg (VI .u8 u)] w fun e w' => e = .returned (.agg (VI .u8 x)) ∧ Below w.heap.size w w') := hx ▸ fun w => shared_nil ha hu w
  have S2 : Hid (∀ w, Calls Try.prog 5 #[.pointer none, .agg (VI .u8 b), .agg (VI .u8 v)] w fun e w' => e = .returned (.agg (VI .u8 y)) ∧ Below w.heap.size w w') := hy ▸ fun w => shared_nil hb hv w
  have HK : Hid (∀ w, Calls Try.prog 6 #[] w fun e w' => e = .returned (.bool true) ∧ Below w.heap.size w w') := known_any
  have hE := ((((ev_nil' w).new (bxK a)).new (bxK b)).new (bxK u)).new (bxK v)
  rw [size_alloc, size_alloc, size_alloc] at hE
  obtain ⟨W0, hW⟩ : ∃ W, (((w.alloc (.cells (VI .u8 a) 23)).alloc (.cells (VI .u8 b) 23)).alloc (.cells (VI .u8 u) 23)).alloc (.cells (VI .u8 v) 23) = W := ⟨_, rfl⟩
  rw [show (((w.alloc (bxK a)).alloc (bxK b)).alloc (bxK u)).alloc (bxK v) = W0 from hW] at hE
  have X0 : Hid (Ev w.heap.size w (.pointer none) [] [(w.heap.size + 1 + 1 + 1, bxK v), (w.heap.size + 1 + 1, bxK u), (w.heap.size + 1, bxK b), (w.heap.size, bxK a)] W0) := hE
  clear hE ha hb hu hv hx hy
  go_enter Try.func4, Try.ntmps4
  go_wp2_with fail
  clear hW
  refine (new_any _).mono ?_
  rintro e W1 ⟨rfl, hW1⟩
  have hN := X0.out.new bxR
  have hF := X0.out.fresh
  rw [show W0.alloc bxR = W1 from hW1.symm] at hN
  obtain ⟨gr, hg⟩ : ∃ g, W0.heap.size = g := ⟨_, rfl⟩
  rw [hg] at hN hF
  try simp only [hg]
  have X1 : Hid (Ev w.heap.size w (.pointer none) [] [(gr, bxR), (w.heap.size + 1 + 1 + 1, bxK v), (w.heap.size + 1 + 1, bxK u), (w.heap.size + 1, bxK b), (w.heap.size, bxK a)] W1) := hN
  have F1 : Hid (∀ p ∈ ([(w.heap.size + 1 + 1 + 1, bxK v), (w.heap.size + 1 + 1, bxK u), (w.heap.size + 1, bxK b), (w.heap.size, bxK a)] : List (Nat × Obj)), p.1 ≠ gr) := hF
  clear hN hF hg hW1 X0
  go_wp2_with fail
  refine (new_any _).mono ?_
  rintro e W2 ⟨rfl, hW1⟩
  have hN := X1.out.new bxR
  have hF := X1.out.fresh
  rw [show W1.alloc bxR = W2 from hW1.symm] at hN
  obtain ⟨gs, hg⟩ : ∃ g, W1.heap.size = g := ⟨_, rfl⟩
  rw [hg] at hN hF
  try simp only [hg]
  have F2 : Hid (∀ p ∈ ([(gr, bxR), (w.heap.size + 1 + 1 + 1, bxK v), (w.heap.size + 1 + 1, bxK u), (w.heap.size + 1, bxK b), (w.heap.size, bxK a)] : List (Nat × Obj)), p.1 ≠ gs) := hF
  have hD : gs ≠ gr := fun e => hF (gr, bxR) (by simp) e.symm
  have hG : w.heap.size ≤ gr := hN.ge (gr, bxR) (by simp)
  have hG2 : w.heap.size ≤ gs := hN.ge (gs, bxR) (by simp)
  have hR : W2.heap[gr]? = some bxR := hN.row (g := gr) (x := bxR) (by simp)
  have hM := hN.sub (by' := [(gs, bxR), (w.heap.size + 1 + 1 + 1, bxK v), (w.heap.size + 1 + 1, bxK u), (w.heap.size + 1, bxK b), (w.heap.size, bxK a)]) (fun p hp => by simp only [List.mem_cons] at hp ⊢; rcases hp with h | h | h | h | h | h <;> simp [h])
  have X2 : Hid (Ev w.heap.size w (.pointer (some ⟨gr, 0, none⟩)) [] [(gs, bxR), (w.heap.size + 1 + 1 + 1, bxK v), (w.heap.size + 1 + 1, bxK u), (w.heap.size + 1, bxK b), (w.heap.size, bxK a)] W2) := ev_switch hM.old hM.le hR hG hM.ge hM.at' (fun p hp => by
    rcases List.mem_cons.1 hp with rfl | hp
    · exact hD
    · exact F1.out p hp)
  have G2 : Hid (w.heap.size ≤ gs) := hG2
  clear hN hF hg hW1 X1 hD hG hG2 hR hM F1
  go_wp2_with (with_reducible refine at_list ?_; first | (refine wpList_load_row rfl 23 (.tmp 4) rfl (w.heap.size) rfl 23 (VI .u8 a) (0, 0) _ (X2.out.row (g := w.heap.size) (x := bxK a) (by simp)) Try.underlying23 rfl (infoK La.out) ?_) | (refine wpList_load_row rfl 23 (.tmp 6) rfl (w.heap.size + 1 + 1) rfl 23 (VI .u8 u) (0, 0) _ (X2.out.row (g := w.heap.size + 1 + 1) (x := bxK u) (by simp)) Try.underlying23 rfl (infoK Lu.out) ?_))
  refine (SX.out _ _ _ _ _ X2.out).mono ?_
  rintro e W3 ⟨rfl, hN⟩
  have X3 : Hid (Ev w.heap.size w (.pointer (some ⟨gr, 0, none⟩)) shlog [(gs, bxR), (w.heap.size + 1 + 1 + 1, bxK v), (w.heap.size + 1 + 1, bxK u), (w.heap.size + 1, bxK b), (w.heap.size, bxK a)] W3) := hN
  clear hN X2
  go_wp2_with (with_reducible refine at_list ?_; refine hold_store 23 (.tmp 11) (.tmp 18) rfl ?_)
  refine store_row_new rfl 23 (.tmp 11) (.tmp 18) rfl W3.heap.size (VI .u8 x) rfl rfl rfl 23 (VI .u8 (List.replicate 32 0)) (infoK Lx.out) (by rw [VI_size, VI_size, Lx.out]; rfl) (VI_one _ _) ?_
  have hN := X3.out.new (bxK x)
  have hF := X3.out.fresh
  obtain ⟨W4, hW⟩ : ∃ W, W3.alloc (bxK x) = W := ⟨_, rfl⟩
  rw [hW] at hN
  rw [show W3.alloc (.cells (VI .u8 x) 23) = W4 from hW]
  obtain ⟨gx, hg⟩ : ∃ g, W3.heap.size = g := ⟨_, rfl⟩
  rw [hg] at hN hF
  try simp only [hg]
  have X4 : Hid (Ev w.heap.size w (.pointer (some ⟨gr, 0, none⟩)) shlog [(gx, bxK x), (gs, bxR), (w.heap.size + 1 + 1 + 1, bxK v), (w.heap.size + 1 + 1, bxK u), (w.heap.size + 1, bxK b), (w.heap.size, bxK a)] W4) := hN
  have F4 : Hid (gs ≠ gx) := hF (gs, bxR) (by simp)
  clear hN hF hg hW X3
  obtain ⟨vr, hr, hbr⟩ := X4.out.recOf
  obtain ⟨bl, hb1, hb2⟩ := blk_list hr
  have hM := X4.out.sub (by' := [(gx, bxK x), (w.heap.size + 1 + 1 + 1, bxK v), (w.heap.size + 1 + 1, bxK u), (w.heap.size + 1, bxK b), (w.heap.size, bxK a)]) (fun p hp => by simp only [List.mem_cons] at hp ⊢; rcases hp with h | h | h | h | h | h <;> simp [h])
  have hSw : Ev w.heap.size W4 (.pointer (some ⟨gs, 0, none⟩)) [] ([(gx, bxK x), (w.heap.size + 1 + 1 + 1, bxK v), (w.heap.size + 1 + 1, bxK u), (w.heap.size + 1, bxK b), (w.heap.size, bxK a)] ++ bl) W4 := by
    refine ev_switch (Below.refl _ _) hM.le (X4.out.row (g := gs) (x := bxR) (by simp)) G2.out (fun p hp => ?_) (fun p hp => ?_) (fun p hp => ?_)
    · rcases List.mem_append.1 hp with hp | hp
      · exact hM.ge p hp
      · exact hr.ge _ (hb2 p hp).1
    · rcases List.mem_append.1 hp with hp | hp
      · exact hM.at' p hp
      · exact (hb2 p hp).2
    · rcases List.mem_append.1 hp with hp | hp
      · rcases List.mem_cons.1 hp with rfl | hp
        · exact fun e => F4.out e.symm
        · exact F2.out p (List.mem_cons_of_mem _ hp)
      · exact fun e => hbr (gs, bxR) (by simp) (e ▸ (hb2 p hp).1)
  have KEEP : Hid (∀ {m : List (Int × Int)} {W' : World}, Ev w.heap.size W4 (.pointer (some ⟨gs, 0, none⟩)) m ([(gx, bxK x), (w.heap.size + 1 + 1 + 1, bxK v), (w.heap.size + 1 + 1, bxK u), (w.heap.size + 1, bxK b), (w.heap.size, bxK a)] ++ bl) W' → Rec w.heap.size W' gr vr shlog) := fun h => h.keeps hr (fun k hk => by
    obtain ⟨o, ho⟩ := hb1 k hk
    exact ⟨o, by simp [ho], (hb2 _ ho).2⟩)
  have X5 : Hid (Ev w.heap.size W4 (.pointer (some ⟨gs, 0, none⟩)) [] ([(gx, bxK x), (w.heap.size + 1 + 1 + 1, bxK v), (w.heap.size + 1 + 1, bxK u), (w.heap.size + 1, bxK b), (w.heap.size, bxK a)] ++ bl) W4) := hSw
  have O4 : Hid (Below w.heap.size w W4) := X4.out.old
  clear hSw hM hb1 hb2 hbr hr X4 F4 F2 G2
  go_wp2_with (with_reducible refine at_list ?_; first | (refine wpList_load_row rfl 23 (.tmp 5) rfl (w.heap.size + 1) rfl 23 (VI .u8 b) (0, 0) _ (X5.out.row (g := w.heap.size + 1) (x := bxK b) (by simp)) Try.underlying23 rfl (infoK Lb.out) ?_) | (refine wpList_load_row rfl 23 (.tmp 7) rfl (w.heap.size + 1 + 1 + 1) rfl 23 (VI .u8 v) (0, 0) _ (X5.out.row (g := w.heap.size + 1 + 1 + 1) (x := bxK v) (by simp)) Try.underlying23 rfl (infoK Lv.out) ?_))
  refine (SY.out _ _ _ _ _ X5.out).mono ?_
  rintro e W5 ⟨rfl, hN⟩
  have X6 : Hid (Ev w.heap.size W4 (.pointer (some ⟨gs, 0, none⟩)) shlog ([(gx, bxK x), (w.heap.size + 1 + 1 + 1, bxK v), (w.heap.size + 1 + 1, bxK u), (w.heap.size + 1, bxK b), (w.heap.size, bxK a)] ++ bl) W5) := hN
  clear hN X5
  go_wp2_with (with_reducible refine at_list ?_; refine hold_store 23 (.tmp 12) (.tmp 22) rfl ?_)
  refine store_row_new rfl 23 (.tmp 12) (.tmp 22) rfl W5.heap.size (VI .u8 y) rfl rfl rfl 23 (VI .u8 (List.replicate 32 0)) (infoK Ly.out) (by rw [VI_size, VI_size, Ly.out]; rfl) (VI_one _ _) ?_
  have hN := X6.out.new (bxK y)
  have hF := X6.out.fresh
  obtain ⟨W6, hW⟩ : ∃ W, W5.alloc (bxK y) = W := ⟨_, rfl⟩
  rw [hW] at hN
  rw [show W5.alloc (.cells (VI .u8 y) 23) = W6 from hW]
  obtain ⟨gy, hg⟩ : ∃ g, W5.heap.size = g := ⟨_, rfl⟩
  rw [hg] at hN hF
  try simp only [hg]
  have RR : Hid (Rec w.heap.size W6 gr vr shlog) := (KEEP.out X6.out).below (by rw [← hW]; exact (Below.refl _ _).alloc (Nat.le_refl _) _)
  have X7 : Hid (Ev w.heap.size W4 (.pointer (some ⟨gs, 0, none⟩)) shlog ((gy, bxK y) :: ([(gx, bxK x), (w.heap.size + 1 + 1 + 1, bxK v), (w.heap.size + 1 + 1, bxK u), (w.heap.size + 1, bxK b), (w.heap.size, bxK a)] ++ bl)) W6) := hN
  clear hN hF hg hW X6 KEEP
  obtain ⟨us, hs, _⟩ := X7.out.recOf
  have SS : Hid (Rec w.heap.size W6 gs us shlog) := hs
  have O6 : Hid (Below w.heap.size w W6) := O4.out.trans X7.out.old
  have R6 : Hid (Ev w.heap.size W4 (.pointer (some ⟨gs, 0, none⟩)) shlog [(gy, bxK y), (gx, bxK x), (w.heap.size + 1 + 1 + 1, bxK v), (w.heap.size + 1 + 1, bxK u), (w.heap.size + 1, bxK b), (w.heap.size, bxK a)] W6) := X7.out.sub (fun p hp => by
    rcases List.mem_cons.1 hp with rfl | hp
    · simp
    · exact List.mem_cons_of_mem _ (List.mem_append_left _ hp))
  clear hs X7 O4
  go_wp2_with fail
  have EQX := fun w => eqK Lx.out w
  have EQY := fun w => eqK Ly.out w
  refine wp_region_quiet_in (C := fun Y => Below W6.heap.size W6 Y) (by kernel_rfl) (by kernel_rfl) ((Below.refl _ _).drew) ?_
  refine wpQuiet_step (fun K hK => ?_)
  refine if_pos_mpr (by kernel_rfl) ⟨.agg (VI .u8 x), fun Y hY => quietAt_load_row 23 (.tmp 11) rfl (gx) rfl 23 (VI .u8 x) (0, 0) _ ((R6.out.below hY).row (g := gx) (x := bxK x) (by simp)) Try.underlying23 rfl (infoK Lx.out), hK _ ?_⟩
  clear hK K
  try simp only [Act.put, List.getElem_toArray, List.getElem_cons_succ, List.getElem_cons_zero, List.getElem?_toArray, List.getElem?_cons_succ, List.getElem?_cons_zero, List.setIfInBounds_toArray, List.set_cons_zero, List.set_cons_succ]
  refine wpQuiet_step (fun K hK => ?_)
  refine if_pos_mpr (by kernel_rfl) ⟨.agg (VI .u8 a), fun Y hY => quietAt_load_row 23 (.tmp 4) rfl (w.heap.size) rfl 23 (VI .u8 a) (0, 0) _ ((R6.out.below hY).row (g := w.heap.size) (x := bxK a) (by simp)) Try.underlying23 rfl (infoK La.out), hK _ ?_⟩
  clear hK K
  try simp only [Act.put, List.getElem_toArray, List.getElem_cons_succ, List.getElem_cons_zero, List.getElem?_toArray, List.getElem?_cons_succ, List.getElem?_cons_zero, List.setIfInBounds_toArray, List.set_cons_zero, List.set_cons_succ]
  refine wpQuiet_step (fun K hK => ?_)
  refine if_pos_mpr (by kernel_rfl) ⟨.agg (VI .u8 u), fun Y hY => quietAt_load_row 23 (.tmp 6) rfl (w.heap.size + 1 + 1) rfl 23 (VI .u8 u) (0, 0) _ ((R6.out.below hY).row (g := w.heap.size + 1 + 1) (x := bxK u) (by simp)) Try.underlying23 rfl (infoK Lu.out), hK _ ?_⟩
  clear hK K
  try simp only [Act.put, List.getElem_toArray, List.getElem_cons_succ, List.getElem_cons_zero, List.getElem?_toArray, List.getElem?_cons_succ, List.getElem?_cons_zero, List.setIfInBounds_toArray, List.set_cons_zero, List.set_cons_succ]
  refine wpQuiet_step (fun K hK => ?_)
  refine if_pos_mpr (by kernel_rfl) ⟨.agg (VI .u8 x), fun Y hY => ?_, hK _ ?_⟩
  · go_simp
    exact (S1.out Y).mono fun e w' hh => ⟨hh.1, hY.trans (hh.2.mono hY.size)⟩
  clear hK K
  try simp only [Act.put, List.getElem_toArray, List.getElem_cons_succ, List.getElem_cons_zero, List.getElem?_toArray, List.getElem?_cons_succ, List.getElem?_cons_zero, List.setIfInBounds_toArray, List.set_cons_zero, List.set_cons_succ]
  refine wpQuiet_step (fun K hK => ?_)
  go_simp
  first | refine hK _ ?_ | refine ⟨_, fun _ _ => rfl, hK _ ?_⟩
  clear hK K
  refine wpQuiet_step (fun K hK => ?_)
  go_simp
  first | refine hK _ ?_ | refine ⟨_, fun _ _ => rfl, hK _ ?_⟩
  clear hK K
  refine wpQuiet_step (fun K hK => ?_)
  refine if_pos_mpr (by kernel_rfl) ⟨.agg (VI .u8 y), fun Y hY => quietAt_load_row 23 (.tmp 12) rfl (gy) rfl 23 (VI .u8 y) (0, 0) _ ((R6.out.below hY).row (g := gy) (x := bxK y) (by simp)) Try.underlying23 rfl (infoK Ly.out), hK _ ?_⟩
  clear hK K
  try simp only [Act.put, List.getElem_toArray, List.getElem_cons_succ, List.getElem_cons_zero, List.getElem?_toArray, List.getElem?_cons_succ, List.getElem?_cons_zero, List.setIfInBounds_toArray, List.set_cons_zero, List.set_cons_succ]
  refine wpQuiet_step (fun K hK => ?_)
  refine if_pos_mpr (by kernel_rfl) ⟨.agg (VI .u8 b), fun Y hY => quietAt_load_row 23 (.tmp 5) rfl (w.heap.size + 1) rfl 23 (VI .u8 b) (0, 0) _ ((R6.out.below hY).row (g := w.heap.size + 1) (x := bxK b) (by simp)) Try.underlying23 rfl (infoK Lb.out), hK _ ?_⟩
  clear hK K
  try simp only [Act.put, List.getElem_toArray, List.getElem_cons_succ, List.getElem_cons_zero, List.getElem?_toArray, List.getElem?_cons_succ, List.getElem?_cons_zero, List.setIfInBounds_toArray, List.set_cons_zero, List.set_cons_succ]
  refine wpQuiet_step (fun K hK => ?_)
  refine if_pos_mpr (by kernel_rfl) ⟨.agg (VI .u8 v), fun Y hY => quietAt_load_row 23 (.tmp 7) rfl (w.heap.size + 1 + 1 + 1) rfl 23 (VI .u8 v) (0, 0) _ ((R6.out.below hY).row (g := w.heap.size + 1 + 1 + 1) (x := bxK v) (by simp)) Try.underlying23 rfl (infoK Lv.out), hK _ ?_⟩
  clear hK K
  try simp only [Act.put, List.getElem_toArray, List.getElem_cons_succ, List.getElem_cons_zero, List.getElem?_toArray, List.getElem?_cons_succ, List.getElem?_cons_zero, List.setIfInBounds_toArray, List.set_cons_zero, List.set_cons_succ]
  refine wpQuiet_step (fun K hK => ?_)
  refine if_pos_mpr (by kernel_rfl) ⟨.agg (VI .u8 y), fun Y hY => ?_, hK _ ?_⟩
  · go_simp
    exact (S2.out Y).mono fun e w' hh => ⟨hh.1, hY.trans (hh.2.mono hY.size)⟩
  clear hK K
  try simp only [Act.put, List.getElem_toArray, List.getElem_cons_succ, List.getElem_cons_zero, List.getElem?_toArray, List.getElem?_cons_succ, List.getElem?_cons_zero, List.setIfInBounds_toArray, List.set_cons_zero, List.set_cons_succ]
  refine wpQuiet_step (fun K hK => ?_)
  go_simp
  first | refine hK _ ?_ | refine ⟨_, fun _ _ => rfl, hK _ ?_⟩
  clear hK K
  refine wpQuiet_step (fun K hK => ?_)
  go_simp
  first | refine hK _ ?_ | refine ⟨_, fun _ _ => rfl, hK _ ?_⟩
  clear hK K
  refine wpQuiet_nil ?_
  intro W7 hY
  have R7 : Hid (Rec w.heap.size W7 gr vr shlog) := RR.out.below hY
  have S7 : Hid (Rec w.heap.size W7 gs us shlog) := SS.out.below hY
  have O7 : Hid (Below w.heap.size w W7) := O6.out.trans (hY.mono O6.out.size)
  clear hY RR SS O6 R6 EQX EQY
  have ls : shlog.length ≤ 1000000 := by rw [shlog_len]; decide
  have LS : Hid (shlog.length ≤ 1000000) := ls
  clear ls
  go_wp2_with fail
  refine (same_any _ _ vr us shlog shlog _ R7.out.opt S7.out.opt (Nat.le_trans LS.out (by decide))).mono ?_
  rintro e W8 ⟨rfl, n8, rfl⟩
  rw [beq_self_eq_true]
  obtain ⟨W8, hW8⟩ : ∃ W, W7.drewN n8 = W := ⟨_, rfl⟩
  have hY : Below W7.heap.size W7 W8 := by rw [← hW8]; exact below_drewN' (Below.refl _ _) _
  rw [hW8]
  have R8 : Hid (Rec w.heap.size W8 gr vr shlog) := R7.out.below hY
  have S8 : Hid (Rec w.heap.size W8 gs us shlog) := S7.out.below hY
  have O8 : Hid (Below w.heap.size w W8) := O7.out.trans (hY.mono O7.out.size)
  clear hY R7 S7 O7 hW8
  go_wp2_with fail
  refine (tEvents_any _ vr shlog LS.out _ R8.out.opt).mono ?_
  rintro e W9 ⟨l1, rfl, hl1, hY⟩
  have R9 : Hid (Rec w.heap.size W9 gr vr shlog) := R8.out.below hY
  have S9 : Hid (Rec w.heap.size W9 gs us shlog) := S8.out.below hY
  have O9 : Hid (Below w.heap.size w W9) := O8.out.trans (hY.mono O8.out.size)
  have L1 : Hid (Sl W9 l1 2 (evC shlog) shlog.length) := sl_of_owns hl1
  clear hY R8 S8 O8 hl1
  go_wp2_with fail
  refine (tEvents_any _ us shlog LS.out _ S9.out.opt).mono ?_
  rintro e W10 ⟨l2, rfl, hl2, hY⟩
  have R10 : Hid (Rec w.heap.size W10 gr vr shlog) := R9.out.below hY
  have O10 : Hid (Below w.heap.size w W10) := O9.out.trans (hY.mono O9.out.size)
  have L1' : Hid (Sl W10 l1 2 (evC shlog) shlog.length) := sl_below hY L1.out
  have L2 : Hid (Sl W10 l2 2 (evC shlog) shlog.length) := sl_of_owns hl2
  clear hY R9 S9 O9 L1 hl2
  go_wp2_with fail
  refine (events_any _ _ shlog shlog _ L1'.out L2.out (Nat.le_trans LS.out (by decide))).mono ?_
  rintro e W11 ⟨rfl, n11, rfl⟩
  rw [beq_self_eq_true]
  obtain ⟨W11, hW8⟩ : ∃ W, W10.drewN n11 = W := ⟨_, rfl⟩
  have hY : Below W10.heap.size W10 W11 := by rw [← hW8]; exact below_drewN' (Below.refl _ _) _
  rw [hW8]
  have R11 : Hid (Rec w.heap.size W11 gr vr shlog) := R10.out.below hY
  have O11 : Hid (Below w.heap.size w W11) := O10.out.trans (hY.mono O10.out.size)
  clear hY R10 O10 hW8 L1' L2
  go_wp2_with fail
  refine (total_any _ vr shlog _ R11.out.opt).mono ?_
  rintro e W12 ⟨rfl, hw⟩
  obtain rfl := hw
  rw [shlog_len]
  go_wp2_with fail
  refine (HK.out _).mono ?_
  rintro e W13 ⟨rfl, hY⟩
  have O13 : Hid (Below w.heap.size w W13) := O11.out.trans (hY.mono O11.out.size)
  clear hY
  go_wp2
  go_ret
  exact ⟨rfl, O13.out⟩
end Go.Proofs.Ytlffamcifahbjab
