import Derived.Deep.RegionHeld3
import Derived.Test.YtlffamcifahbjaaMgbe
import Derived.Test.YtlffamcifahbjaaMgbd
import Derived.Test.YtlffamcifahbjaaMgaq
namespace Go.Proofs.Ytlffamcifahbjaa
set_option linter.unusedSimpArgs false
set_option linter.unusedVariables false
open Go.ChangeShapes Go.WideShapes Go.ChangeAt Go.RowKit Go.Pin Go.Fld
set_option maxRecDepth 100000 in
theorem rAt_any (B R : Nat) (vs : Value) (l : List (Int × Int)) (v : Int) (w : World) (h : Rec B w R vs l) (hl : l.length ≤ 1000000) :
    Calls Try.prog 10 #[.pointer (some ⟨R, 0, none⟩), .int .i64 v] w fun e w' => e = .returned (.int .i64 v) ∧ Logged B R vs l (2, v) w w' := by
  have HR : Hid _ := h
  have HL : Hid _ := hl
  clear h hl
  go_enter Try.func10, Try.ntmps10
  go_wp2_with (first | (go_at_call 21; refine (rlog_any B R vs l _ _ _ HR.out HL.out).mono ?_; rintro e w' ⟨rfl, hw⟩))
  go_ret
  exact ⟨rfl, hw⟩
theorem Ev.logged {B : Nat} {w : World} {R : Nat} {l : List (Int × Int)} {bx : List (Nat × Obj)} {wr : World} (h : Ev B w (.pointer (some ⟨R, 0, none⟩)) l bx wr) : ∃ vs, Rec B wr R vs l ∧ ∀ x w', Logged B R vs l x wr w' → Ev B w (.pointer (some ⟨R, 0, none⟩)) (l ++ [x]) bx w' := by
  obtain ⟨vs, h2, h3⟩ := h.recOf
  refine ⟨vs, h2, fun x w' ho => ?_⟩
  obtain ⟨vs', g1, g2, g3⟩ := ho
  refine ⟨h.old.trans (g2.below h2.ge h.le), Nat.le_trans h.le g2.size, h.ge, fun p hp => (g2.block _ (heap_lt (h.at' p hp)) (h3 p hp)).trans (h.at' p hp), .inr ⟨R, vs', rfl, g1, fun p hp hk => ?_⟩⟩
  have hlt : p.1 < wr.heap.size := heap_lt (h.at' p hp)
  rcases hk with hk | hk
  · exact h3 p hp (.inl hk)
  · rcases g3 with g3 | ⟨g, g3, hge⟩
    · exact h3 p hp (.inr (g3 ▸ hk))
    · rw [g3] at hk; injection hk with hk; omega
theorem v_at {B : Nat} {w : World} {R : Nat} {l : List (Int × Int)} {bx : List (Nat × Obj)} {wr : World} (h : Ev B w (.pointer (some ⟨R, 0, none⟩)) l bx wr) (hl : l.length ≤ 1000000) (v : Int) : Calls Try.prog 10 #[.pointer (some ⟨R, 0, none⟩), .int .i64 v] wr fun e w' => e = .returned (.int .i64 v) ∧ Ev B w (.pointer (some ⟨R, 0, none⟩)) (l ++ [(2, v)]) bx w' := by
  obtain ⟨vs, h2, h3⟩ := h.logged
  exact (rAt_any B R vs l v wr h2 hl).mono fun e w' hh => ⟨hh.1, h3 _ _ hh.2⟩
/-- a list of events behind its first one -/
theorem sl_tail {W : World} {g c : Nat} {x : Int × Int} {l : List (Int × Int)} (h : Sl W (.slice (some ⟨g, 0, none⟩) (l.length + 1) c) 2 (evC (x :: l)) (l.length + 1)) : Sl W (.slice (some ⟨g, 2, none⟩) l.length (c - 1)) 2 (evC l) l.length := by
  obtain ⟨_, a, c', e, hc, h⟩ := h
  injection e with e1 _ e3
  subst e3
  refine ⟨evC_len l, _, _, rfl, by omega, .inr ⟨g, 2, rfl, fun j y hy => ?_⟩⟩
  rcases h with h | ⟨b, o, e2, h⟩
  · omega
  · rw [← e1] at e2
    injection e2 with e2; injection e2 with e4 e5
    subst e4; subst e5
    have := h (j + 2) y (by
      show ([Value.int .i64 x.1, .int .i64 x.2] ++ evC l)[j + 2]? = some y
      rw [List.getElem?_append_right (by simp)]
      simpa using hy)
    rw [show 0 + (j + 2) = 2 + j by omega] at this
    exact this
end Go.Proofs.Ytlffamcifahbjaa
namespace Go.Proofs.Ytlffamcifahbjaa
set_option linter.unusedSimpArgs false
set_option linter.unusedVariables false
open Go.ChangeShapes Go.WideShapes Go.ChangeAt Go.RowKit Go.Pin Go.Fld
set_option maxRecDepth 100000 in
set_option maxHeartbeats 8000000 in
theorem shares_walk {k u : List Int} (hk : Key32 k) (hu : Key32 u) (w : World) :
    Calls Try.prog 3 #[.agg (VI .u8 k), .agg (VI .u8 u)] w fun e w' => e = .returned (.bool true) ∧ Below w.heap.size w w' := by
  have LK : Hid (k.length = 32) := hk.len
  have LU : Hid (u.length = 32) := hu.len
  obtain ⟨z, hz⟩ : ∃ z, bts (shn k u) = z := ⟨_, rfl⟩
  have LZ : Hid (z.length = 32) := hz ▸ bts_len _
  obtain ⟨sl, hsl⟩ : ∃ sl, (2, 7) :: shlog = sl := ⟨_, rfl⟩
  have SL : Hid ((2, 7) :: shlog = sl) := hsl
  have hsn : sl.length = 5105 := by rw [← hsl, List.length_cons, shlog_len]
  have SN : Hid (sl.length = 5105) := hsn
  have CP : Hid (∀ B w rv bx wr, Ev B w rv [(2, 7)] bx wr → Calls Try.prog 11 #[rv, .agg (VI .u8 k), .agg (VI .u8 u)] wr fun e w' => e = .returned (.agg (VI .u8 z)) ∧ Ev B w rv sl bx w') := fun B w rv bx wr h =>
    (shared_any h (by decide) hk hu).mono fun e w' hh => ⟨by rw [hh.1, hz], by have := hh.2; rw [← hsl]; exact this⟩
  have CR : Hid (∀ w, Calls Try.prog 13 #[.agg (VI .u8 k), .agg (VI .u8 u)] w fun e w' => e = .returned (.agg (VI .u8 z)) ∧ Below w.heap.size w w') := hz ▸ fun w => rshared_any hk hu w
  have HK : Hid (∀ w, Calls Try.prog 16 #[] w fun e w' => e = .returned (.bool true) ∧ Below w.heap.size w w') := known_any
  have EQZ := fun w => eqK LZ.out w
  have hE := ((ev_nil' w).new (bxK k)).new (bxK u)
  rw [size_alloc] at hE
  obtain ⟨W0, hW⟩ : ∃ W, (w.alloc (.cells (VI .u8 k) 23)).alloc (.cells (VI .u8 u) 23) = W := ⟨_, rfl⟩
  rw [show (w.alloc (bxK k)).alloc (bxK u) = W0 from hW] at hE
  have X0 : Hid (Ev w.heap.size w (.pointer none) [] [(w.heap.size + 1, bxK u), (w.heap.size, bxK k)] W0) := hE
  clear hE hk hu hz hsl hsn
  go_enter Try.func3, Try.ntmps3
  go_wp2_with fail
  clear hW
  refine (new_any _).mono ?_
  rintro e W1 ⟨rfl, hW1⟩
  have hN := X0.out.new bxR
  have hF := X0.out.fresh
  rw [show W0.alloc bxR = W1 from hW1.symm] at hN
  obtain ⟨gr, hg⟩ : ∃ g, W0.heap.size = g := ⟨_, rfl⟩
  rw [hg] at hN hF
  try simp only [hg]
  have hM := hN.sub (by' := [(w.heap.size + 1, bxK u), (w.heap.size, bxK k)]) (fun p hp => List.mem_cons_of_mem _ hp)
  have X1 : Hid (Ev w.heap.size w (.pointer (some ⟨gr, 0, none⟩)) [] [(w.heap.size + 1, bxK u), (w.heap.size, bxK k)] W1) := ev_switch hM.old hM.le (hN.row (g := gr) (x := bxR) (by simp)) (hN.ge (gr, bxR) (by simp)) hM.ge hM.at' hF
  clear hN hF hg hW1 X0 hM
  go_wp2_with fail
  refine (v_at X1.out (by decide) 7).mono ?_
  rintro e W1' ⟨rfl, hN⟩
  have X1' : Hid (Ev w.heap.size w (.pointer (some ⟨gr, 0, none⟩)) [(2, 7)] [(w.heap.size + 1, bxK u), (w.heap.size, bxK k)] W1') := hN
  clear hN X1
  go_wp2_with (with_reducible refine at_list ?_; first | (refine wpList_load_row rfl 23 (.tmp 2) rfl (w.heap.size) rfl 23 (VI .u8 k) (0, 0) _ (X1'.out.row (g := w.heap.size) (x := bxK k) (by simp)) Try.underlying23 rfl (infoK LK.out) ?_) | (refine wpList_load_row rfl 23 (.tmp 3) rfl (w.heap.size + 1) rfl 23 (VI .u8 u) (0, 0) _ (X1'.out.row (g := w.heap.size + 1) (x := bxK u) (by simp)) Try.underlying23 rfl (infoK LU.out) ?_))
  refine (CP.out _ _ _ _ _ X1'.out).mono ?_
  rintro e W2 ⟨rfl, hN⟩
  have X2 : Hid (Ev w.heap.size w (.pointer (some ⟨gr, 0, none⟩)) sl [(w.heap.size + 1, bxK u), (w.heap.size, bxK k)] W2) := hN
  clear hN X1' CP
  go_wp2_with (with_reducible refine at_list ?_; refine hold_store 23 (.tmp 6) (.tmp 14) rfl ?_)
  refine store_row_new rfl 23 (.tmp 6) (.tmp 14) rfl W2.heap.size (VI .u8 z) rfl rfl rfl 23 (VI .u8 (List.replicate 32 0)) (infoK LZ.out) (by rw [VI_size, VI_size, LZ.out]; rfl) (VI_one _ _) ?_
  have hN := X2.out.new (bxK z)
  obtain ⟨W3, hW⟩ : ∃ W, W2.alloc (bxK z) = W := ⟨_, rfl⟩
  rw [hW] at hN
  rw [show W2.alloc (.cells (VI .u8 z) 23) = W3 from hW]
  obtain ⟨gg, hg⟩ : ∃ g, W2.heap.size = g := ⟨_, rfl⟩
  rw [hg] at hN
  try simp only [hg]
  have X3 : Hid (Ev w.heap.size w (.pointer (some ⟨gr, 0, none⟩)) sl [(gg, bxK z), (w.heap.size + 1, bxK u), (w.heap.size, bxK k)] W3) := hN
  clear hN hg hW X2
  go_wp2_with fail
  obtain ⟨vr, hr, _⟩ := X3.out.recOf
  refine (tEvents_any _ vr sl (by rw [SN.out]; decide) _ hr.opt).mono ?_
  rintro e W4 ⟨l1, rfl, hl1, hb⟩
  have X4 : Hid (Ev w.heap.size w (.pointer (some ⟨gr, 0, none⟩)) sl [(gg, bxK z), (w.heap.size + 1, bxK u), (w.heap.size, bxK k)] W4) := X3.out.below hb
  have hs1 := sl_of_owns hl1
  obtain ⟨gl, cap, rfl, hcap⟩ : ∃ g cap, l1 = .slice (some ⟨g, 0, none⟩) sl.length cap ∧ sl.length ≤ cap := by
    obtain ⟨_, a, c, e, hc, h⟩ := hs1
    rcases hl1.2 with ⟨_, h0⟩ | ⟨g, cap, _, rfl, _⟩
    · rw [SN.out] at h0; omega
    · injection e with e1 e2 e3
      subst e3
      exact ⟨g, cap, rfl, hc⟩
  have hcell : ∀ j x, (evC sl)[j]? = some x → W4.cell? ⟨gl, 0 + j, none⟩ = some x := by
    obtain ⟨_, a, c, e, hc, h⟩ := hs1
    injection e with e1 e2 e3
    rcases h with h | ⟨b, o, e4, h⟩
    · rw [SN.out] at h; omega
    · rw [← e1] at e4
      injection e4 with e4; injection e4 with e5 e6
      subst e5; subst e6
      exact h
  have ca := hcell 0 (.int .i64 2) (by rw [← SL.out]; rfl)
  have cb := hcell 1 (.int .i64 7) (by rw [← SL.out]; rfl)
  simp only [Nat.zero_add] at ca cb
  have hs2 : Sl W4 (.slice (some ⟨gl, 2, none⟩) shlog.length (cap - 1)) 2 (evC shlog) shlog.length := by
    rw [← SL.out] at hs1
    exact sl_tail hs1
  have LT : Hid (Sl W4 (.slice (some ⟨gl, 2, none⟩) 5104 (cap - 1)) 2 (evC shlog) shlog.length) := by
    have := hs2
    rw [shlog_len] at this ⊢
    exact this
  rw [SN.out]
  rw [SN.out] at hcap
  have hc1 : ¬ cap = 1 := by omega
  have ls : shlog.length ≤ 1000000 := by rw [shlog_len]; decide
  have LS : Hid (shlog.length ≤ 1000000) := ls
  clear hb X3 hr hl1 hs1 hcell hs2 ls
  go_wp2_with fail
  clear ca cb
  refine wp_region_held_drew (S := fun Y => Ev w.heap.size w (.pointer (some ⟨gr, 0, none⟩)) sl [(gg, bxK z), (w.heap.size + 1, bxK u), (w.heap.size, bxK k)] Y ∧ Below W4.heap.size W4 Y) (by kernel_rfl) ⟨X4.out.drew, (Below.refl _ _).drew⟩ (fun hH => ?_)
  clear X4
  refine wpAnyH_take (i := 0) (v := .agg (VI .u8 z)) rfl (by kernel_rfl) (by kernel_rfl) (by kernel_rfl) (fun _ _ _ h => h) (yieldsIf_load_row (by kernel_rfl) 23 (.tmp 6) rfl (gg) (by kernel_rfl) 23 (VI .u8 z) (0, 0) _ (fun Y hY => hY.1.row (g := gg) (x := bxK z) (by simp)) Try.underlying23 rfl (infoK LZ.out)) hH ?_
  try simp only [Act.put, List.getElem_toArray, List.getElem_cons_succ, List.getElem_cons_zero, List.getElem?_toArray, List.getElem?_cons_succ, List.getElem?_cons_zero, List.setIfInBounds_toArray, List.set_cons_zero, List.set_cons_succ]
  refine wpAnyH_take (i := 1) (v := .agg (VI .u8 k)) rfl (by kernel_rfl) (by kernel_rfl) (by kernel_rfl) (fun _ _ _ h => h) (yieldsIf_load_row (by kernel_rfl) 23 (.tmp 2) rfl (w.heap.size) (by kernel_rfl) 23 (VI .u8 k) (0, 0) _ (fun Y hY => hY.1.row (g := w.heap.size) (x := bxK k) (by simp)) Try.underlying23 rfl (infoK LK.out)) hH ?_
  try simp only [Act.put, List.getElem_toArray, List.getElem_cons_succ, List.getElem_cons_zero, List.getElem?_toArray, List.getElem?_cons_succ, List.getElem?_cons_zero, List.setIfInBounds_toArray, List.set_cons_zero, List.set_cons_succ]
  refine wpAnyH_take (i := 2) (v := .agg (VI .u8 u)) rfl (by kernel_rfl) (by kernel_rfl) (by kernel_rfl) (fun _ _ _ h => h) (yieldsIf_load_row (by kernel_rfl) 23 (.tmp 3) rfl (w.heap.size + 1) (by kernel_rfl) 23 (VI .u8 u) (0, 0) _ (fun Y hY => hY.1.row (g := w.heap.size + 1) (x := bxK u) (by simp)) Try.underlying23 rfl (infoK LU.out)) hH ?_
  try simp only [Act.put, List.getElem_toArray, List.getElem_cons_succ, List.getElem_cons_zero, List.getElem?_toArray, List.getElem?_cons_succ, List.getElem?_cons_zero, List.setIfInBounds_toArray, List.set_cons_zero, List.set_cons_succ]
  refine wpAnyH_ready (rs := [3]) (by kernel_rfl) (by simp) (AllReadyH.cons rfl (fun K' hK => ?_) AllReadyH.nil)
  refine if_pos_mpr (by kernel_rfl) ?_
  go_simp
  refine (CR.out _).mono ?_
  rintro e V3 ⟨rfl, hb⟩
  have hN := And.intro (hH.1.below hb) (hH.2.trans (hb.mono hH.2.size))
  clear hb hH
  go_wp2_with fail
  refine hK.out _ _ (hN) (fun hH => ?_)
  clear hK K'
  try simp only [Act.put, List.getElem_toArray, List.getElem_cons_succ, List.getElem_cons_zero, List.getElem?_toArray, List.getElem?_cons_succ, List.getElem?_cons_zero, List.setIfInBounds_toArray, List.set_cons_zero, List.set_cons_succ]
  clear hN
  refine wpAnyH_take (i := 4) (v := .bool true) rfl (by kernel_rfl) (by kernel_rfl) (by kernel_rfl) (fun _ _ _ h => h) (Or.inl ⟨by kernel_rfl, fun W hW => ?_⟩) hH ?_
  · go_simp
  try simp only [Act.put, List.getElem_toArray, List.getElem_cons_succ, List.getElem_cons_zero, List.getElem?_toArray, List.getElem?_cons_succ, List.getElem?_cons_zero, List.setIfInBounds_toArray, List.set_cons_zero, List.set_cons_succ]
  refine wpAnyH_take (i := 5) (v := .bool true) rfl (by kernel_rfl) (by kernel_rfl) (by kernel_rfl) (fun _ _ _ h => h) (Or.inl ⟨by kernel_rfl, fun W hW => ?_⟩) hH ?_
  · go_simp
  try simp only [Act.put, List.getElem_toArray, List.getElem_cons_succ, List.getElem_cons_zero, List.getElem?_toArray, List.getElem?_cons_succ, List.getElem?_cons_zero, List.setIfInBounds_toArray, List.set_cons_zero, List.set_cons_succ]
  refine wpAnyH_take (i := 6) (v := .slice (some ⟨gl, 0, none⟩) 5105 cap) rfl (by kernel_rfl) (by kernel_rfl) (by kernel_rfl) (fun _ _ _ h => h) (Or.inl ⟨by kernel_rfl, fun W hW => ?_⟩) hH ?_
  · go_simp
  try simp only [Act.put, List.getElem_toArray, List.getElem_cons_succ, List.getElem_cons_zero, List.getElem?_toArray, List.getElem?_cons_succ, List.getElem?_cons_zero, List.setIfInBounds_toArray, List.set_cons_zero, List.set_cons_succ]
  refine wpAnyH_take (i := 7) (v := .slice (some ⟨gl, 2, none⟩) 5104 (cap - 1)) rfl (by kernel_rfl) (by kernel_rfl) (by kernel_rfl) (fun _ _ _ h => h) (Or.inl ⟨by kernel_rfl, fun W hW => ?_⟩) hH ?_
  · go_simp
  try simp only [Act.put, List.getElem_toArray, List.getElem_cons_succ, List.getElem_cons_zero, List.getElem?_toArray, List.getElem?_cons_succ, List.getElem?_cons_zero, List.setIfInBounds_toArray, List.set_cons_zero, List.set_cons_succ]
  refine wpAnyH_ready (rs := [8]) (by kernel_rfl) (by simp) (AllReadyH.cons rfl (fun K' hK => ?_) AllReadyH.nil)
  refine if_pos_mpr (by kernel_rfl) ?_
  go_simp
  refine (revents_any _).mono ?_
  rintro e V8 ⟨l2, rfl, hl2, hb⟩
  have hN := And.intro (hH.1.below hb) (hH.2.trans (hb.mono hH.2.size))
  have L2 : Hid (Sl V8 l2 2 (evC shlog) shlog.length) := sl_of_owns hl2
  clear hb hH hl2
  go_wp2_with fail
  refine hK.out _ _ (hN) (fun hH => ?_)
  clear hK K'
  try simp only [Act.put, List.getElem_toArray, List.getElem_cons_succ, List.getElem_cons_zero, List.getElem?_toArray, List.getElem?_cons_succ, List.getElem?_cons_zero, List.setIfInBounds_toArray, List.set_cons_zero, List.set_cons_succ]
  clear hN
  refine wpAnyH_ready (rs := [9]) (by kernel_rfl) (by simp) (AllReadyH.cons rfl (fun K' hK => ?_) AllReadyH.nil)
  refine if_pos_mpr (by kernel_rfl) ?_
  go_simp
  refine (events_any _ _ shlog shlog _ (sl_below hH.2 LT.out) L2.out (Nat.le_trans LS.out (by decide))).mono ?_
  rintro e V9 ⟨rfl, n9, rfl⟩
  rw [beq_self_eq_true]
  have hb := below_drewN' (Below.refl V8.heap.size V8) n9
  have hN := And.intro (hH.1.below hb) (hH.2.trans (hb.mono hH.2.size))
  obtain ⟨V9, hV⟩ : ∃ W, V8.drewN n9 = W := ⟨_, rfl⟩
  rw [hV] at hN ⊢
  clear hV hH L2 LT hb
  go_wp2_with fail
  refine hK.out _ _ (hN) (fun hH => ?_)
  clear hK K'
  try simp only [Act.put, List.getElem_toArray, List.getElem_cons_succ, List.getElem_cons_zero, List.getElem?_toArray, List.getElem?_cons_succ, List.getElem?_cons_zero, List.setIfInBounds_toArray, List.set_cons_zero, List.set_cons_succ]
  clear hN
  refine wpAnyH_take (i := 10) (v := .bool true) rfl (by kernel_rfl) (by kernel_rfl) (by kernel_rfl) (fun _ _ _ h => h) (Or.inl ⟨by kernel_rfl, fun W hW => ?_⟩) hH ?_
  · go_simp
  try simp only [Act.put, List.getElem_toArray, List.getElem_cons_succ, List.getElem_cons_zero, List.getElem?_toArray, List.getElem?_cons_succ, List.getElem?_cons_zero, List.setIfInBounds_toArray, List.set_cons_zero, List.set_cons_succ]
  refine wpAnyH_take (i := 11) (v := .bool true) rfl (by kernel_rfl) (by kernel_rfl) (by kernel_rfl) (fun _ _ _ h => h) (Or.inl ⟨by kernel_rfl, fun W hW => ?_⟩) hH ?_
  · go_simp
  try simp only [Act.put, List.getElem_toArray, List.getElem_cons_succ, List.getElem_cons_zero, List.getElem?_toArray, List.getElem?_cons_succ, List.getElem?_cons_zero, List.setIfInBounds_toArray, List.set_cons_zero, List.set_cons_succ]
  refine wpAnyH_ready (rs := [12]) (by kernel_rfl) (by simp) (AllReadyH.cons rfl (fun K' hK => ?_) AllReadyH.nil)
  refine if_pos_mpr (by kernel_rfl) ?_
  go_simp
  refine (HK.out _).mono ?_
  rintro e V12 ⟨rfl, hb⟩
  have hN := And.intro (hH.1.below hb) (hH.2.trans (hb.mono hH.2.size))
  clear hb hH
  go_wp2_with fail
  refine hK.out _ _ (hN) (fun hH => ?_)
  clear hK K'
  try simp only [Act.put, List.getElem_toArray, List.getElem_cons_succ, List.getElem_cons_zero, List.getElem?_toArray, List.getElem?_cons_succ, List.getElem?_cons_zero, List.setIfInBounds_toArray, List.set_cons_zero, List.set_cons_succ]
  clear hN
  refine wpAnyH_take (i := 13) (v := .bool true) rfl (by kernel_rfl) (by kernel_rfl) (by kernel_rfl) (fun _ _ _ h => h) (Or.inl ⟨by kernel_rfl, fun W hW => ?_⟩) hH ?_
  · go_simp
  try simp only [Act.put, List.getElem_toArray, List.getElem_cons_succ, List.getElem_cons_zero, List.getElem?_toArray, List.getElem?_cons_succ, List.getElem?_cons_zero, List.setIfInBounds_toArray, List.set_cons_zero, List.set_cons_succ]
  have XF : Hid _ := hH
  refine wpAnyH_ready (rs := [14]) (by kernel_rfl) (by simp) (AllReadyH.cons rfl (fun K' hK => ?_) AllReadyH.nil)
  refine if_pos_mpr (by kernel_rfl) ?_
  go_simp
  refine hK.out _ _ hH (fun hH => ?_)
  clear hK K'
  try simp only [Act.put, List.getElem_toArray, List.getElem_cons_succ, List.getElem_cons_zero, List.getElem?_toArray, List.getElem?_cons_succ, List.getElem?_cons_zero, List.setIfInBounds_toArray, List.set_cons_zero, List.set_cons_succ]
  refine wpAnyH_done (by kernel_rfl) ?_ _
  go_wp2
  go_ret
  exact ⟨rfl, XF.out.1.old⟩
end Go.Proofs.Ytlffamcifahbjaa
