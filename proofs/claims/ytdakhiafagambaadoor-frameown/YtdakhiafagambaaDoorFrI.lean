import Derived.Test.YtdakhiafagambaaDoorFrH
/- stage 20: Put -/
namespace Go.Proofs.YtdakhiafagambaaDoor
set_option linter.unusedSimpArgs false
set_option linter.unusedVariables false
open Go.ChangeShapes Go.WideShapes Go.ChangeAt Go.RowKit Go.Pin
/-- both roomy lists -/
structure PU (gA gB : Nat) (W1 : World) (X Z : List Int) (w : World) : Prop where
  lo : Below gA W1 w
  ra : w.heap[gA]? = some (.cells (VI .u8 X) 5)
  rb : w.heap[gB]? = some (.cells (VI .u8 Z) 5)
  ab : gA < gB
section
variable {gA gB : Nat} {W1 : World} {X Z : List Int} {w w' : World}
theorem PU.lt (h : PU gA gB W1 X Z w) : gB < w.heap.size := (Array.getElem?_eq_some_iff.1 h.rb).1
theorem PU.below (h : PU gA gB W1 X Z w) (hb : Below w.heap.size w w') : PU gA gB W1 X Z w' :=
  ⟨h.lo.trans (hb.mono (by have := h.lt; have := h.ab; omega)), (hb.block gA (by have := h.lt; have := h.ab; omega)).trans h.ra, (hb.block gB h.lt).trans h.rb, h.ab⟩
theorem PU.rdA (h : PU gA gB W1 X Z w) {n cap : Nat} (hn : n ≤ X.length) (hc : n ≤ cap) (hm : n ≤ 1000000) : RdB w (.slice (some ⟨gA, 0, none⟩) n cap) (X.take n) := by
  have := row_rd (M := X) (o := 0) (n := n) (cap := cap) h.ra (by omega) hc (by omega)
  simpa using this
theorem PU.fullA (h : PU gA gB W1 X Z w) {n : Nat} (hn : X.length = n) (hm : n ≤ 1000000) : RdB w (.slice (some ⟨gA, 0, none⟩) n n) X := by
  have := row_rd (M := X) (o := 0) (n := n) (cap := n) h.ra (by omega) (Nat.le_refl _) (by omega)
  rw [List.drop_zero, List.take_of_length_le (by omega)] at this
  exact this
theorem PU.fullB (h : PU gA gB W1 X Z w) {n : Nat} (hn : Z.length = n) (hm : n ≤ 1000000) : RdB w (.slice (some ⟨gB, 0, none⟩) n n) Z := by
  have := row_rd (M := Z) (o := 0) (n := n) (cap := n) h.rb (by omega) (Nat.le_refl _) (by omega)
  rw [List.drop_zero, List.take_of_length_le (by omega)] at this
  exact this
theorem PU.cA (h : PU gA gB W1 X Z w) (i : Nat) (hi : i < X.length) : w.cell? ⟨gA, i, none⟩ = some (.int .u8 (X.getD i 0)) ∧ w.frozen? ⟨gA, i, none⟩ = false := ⟨by rw [cell_of_row _ _ _ _ _ _ h.ra, VI_at _ _ _ hi], frozen_of_row _ _ _ _ _ h.ra⟩
theorem PU.cB (h : PU gA gB W1 X Z w) (i : Nat) (hi : i < Z.length) : w.cell? ⟨gB, i, none⟩ = some (.int .u8 (Z.getD i 0)) ∧ w.frozen? ⟨gB, i, none⟩ = false := ⟨by rw [cell_of_row _ _ _ _ _ _ h.rb, VI_at _ _ _ hi], frozen_of_row _ _ _ _ _ h.rb⟩
theorem PU.setA (h : PU gA gB W1 X Z w) (i : Nat) (v : Int) : PU gA gB W1 (X.set i v) Z (w.setCell ⟨gA, i, none⟩ (.int .u8 v)) := by
  refine ⟨h.lo.setCell (p := ⟨gA, i, none⟩) (Nat.le_refl _) _, ?_, (heap_setCell_other _ _ _ _ (by have := h.ab; show gB ≠ gA; omega)).trans h.rb, h.ab⟩
  rw [heap_setCell_same w _ _ _ _ _ h.ra]
  simp [VI, List.map_set]
theorem PU.setB (h : PU gA gB W1 X Z w) (i : Nat) (v : Int) : PU gA gB W1 X (Z.set i v) (w.setCell ⟨gB, i, none⟩ (.int .u8 v)) := by
  refine ⟨h.lo.setCell (p := ⟨gB, i, none⟩) (by have := h.ab; show gA ≤ gB; omega) _, (heap_setCell_other _ _ _ _ (by have := h.ab; show gA ≠ gB; omega)).trans h.ra, ?_, h.ab⟩
  rw [heap_setCell_same w _ _ _ _ _ h.rb]
  simp [VI, List.map_set]
theorem PU.rdB (h : PU gA gB W1 X Z w) {n cap : Nat} (hn : n ≤ Z.length) (hc : n ≤ cap) (hm : n ≤ 1000000) : RdB w (.slice (some ⟨gB, 0, none⟩) n cap) (Z.take n) := by
  have := row_rd (M := Z) (o := 0) (n := n) (cap := cap) h.rb (by omega) hc (by omega)
  simpa using this
end
theorem run_preF (w : World) (g n len cap : Nat) (x : Int) (hx : x = (n : Int)) (hn : n ≤ cap) (h0 : 0 < cap) : (Instr.slice 22 (.slice (some ⟨g, 0, none⟩) len cap) none (some (.int .i64 x)) none).run Tryd.prog w = .ok (.slice (some ⟨g, 0, none⟩) n cap) w := by
  subst hx
  have e1 : ¬ cap = 0 := by omega
  have e2 : (⟨g, 0, none⟩ : Addr).add 0 = ⟨g, 0, none⟩ := add_mid g 0 0
  have h2 : ((n : Nat) : Int) ≤ (cap : Int) := by omega
  simp [Instr.slice, run_underlying Tryd.underlying22, Instr.sliceBounds, run_sliceBound, size_u8, sliced, e1, e2, h2, hn]
theorem RdB.set0 {w : World} {v : Value} {C : List Int} (h : RdB w v C) (g i : Nat) (x : Value) (hn : ∀ k, v.ownBlock = some k → k ≠ g) : RdB (w.setCell ⟨g, i, none⟩ x) v C := by
  obtain ⟨a, c, e, h1, h2, h3⟩ := h
  refine ⟨a, c, e, h1, h2, ?_⟩
  rcases h3 with h3 | ⟨b, o, h3, h4⟩
  · exact .inl h3
  · refine .inr ⟨b, o, h3, fun j u hu => ?_⟩
    rw [World.cell?_of_block (a := ⟨b, o + j, none⟩) (heap_setCell_other w _ _ _ (hn b (by rw [e, h3]; rfl)))]
    exact h4 j u hu
/-- what code answers of an error -/
def CdC (ea : Int → Addr) (ev : Value) (c : Int) : Prop := ∀ Y, Errs ea Y → Calls Tryd.prog 12 #[ev] Y fun e w' => e = .returned (.int .i64 c) ∧ w' = Y
/-- what Put answers is read -/
theorem put_read {ea : Int → Addr} {X Z : List Int} {nD nM : Nat} {Y w' : World} {e : Ending} (h : ∃ v c, e = .returned (.tuple #[v, EV ea c]) ∧ ((65535 < nM → c = 3 ∧ v = .slice none 0 0) ∧ (¬ 65535 < nM → c = 0 ∧ w'.ownsRow Y.heap.size 5 1 v (nD + 2 + nM) ((X ++ frm Z).map (Value.int .u8)))) ∧ Below Y.heap.size Y w') (hs : nD + 2 + nM ≤ 1000000) (hX : X.length = nD) (hZ : Z.length = nM) :
    ∃ v, e = .returned v ∧ ∃ a1 n1 k1 ev c, v = .tuple #[.slice a1 n1 k1, ev] ∧ RdB w' (.slice a1 n1 k1) (if 65535 < nM then [] else X ++ frm Z) ∧ ((c = if 65535 < nM then 3 else 0) ∧ CdC ea ev c ∧ ∀ k, (Value.slice a1 n1 k1).ownBlock = some k → Y.heap.size ≤ k) ∧ Below Y.heap.size Y w' := by
  obtain ⟨v, c, rfl, ⟨h1, h2⟩, hb⟩ := h
  by_cases hl : 65535 < nM
  · obtain ⟨rfl, rfl⟩ := h1 hl
    exact ⟨_, rfl, _, _, _, _, _, rfl, by rw [if_pos hl]; exact ⟨none, 0, rfl, ⟨Nat.le_refl _, fun _ => rfl⟩, by decide, .inl rfl⟩, ⟨by rw [if_pos hl], (fun Y hY => code_any 3 (.inr rfl) Y hY), fun k hk => nomatch hk⟩, hb⟩
  · obtain ⟨rfl, ho⟩ := h2 hl
    have hlen : (X ++ frm Z).length = nD + 2 + nM := by rw [List.length_append, frm_len]; omega
    rw [← hlen] at ho
    obtain ⟨a1, k1, rfl⟩ := own_slice' ho
    exact ⟨_, rfl, _, _, _, _, _, rfl, by rw [if_neg hl]; exact own_byt ho (by omega), ⟨by rw [if_neg hl], (fun Y hY => code_any 0 (.inl rfl) Y hY), fun k hk => (ho.lt k hk).1⟩, hb⟩
theorem rput_read {X Z : List Int} {nD nM : Nat} {Y w' : World} {e : Ending} (h : ∃ v c, e = .returned (.tuple #[v, .int .i64 c]) ∧ ((65535 < nM → c = 3 ∧ v = .slice none 0 0) ∧ (¬ 65535 < nM → c = 0 ∧ w'.ownsRow Y.heap.size 5 1 v (nD + 2 + nM) ((X ++ frm Z).map (Value.int .u8)))) ∧ Below Y.heap.size Y w') (hs : nD + 2 + nM ≤ 1000000) (hX : X.length = nD) (hZ : Z.length = nM) :
    ∃ v, e = .returned v ∧ ∃ a1 n1 k1 c, v = .tuple #[.slice a1 n1 k1, .int .i64 c] ∧ RdB w' (.slice a1 n1 k1) (if 65535 < nM then [] else X ++ frm Z) ∧ ((c = if 65535 < nM then 3 else 0) ∧ ∀ k, (Value.slice a1 n1 k1).ownBlock = some k → Y.heap.size ≤ k) ∧ Below Y.heap.size Y w' := by
  obtain ⟨v, c, rfl, ⟨h1, h2⟩, hb⟩ := h
  by_cases hl : 65535 < nM
  · obtain ⟨rfl, rfl⟩ := h1 hl
    exact ⟨_, rfl, _, _, _, _, rfl, by rw [if_pos hl]; exact ⟨none, 0, rfl, ⟨Nat.le_refl _, fun _ => rfl⟩, by decide, .inl rfl⟩, ⟨by rw [if_pos hl], fun k hk => nomatch hk⟩, hb⟩
  · obtain ⟨rfl, ho⟩ := h2 hl
    have hlen : (X ++ frm Z).length = nD + 2 + nM := by rw [List.length_append, frm_len]; omega
    rw [← hlen] at ho
    obtain ⟨a1, k1, rfl⟩ := own_slice' ho
    exact ⟨_, rfl, _, _, _, _, rfl, by rw [if_neg hl]; exact own_byt ho (by omega), ⟨by rw [if_neg hl], fun k hk => (ho.lt k hk).1⟩, hb⟩
set_option maxRecDepth 100000 in
set_option maxHeartbeats 16000000 in
theorem puts_walk {ea : Int → Addr} {rep : Nat → List Int → List Nat → World → Prop} (hP : PutC) (hR : RdrC rep) (vd vm : Value) (D M : List Int) (far : Int) (W : World) (hE : Errs ea W) (hd : RdY W vd D) (hm : RdY W vm M) :
    Calls Tryd.prog 3 #[vd, vm, .int .i64 far] W fun e w' => e = .returned (.bool true) ∧ Below W.heap.size W w' := by
  have hdB := fun Y (hY : Below W.heap.size W Y) => hd.1.below hY
  have hmB := fun Y (hY : Below W.heap.size W Y) => hm.1.below hY
  obtain ⟨ad, cd, rfl, -, hbd, -⟩ := id hd.1
  obtain ⟨am, cm, rfl, -, hbm, -⟩ := id hm.1
  obtain ⟨q, hq⟩ : ∃ q, W.heap.size = q := ⟨_, rfl⟩
  obtain ⟨nD, hnD⟩ : ∃ n, D.length = n := ⟨_, rfl⟩
  obtain ⟨nM, hnM⟩ : ∃ n, M.length = n := ⟨_, rfl⟩
  simp only [hq, hnD, hnM] at hdB hmB hbd hbm ⊢
  have HE : Hid (∀ y, Below q W y → Errs ea y ∧ q ≤ y.heap.size) := fun y hy => ⟨hE.below (by rw [hq]; exact hy), by have := hy.size; omega⟩
  have HDr : Hid (∀ Y, Below q W Y → RdB Y (.slice ad nD cd) D) := hdB
  have HYD : Hid (Byb D) := hd.2
  have HP : Hid PutC := hP
  have HR : Hid (RdrC rep) := hR
  by_cases hfar : 65530 ≤ far ∧ far ≤ 65540
  · obtain ⟨f1, f2⟩ := hfar
    have f3 : far ≥ 65530 := f1
    have hmk := mk_b far.toNat far (by omega) (by omega) W
    have hbz := big_rd W far.toNat (by omega)
    obtain ⟨N, hN⟩ : ∃ N, far.toNat = N := ⟨_, rfl⟩
    rw [hN] at hmk hbz
    obtain ⟨W1, hW1⟩ : ∃ W1, W.alloc (.cells (VI .u8 (List.replicate N 0)) 5) = W1 := ⟨_, rfl⟩
    have hb1 : Below W.heap.size W W1 := by rw [← hW1]; exact (Below.refl _ _).alloc (Nat.le_refl _) _
    rw [hW1] at hmk hbz
    rw [hq] at hmk hbz hb1
    have HB1 : Hid (Below q W W1) := hb1
    have HFr : Hid (65530 ≤ N ∧ N ≤ 65540) := ⟨by omega, by omega⟩
    clear hmB hbm hnM hW1 hb1 hE hP hR hq
    obtain ⟨M2, hM0⟩ : ∃ M : List Int, M = List.replicate N 0 := ⟨_, rfl⟩
    rw [← hM0] at hbz
    have HMr : Hid (∀ Y, Below W1.heap.size W1 Y → RdB Y (.slice (some ⟨q, 0, none⟩) N N) M2) := fun Y hY => hbz.below hY
    have HYM : Hid (Byb M2) := fun x hx => by rw [hM0] at hx; rw [(List.mem_replicate.1 hx).2]; decide
    have HL : Hid (D.length = nD ∧ M2.length = N ∧ nD ≤ 140737488355328 ∧ N ≤ 140737488355328) := ⟨hnD, by rw [hM0, List.length_replicate], hbd, by have := HFr.out; omega⟩
    clear hnD hbd hbz hM0 hN hdB hd hm
    go_enter Tryd.func3, Tryd.ntmps3
    go_upto_region 3 with (fail)
    clear hmk f1 f2 f3
    by_cases hD : 262144 < nD
    · have b1 : (nD : Int) > 262144 := by omega
      have b2 : (262144 : Int) < (nD : Int) := by omega
      go_wp2
      go_ret
      exact ⟨rfl, HB1.out⟩
    have b1 : ¬ (nD : Int) > 262144 := by omega
    have b2 : ¬ (262144 : Int) < (nD : Int) := by omega
    by_cases hM : 262144 < N
    · have b3 : (N : Int) > 262144 := by omega
      have b4 : (262144 : Int) < (N : Int) := by omega
      go_wp2
      go_ret
      exact ⟨rfl, HB1.out⟩
    have b3 : ¬ (N : Int) > 262144 := by omega
    have b4 : ¬ (262144 : Int) < (N : Int) := by omega
    have HS : Hid (nD ≤ 262144 ∧ N ≤ 262144) := ⟨by omega, by omega⟩
    clear hD hM
    have C1 := roomy_any W1 D ad nD cd (HDr.out W1 HB1.out) (by have := HS.out; omega)
    obtain ⟨gA, hgA⟩ : ∃ g, W1.heap.size = g := ⟨_, rfl⟩
    rw [hgA] at C1
    have HGA : Hid (W1.heap.size = gA ∧ q ≤ gA) := ⟨hgA, by have := (HE.out _ HB1.out).2; omega⟩
    clear hgA
    go_upto_region 6 with (go_at_call 9; refine C1.mono ?_; rintro e w2 ⟨rfl, hbb⟩; have H2 : Hid (BB gA W1 gA (room D) w2) := hbb; clear hbb C1)
    have C2 := roomy_any w2 M2 (some ⟨q, 0, none⟩) N N (HMr.out w2 (by rw [HGA.out.1]; exact H2.out.old)) (by have := HS.out; omega)
    obtain ⟨gB, hgB⟩ : ∃ g, w2.heap.size = g := ⟨_, rfl⟩
    rw [hgB] at C2
    have HGB : Hid (w2.heap.size = gB ∧ gA < gB) := ⟨hgB, by have := H2.out.lt; omega⟩
    clear hgB
    go_upto_region 7 with (go_at_call 9; refine C2.mono ?_; rintro e w3 ⟨rfl, hbb⟩; have H3 : Hid (PU gA gB W1 (room D) (room M2) w3) := ⟨H2.out.old.trans (hbb.old.mono (by have := HGB.out; omega)), (hbb.old.block gA (by have := HGB.out; omega)).trans H2.out.row, hbb.row, HGB.out.2⟩; clear hbb C2)
    have rA := fun w => run_preF w gA nD (nD + 70) (nD + 70) (nD : Int) rfl (by omega) (by omega)
    have rB := fun w => run_preF w gB N (N + 70) (N + 70) (N : Int) rfl (by omega) (by omega)
    have HF : Hid (∀ Y, Below gA W1 Y → Errs ea Y ∧ Below q W Y) := fun Y hY => by
      have hb : Below q W Y := HB1.out.trans (hY.mono HGA.out.2)
      exact ⟨(HE.out _ hb).1, hb⟩
    have CP : Hid (∀ X Z Y, PU gA gB W1 X Z Y → X.length = nD + 70 → Z.length = N + 70 → Calls Tryd.prog 10 #[.slice (some ⟨gA, 0, none⟩) nD (nD + 70), .slice (some ⟨gB, 0, none⟩) N (N + 70)] Y fun e w' => ∃ v c, e = .returned (.tuple #[v, EV ea c]) ∧ ((65535 < N → c = 3 ∧ v = .slice none 0 0) ∧ (¬ 65535 < N → c = 0 ∧ w'.ownsRow Y.heap.size 5 1 v (nD + 2 + N) ((X.take nD ++ frm (Z.take N)).map (Value.int .u8)))) ∧ Below Y.heap.size Y w') := fun X Z Y hY hX hZ => by
      have h1 : (X.take nD).length = nD := by rw [List.length_take]; omega
      have h2 : (Z.take N).length = N := by rw [List.length_take]; omega
      have := HP.out ea Y _ _ _ _ (HF.out Y hY.lo).1 (hY.rdA (n := nD) (cap := nD + 70) (by omega) (by omega) (by have := HS.out; omega)) (hY.rdB (n := N) (cap := N + 70) (by omega) (by omega) (by have := HS.out; omega)) (by rw [h1]; have := HS.out; omega) (by rw [h2]; have := HS.out; omega)
      rw [h1, h2] at this
      exact this
    have hC1 := CP.out (room D) (room M2) _ (H3.out.below (Below.refl w3.heap.size w3).drew) (by rw [room_len, HL.out.1]) (by rw [room_len, HL.out.2.1])
    obtain ⟨wd, hwd⟩ : ∃ wd, w3.drew = wd := ⟨_, rfl⟩
    rw [hwd] at hC1
    have H3d : Hid (PU gA gB W1 (room D) (room M2) wd) := by rw [← hwd]; exact H3.out.below (Below.refl _ _).drew
    refine Go.Pin.wp_region_hcls (fun _ => True) 14 (by rfl) (by kernel_rfl) trivial ?_
    intro Sq fq hNq hRq hSq
    rw [hwd]
    clear hwd
    refine Go.Pin.takeQ 0 (by simp only [List.getElem?_toArray, List.getElem?_cons_zero, List.getElem?_cons_succ]; exact rfl) (by kernel_rfl) (by kernel_rfl) (by kernel_rfl) (by rfl) (fun _ _ d _ _ h => by cases d <;> exact h) (trivial) (hSq).out (by kernel_rfl) ?_
    intro Kq hKq
    go_big_quiet_op
    go_big_quiet_on
    refine Go.Pin.takeQ 1 (by simp only [List.getElem?_toArray, List.getElem?_cons_zero, List.getElem?_cons_succ]; exact rfl) (by kernel_rfl) (by kernel_rfl) (by kernel_rfl) (by rfl) (fun _ _ d _ _ h => by cases d <;> exact h) (trivial) (hSq).out (by kernel_rfl) ?_
    intro Kq hKq
    go_big_quiet_op
    go_big_quiet_on
    refine Go.Pin.takeQ 2 (by simp only [List.getElem?_toArray, List.getElem?_cons_zero, List.getElem?_cons_succ]; exact rfl) (by kernel_rfl) (by kernel_rfl) (by kernel_rfl) (by rfl) (fun _ _ d _ _ h => by cases d <;> exact h) (trivial) (hSq).out (by kernel_rfl) ?_
    intro Kq hKq
    go_big_quiet_op
    go_big_quiet_on
    refine takeV 3 (.slice (some ⟨gA, 0, none⟩) nD (nD + 70)) (by simp only [List.getElem?_toArray, List.getElem?_cons_zero, List.getElem?_cons_succ]; exact rfl) (by kernel_rfl) (by kernel_rfl) (by kernel_rfl) (fun _ _ d _ _ h => by cases d <;> exact h) (trivial) (by kernel_rfl) (fun Yq hYq => by unfold execOp; go_simp) ?_
    simp only [Act.put, List.setIfInBounds_toArray, List.set_cons_zero, List.set_cons_succ]
    refine Go.Pin.takeQ 4 (by simp only [List.getElem?_toArray, List.getElem?_cons_zero, List.getElem?_cons_succ]; exact rfl) (by kernel_rfl) (by kernel_rfl) (by kernel_rfl) (by rfl) (fun _ _ d _ _ h => by cases d <;> exact h) (trivial) (hSq).out (by kernel_rfl) ?_
    intro Kq hKq
    go_big_quiet_op
    go_big_quiet_on
    refine Go.Pin.takeQ 5 (by simp only [List.getElem?_toArray, List.getElem?_cons_zero, List.getElem?_cons_succ]; exact rfl) (by kernel_rfl) (by kernel_rfl) (by kernel_rfl) (by rfl) (fun _ _ d _ _ h => by cases d <;> exact h) (trivial) (hSq).out (by kernel_rfl) ?_
    intro Kq hKq
    go_big_quiet_op
    go_big_quiet_on
    refine Go.Pin.takeQ 6 (by simp only [List.getElem?_toArray, List.getElem?_cons_zero, List.getElem?_cons_succ]; exact rfl) (by kernel_rfl) (by kernel_rfl) (by kernel_rfl) (by rfl) (fun _ _ d _ _ h => by cases d <;> exact h) (trivial) (hSq).out (by kernel_rfl) ?_
    intro Kq hKq
    go_big_quiet_op
    go_big_quiet_on
    refine takeV 7 (.slice (some ⟨gB, 0, none⟩) N (N + 70)) (by simp only [List.getElem?_toArray, List.getElem?_cons_zero, List.getElem?_cons_succ]; exact rfl) (by kernel_rfl) (by kernel_rfl) (by kernel_rfl) (fun _ _ d _ _ h => by cases d <;> exact h) (trivial) (by kernel_rfl) (fun Yq hYq => by unfold execOp; go_simp) ?_
    simp only [Act.put, List.setIfInBounds_toArray, List.set_cons_zero, List.set_cons_succ]
    refine Go.Pin.readyQ 8 (by simp only [List.getElem?_toArray, List.getElem?_cons_zero, List.getElem?_cons_succ]; exact rfl) (by kernel_rfl) (by kernel_rfl) ?_
    intro K hK
    refine wpCallV (d := some 44) (f := 10) rfl rfl (args := #[.slice (some ⟨gA, 0, none⟩) nD (nD + 70), .slice (some ⟨gB, 0, none⟩) N (N + 70)]) (by simp only [List.map_toArray, List.map_cons, List.map_nil]; rfl) (fun _ => rfl) (R := fun x w4 => ∃ a1 n1 k1 ev c, x = .tuple #[.slice a1 n1 k1, ev] ∧ RdB w4 (.slice a1 n1 k1) (if 65535 < N then [] else (room D).take nD ++ frm ((room M2).take N)) ∧ ((c = if 65535 < N then 3 else 0) ∧ CdC ea ev c ∧ ∀ k, (Value.slice a1 n1 k1).ownBlock = some k → wd.heap.size ≤ k) ∧ Below wd.heap.size wd w4) (hC1.mono (fun e w4 h => put_read h (by have := HS.out; omega) (by rw [List.length_take, room_len, HL.out.1]; omega) (by rw [List.length_take, room_len, HL.out.2.1]; omega))) ?_
    rintro x w4 ⟨a1, n1, k1, ev, c1, rfl, hr4, ⟨hc1, hcd, hk1⟩, hb4⟩
    refine hK _ _ trivial ?_
    simp only [Act.put, List.setIfInBounds_toArray, List.set_cons_zero, List.set_cons_succ]
    clear hK K
    refine Go.Pin.takeQ 9 (by simp only [List.getElem?_toArray, List.getElem?_cons_zero, List.getElem?_cons_succ]; exact rfl) (by kernel_rfl) (by kernel_rfl) (by kernel_rfl) (by rfl) (fun _ _ d _ _ h => by cases d <;> exact h) (trivial) (hSq).out (by kernel_rfl) ?_
    intro Kq hKq
    go_big_quiet_op
    go_big_quiet_on
    refine Go.Pin.takeQ 10 (by simp only [List.getElem?_toArray, List.getElem?_cons_zero, List.getElem?_cons_succ]; exact rfl) (by kernel_rfl) (by kernel_rfl) (by kernel_rfl) (by rfl) (fun _ _ d _ _ h => by cases d <;> exact h) (trivial) (hSq).out (by kernel_rfl) ?_
    intro Kq hKq
    go_big_quiet_op
    go_big_quiet_on
    refine Go.Pin.takeQ 11 (by simp only [List.getElem?_toArray, List.getElem?_cons_zero, List.getElem?_cons_succ]; exact rfl) (by kernel_rfl) (by kernel_rfl) (by kernel_rfl) (by rfl) (fun _ _ d _ _ h => by cases d <;> exact h) (trivial) (hSq).out (by kernel_rfl) ?_
    intro Kq hKq
    go_big_quiet_op
    go_big_quiet_on
    refine Go.Pin.takeQ 12 (by simp only [List.getElem?_toArray, List.getElem?_cons_zero, List.getElem?_cons_succ]; exact rfl) (by kernel_rfl) (by kernel_rfl) (by kernel_rfl) (by rfl) (fun _ _ d _ _ h => by cases d <;> exact h) (trivial) (hSq).out (by kernel_rfl) ?_
    intro Kq hKq
    go_big_quiet_op
    go_big_quiet_on
    refine Go.Pin.takeQ 13 (by simp only [List.getElem?_toArray, List.getElem?_cons_zero, List.getElem?_cons_succ]; exact rfl) (by kernel_rfl) (by kernel_rfl) (by kernel_rfl) (by rfl) (fun _ _ d _ _ h => by cases d <;> exact h) (trivial) (hSq).out (by kernel_rfl) ?_
    intro Kq hKq
    go_big_quiet_op
    go_big_quiet_on
    refine wpAnyH_done (by kernel_rfl) ?_ _
    have hrt : (room D).take nD = D := by rw [← HL.out.1]; exact room_take D
    have hrm : (room M2).take N = M2 := by rw [← HL.out.2.1]; exact room_take M2
    rw [hrt, hrm] at hr4
    obtain ⟨P, hPe⟩ : ∃ P, (if 65535 < N then [] else D ++ frm M2) = P := ⟨_, rfl⟩
    rw [hPe] at hr4
    have H4 : Hid (PU gA gB W1 (room D) (room M2) w4 ∧ RdB w4 (.slice a1 n1 k1) P ∧ CdC ea ev c1) := ⟨H3d.out.below hb4, hr4, hcd⟩
    have HK1 : Hid (∀ k, (Value.slice a1 n1 k1).ownBlock = some k → gB < k) := fun k hk => by have := hk1 k hk; have := H3d.out.lt; omega
    have HC1 : Hid (c1 = if 65535 < N then 3 else 0) := hc1
    have HPE : Hid ((if 65535 < N then [] else D ++ frm M2) = P) := hPe
    clear hr4 hb4 hc1 hcd hk1 hPe hrt hrm hSq hRq hNq hC1
    have CR := rput_any (HDr.out w4 (HF.out _ H4.out.1.lo).2) (HMr.out w4 (by rw [HGA.out.1]; exact H4.out.1.lo)) (by rw [HL.out.1]; have := HS.out; omega) (by rw [HL.out.2.1]; have := HS.out; omega)
    rw [HL.out.1, HL.out.2.1] at CR
    go_upto_region 9 with (go_at_call 11; refine CR.mono ?_; intro e w5 h; (obtain ⟨v, he, a2, n2, k2, c2, rfl, hr5, ⟨hc2, hk2⟩, hb5⟩ := rput_read h (by have := HS.out; omega) HL.out.1 HL.out.2.1); subst he; rw [HPE.out] at hr5; (obtain rfl : c2 = c1 := by rw [hc2, HC1.out]); have H5 : Hid (PU gA gB W1 (room D) (room M2) w5 ∧ RdB w5 (.slice a1 n1 k1) P ∧ RdB w5 (.slice a2 n2 k2) P) := ⟨H4.out.1.below hb5, H4.out.2.1.below hb5, hr5⟩; have HK2 : Hid (∀ k, (Value.slice a2 n2 k2).ownBlock = some k → gB < k) := (fun k hk => by have := hk2 k hk; have := H4.out.1.lt; omega); clear h hr5 hc2 hk2 hb5 CR)
    have CC := H4.out.2.2 w5 (HF.out _ H5.out.1.lo).1
    have CS := same_true H5.out.2.1 H5.out.2.2
    have HST : Hid (∀ Y, PU gA gB W1 (room D) (room M2) Y → Calls Tryd.prog 14 #[.slice (some ⟨gA, 0, none⟩) (nD + 70) (nD + 70), .slice ad nD cd] Y (fun e w' => e = .returned (.bool true) ∧ Below Y.heap.size Y w') ∧ Calls Tryd.prog 14 #[.slice (some ⟨gB, 0, none⟩) (N + 70) (N + 70), .slice (some ⟨q, 0, none⟩) N N] Y (fun e w' => e = .returned (.bool true) ∧ Below Y.heap.size Y w')) := fun Y hY =>
      ⟨stands_any Y D _ _ nD _ _ _ (hY.fullA (by rw [room_len, HL.out.1]) (by have := HS.out; omega)) (HDr.out Y (HF.out _ hY.lo).2) (by have := HS.out; omega), stands_any Y M2 _ _ N _ _ _ (hY.fullB (by rw [room_len, HL.out.2.1]) (by have := HS.out; omega)) (HMr.out Y (by rw [HGA.out.1]; exact hY.lo)) (by have := HS.out; omega)⟩
    go_upto_region 11 with (first
      | (go_at_call 12; refine CC.mono ?_; rintro e w ⟨rfl, rfl⟩; clear CC)
      | (go_at_call 13; refine CS.mono ?_; rintro e w6 ⟨rfl, hb6⟩; have H6 : Hid (PU gA gB W1 (room D) (room M2) w6 ∧ RdB w6 (.slice a1 n1 k1) P ∧ RdB w6 (.slice a2 n2 k2) P) := ⟨H5.out.1.below hb6, H5.out.2.1.below hb6, H5.out.2.2.below hb6⟩; have CT := (HST.out w6 H6.out.1).1; clear hb6 CS)
      | (go_at_call 14; refine CT.mono ?_; rintro e w7 ⟨rfl, hb7⟩; have H7 : Hid (PU gA gB W1 (room D) (room M2) w7 ∧ RdB w7 (.slice a1 n1 k1) P ∧ RdB w7 (.slice a2 n2 k2) P) := ⟨H6.out.1.below hb7, H6.out.2.1.below hb7, H6.out.2.2.below hb7⟩; have CU := (HST.out w7 H7.out.1).2; clear hb7 CT)
      | (go_at_call 14; refine CU.mono ?_; rintro e w8 ⟨rfl, hb8⟩; have H8 : Hid (PU gA gB W1 (room D) (room M2) w8 ∧ RdB w8 (.slice a1 n1 k1) P ∧ RdB w8 (.slice a2 n2 k2) P) := ⟨H7.out.1.below hb8, H7.out.2.1.below hb8, H7.out.2.2.below hb8⟩; clear hb8 CU))
    by_cases hz : nD = 0 ∨ N = 0
    · have CK := known_any HP.out HR.out w8 (HF.out _ H8.out.1.lo).1
      by_cases hz1 : nD = 0
      · have z1 : (nD : Int) = 0 := by omega
        have z2 : ((nD : Int) == 0) = true := by simpa using z1
        go_wp2_with (go_at_call 15; refine CK.mono ?_; rintro e w9 ⟨rfl, hb9⟩; have H9 : Hid (Below q W w9) := sub_le (HF.out _ H8.out.1.lo).2 hb9 (HE.out _ (HF.out _ H8.out.1.lo).2).2; clear hb9 CK)
        go_ret
        exact ⟨rfl, H9.out⟩
      · have z1 : ¬ (nD : Int) = 0 := by omega
        have z2 : ((nD : Int) == 0) = false := by simpa using z1
        have z3 : (N : Int) = 0 := by omega
        have z4 : ((N : Int) == 0) = true := by simpa using z3
        go_wp2_with (go_at_call 15; refine CK.mono ?_; rintro e w9 ⟨rfl, hb9⟩; have H9 : Hid (Below q W w9) := sub_le (HF.out _ H8.out.1.lo).2 hb9 (HE.out _ (HF.out _ H8.out.1.lo).2).2; clear hb9 CK)
        go_ret
        exact ⟨rfl, H9.out⟩
    have z1 : ¬ (nD : Int) = 0 := by omega
    have z2 : ((nD : Int) == 0) = false := by simpa using z1
    have z3 : ¬ (N : Int) = 0 := by omega
    have z4 : ((N : Int) == 0) = false := by simpa using z3
    clear hz
    go_upto_region 13 with (fail)
    have xa := H8.out.1.cA 0 (by rw [room_len]; omega)
    have xb := H8.out.1.cB 0 (by rw [room_len]; omega)
    obtain ⟨za, hza⟩ : ∃ z, (room D).getD 0 0 = z := ⟨_, rfl⟩
    obtain ⟨zb, hzb⟩ : ∃ z, (room M2).getD 0 0 = z := ⟨_, rfl⟩
    rw [hza] at xa
    rw [hzb] at xb
    obtain ⟨xa1, xa2⟩ := xa
    have qa : (0 : Int) < (nD : Int) + 70 := by omega
    go_upto_region 14 with (fail)
    obtain ⟨ya, hya⟩ : ∃ y, bits BinOp.xor IntKind.u8 za 1 = y := ⟨_, rfl⟩
    have h9 := H8.out.1.setA 0 ya
    have r91 := H8.out.2.1.set0 gA 0 (.int .u8 ya) (fun k hk => by have := HK1.out k hk; have := HGB.out; omega)
    have r92 := H8.out.2.2.set0 gA 0 (.int .u8 ya) (fun k hk => by have := HK2.out k hk; have := HGB.out; omega)
    rw [hya]
    obtain ⟨w9, hw9⟩ : ∃ w9, w8.setCell ⟨gA, 0, none⟩ (.int .u8 ya) = w9 := ⟨_, rfl⟩
    rw [hw9] at h9 r91 r92 ⊢
    obtain ⟨X, hX⟩ : ∃ X, (room D).set 0 ya = X := ⟨_, rfl⟩
    rw [hX] at h9
    have hXl : X.length = nD + 70 := by rw [← hX, List.length_set, room_len, HL.out.1]
    have H9 : Hid (PU gA gB W1 X (room M2) w9 ∧ RdB w9 (.slice a1 n1 k1) P ∧ RdB w9 (.slice a2 n2 k2) P) := ⟨h9, r91, r92⟩
    obtain ⟨xb1, xb2⟩ := h9.cB 0 (by rw [room_len]; omega)
    rw [hzb] at xb1
    have qb : (0 : Int) < (N : Int) + 70 := by omega
    clear h9 r91 r92 hw9 hX hya xa1 xa2 hza xb
    go_upto_region 15 with (fail)
    obtain ⟨yb, hyb⟩ : ∃ y, bits BinOp.xor IntKind.u8 zb 1 = y := ⟨_, rfl⟩
    have h10 := H9.out.1.setB 0 yb
    have r101 := H9.out.2.1.set0 gB 0 (.int .u8 yb) (fun k hk => by have := HK1.out k hk; omega)
    have r102 := H9.out.2.2.set0 gB 0 (.int .u8 yb) (fun k hk => by have := HK2.out k hk; omega)
    rw [hyb]
    obtain ⟨w10, hw10⟩ : ∃ w10, w9.setCell ⟨gB, 0, none⟩ (.int .u8 yb) = w10 := ⟨_, rfl⟩
    rw [hw10] at h10 r101 r102 ⊢
    obtain ⟨Z, hZ⟩ : ∃ Z, (room M2).set 0 yb = Z := ⟨_, rfl⟩
    rw [hZ] at h10
    have hZl : Z.length = N + 70 := by rw [← hZ, List.length_set, room_len, HL.out.2.1]
    have H10 : Hid (PU gA gB W1 X Z w10 ∧ RdB w10 (.slice a1 n1 k1) P ∧ RdB w10 (.slice a2 n2 k2) P) := ⟨h10, r101, r102⟩
    have HXZ : Hid (X.length = nD + 70 ∧ Z.length = N + 70) := ⟨hXl, hZl⟩
    clear h10 r101 r102 hw10 hZ hyb xb1 xb2 hzb hXl hZl
    have hC2 := CP.out X Z _ (H10.out.1.below (Below.refl w10.heap.size w10).drew) HXZ.out.1 HXZ.out.2
    obtain ⟨wd2, hwd2⟩ : ∃ wd, w10.drew = wd := ⟨_, rfl⟩
    rw [hwd2] at hC2
    have hbd2 : Below w10.heap.size w10 wd2 := by rw [← hwd2]; exact (Below.refl _ _).drew
    have H10d : Hid (PU gA gB W1 X Z wd2 ∧ RdB wd2 (.slice a1 n1 k1) P ∧ RdB wd2 (.slice a2 n2 k2) P) := ⟨H10.out.1.below hbd2, H10.out.2.1.below hbd2, H10.out.2.2.below hbd2⟩
    refine Go.Pin.wp_region_hcls (fun _ => True) 14 (by rfl) (by kernel_rfl) trivial ?_
    intro Sq fq hNq hRq hSq
    rw [hwd2]
    clear hwd2 hbd2
    refine Go.Pin.takeQ 0 (by simp only [List.getElem?_toArray, List.getElem?_cons_zero, List.getElem?_cons_succ]; exact rfl) (by kernel_rfl) (by kernel_rfl) (by kernel_rfl) (by rfl) (fun _ _ d _ _ h => by cases d <;> exact h) (trivial) (hSq).out (by kernel_rfl) ?_
    intro Kq hKq
    go_big_quiet_op
    go_big_quiet_on
    refine Go.Pin.takeQ 1 (by simp only [List.getElem?_toArray, List.getElem?_cons_zero, List.getElem?_cons_succ]; exact rfl) (by kernel_rfl) (by kernel_rfl) (by kernel_rfl) (by rfl) (fun _ _ d _ _ h => by cases d <;> exact h) (trivial) (hSq).out (by kernel_rfl) ?_
    intro Kq hKq
    go_big_quiet_op
    go_big_quiet_on
    refine Go.Pin.takeQ 2 (by simp only [List.getElem?_toArray, List.getElem?_cons_zero, List.getElem?_cons_succ]; exact rfl) (by kernel_rfl) (by kernel_rfl) (by kernel_rfl) (by rfl) (fun _ _ d _ _ h => by cases d <;> exact h) (trivial) (hSq).out (by kernel_rfl) ?_
    intro Kq hKq
    go_big_quiet_op
    go_big_quiet_on
    refine takeV 3 (.slice (some ⟨gA, 0, none⟩) nD (nD + 70)) (by simp only [List.getElem?_toArray, List.getElem?_cons_zero, List.getElem?_cons_succ]; exact rfl) (by kernel_rfl) (by kernel_rfl) (by kernel_rfl) (fun _ _ d _ _ h => by cases d <;> exact h) (trivial) (by kernel_rfl) (fun Yq hYq => by unfold execOp; go_simp) ?_
    simp only [Act.put, List.setIfInBounds_toArray, List.set_cons_zero, List.set_cons_succ]
    refine Go.Pin.takeQ 4 (by simp only [List.getElem?_toArray, List.getElem?_cons_zero, List.getElem?_cons_succ]; exact rfl) (by kernel_rfl) (by kernel_rfl) (by kernel_rfl) (by rfl) (fun _ _ d _ _ h => by cases d <;> exact h) (trivial) (hSq).out (by kernel_rfl) ?_
    intro Kq hKq
    go_big_quiet_op
    go_big_quiet_on
    refine Go.Pin.takeQ 5 (by simp only [List.getElem?_toArray, List.getElem?_cons_zero, List.getElem?_cons_succ]; exact rfl) (by kernel_rfl) (by kernel_rfl) (by kernel_rfl) (by rfl) (fun _ _ d _ _ h => by cases d <;> exact h) (trivial) (hSq).out (by kernel_rfl) ?_
    intro Kq hKq
    go_big_quiet_op
    go_big_quiet_on
    refine Go.Pin.takeQ 6 (by simp only [List.getElem?_toArray, List.getElem?_cons_zero, List.getElem?_cons_succ]; exact rfl) (by kernel_rfl) (by kernel_rfl) (by kernel_rfl) (by rfl) (fun _ _ d _ _ h => by cases d <;> exact h) (trivial) (hSq).out (by kernel_rfl) ?_
    intro Kq hKq
    go_big_quiet_op
    go_big_quiet_on
    refine takeV 7 (.slice (some ⟨gB, 0, none⟩) N (N + 70)) (by simp only [List.getElem?_toArray, List.getElem?_cons_zero, List.getElem?_cons_succ]; exact rfl) (by kernel_rfl) (by kernel_rfl) (by kernel_rfl) (fun _ _ d _ _ h => by cases d <;> exact h) (trivial) (by kernel_rfl) (fun Yq hYq => by unfold execOp; go_simp) ?_
    simp only [Act.put, List.setIfInBounds_toArray, List.set_cons_zero, List.set_cons_succ]
    refine Go.Pin.readyQ 8 (by simp only [List.getElem?_toArray, List.getElem?_cons_zero, List.getElem?_cons_succ]; exact rfl) (by kernel_rfl) (by kernel_rfl) ?_
    intro K hK
    refine wpCallV (d := some 105) (f := 10) rfl rfl (args := #[.slice (some ⟨gA, 0, none⟩) nD (nD + 70), .slice (some ⟨gB, 0, none⟩) N (N + 70)]) (by simp only [List.map_toArray, List.map_cons, List.map_nil]; rfl) (fun _ => rfl) (R := fun x w4 => ∃ a1 n1 k1 ev c, x = .tuple #[.slice a1 n1 k1, ev] ∧ RdB w4 (.slice a1 n1 k1) (if 65535 < N then [] else X.take nD ++ frm (Z.take N)) ∧ ((c = if 65535 < N then 3 else 0) ∧ CdC ea ev c ∧ ∀ k, (Value.slice a1 n1 k1).ownBlock = some k → wd2.heap.size ≤ k) ∧ Below wd2.heap.size wd2 w4) (hC2.mono (fun e w4 h => put_read h (by have := HS.out; omega) (by rw [List.length_take, HXZ.out.1]; omega) (by rw [List.length_take, HXZ.out.2]; omega))) ?_
    rintro x w11 ⟨a3, n3, k3, ev3, c3, rfl, hr11, ⟨hc3, hcd3, -⟩, hb11⟩
    refine hK _ _ trivial ?_
    simp only [Act.put, List.setIfInBounds_toArray, List.set_cons_zero, List.set_cons_succ]
    clear hK K
    refine Go.Pin.takeQ 9 (by simp only [List.getElem?_toArray, List.getElem?_cons_zero, List.getElem?_cons_succ]; exact rfl) (by kernel_rfl) (by kernel_rfl) (by kernel_rfl) (by rfl) (fun _ _ d _ _ h => by cases d <;> exact h) (trivial) (hSq).out (by kernel_rfl) ?_
    intro Kq hKq
    go_big_quiet_op
    go_big_quiet_on
    refine Go.Pin.takeQ 10 (by simp only [List.getElem?_toArray, List.getElem?_cons_zero, List.getElem?_cons_succ]; exact rfl) (by kernel_rfl) (by kernel_rfl) (by kernel_rfl) (by rfl) (fun _ _ d _ _ h => by cases d <;> exact h) (trivial) (hSq).out (by kernel_rfl) ?_
    intro Kq hKq
    go_big_quiet_op
    go_big_quiet_on
    refine Go.Pin.takeQ 11 (by simp only [List.getElem?_toArray, List.getElem?_cons_zero, List.getElem?_cons_succ]; exact rfl) (by kernel_rfl) (by kernel_rfl) (by kernel_rfl) (by rfl) (fun _ _ d _ _ h => by cases d <;> exact h) (trivial) (hSq).out (by kernel_rfl) ?_
    intro Kq hKq
    go_big_quiet_op
    go_big_quiet_on
    refine Go.Pin.takeQ 12 (by simp only [List.getElem?_toArray, List.getElem?_cons_zero, List.getElem?_cons_succ]; exact rfl) (by kernel_rfl) (by kernel_rfl) (by kernel_rfl) (by rfl) (fun _ _ d _ _ h => by cases d <;> exact h) (trivial) (hSq).out (by kernel_rfl) ?_
    intro Kq hKq
    go_big_quiet_op
    go_big_quiet_on
    refine Go.Pin.takeQ 13 (by simp only [List.getElem?_toArray, List.getElem?_cons_zero, List.getElem?_cons_succ]; exact rfl) (by kernel_rfl) (by kernel_rfl) (by kernel_rfl) (by rfl) (fun _ _ d _ _ h => by cases d <;> exact h) (trivial) (hSq).out (by kernel_rfl) ?_
    intro Kq hKq
    go_big_quiet_op
    go_big_quiet_on
    refine wpAnyH_done (by kernel_rfl) ?_ _
    obtain ⟨P2, hP2⟩ : ∃ P, (if 65535 < N then [] else X.take nD ++ frm (Z.take N)) = P := ⟨_, rfl⟩
    rw [hP2] at hr11
    have H11 : Hid (PU gA gB W1 X Z w11 ∧ RdB w11 (.slice a1 n1 k1) P ∧ RdB w11 (.slice a2 n2 k2) P ∧ RdB w11 (.slice a3 n3 k3) P2 ∧ CdC ea ev3 c3) := ⟨H10d.out.1.below hb11, H10d.out.2.1.below hb11, H10d.out.2.2.below hb11, hr11, hcd3⟩
    have HC3 : Hid (c3 = if 65535 < N then 3 else 0) := hc3
    have HP2 : Hid ((if 65535 < N then [] else X.take nD ++ frm (Z.take N)) = P2) := hP2
    clear hr11 hb11 hc3 hcd3 hP2 hSq hRq hNq hC2
    go_upto_region 16 with (fail)
    obtain ⟨wd3, hwd3⟩ : ∃ wd, w11.drew = wd := ⟨_, rfl⟩
    have hbd3 : Below w11.heap.size w11 wd3 := by rw [← hwd3]; exact (Below.refl _ _).drew
    have H11d : Hid (PU gA gB W1 X Z wd3 ∧ RdB wd3 (.slice a1 n1 k1) P ∧ RdB wd3 (.slice a2 n2 k2) P ∧ RdB wd3 (.slice a3 n3 k3) P2) := ⟨H11.out.1.below hbd3, H11.out.2.1.below hbd3, H11.out.2.2.1.below hbd3, H11.out.2.2.2.1.below hbd3⟩
    have hl1 : (X.take nD).length = nD := by rw [List.length_take, HXZ.out.1]; omega
    have hl2 : (Z.take N).length = N := by rw [List.length_take, HXZ.out.2]; omega
    have hC3 := rput_any (H11d.out.1.rdA (n := nD) (cap := nD + 70) (by rw [HXZ.out.1]; omega) (by omega) (by have := HS.out; omega)) (H11d.out.1.rdB (n := N) (cap := N + 70) (by rw [HXZ.out.2]; omega) (by omega) (by have := HS.out; omega)) (by rw [hl1]; have := HS.out; omega) (by rw [hl2]; have := HS.out; omega)
    rw [hl1, hl2] at hC3
    refine Go.Pin.wp_region_hcls (fun _ => True) 14 (by rfl) (by kernel_rfl) trivial ?_
    intro Sq fq hNq hRq hSq
    rw [hwd3]
    clear hwd3 hbd3
    refine Go.Pin.takeQ 0 (by simp only [List.getElem?_toArray, List.getElem?_cons_zero, List.getElem?_cons_succ]; exact rfl) (by kernel_rfl) (by kernel_rfl) (by kernel_rfl) (by rfl) (fun _ _ d _ _ h => by cases d <;> exact h) (trivial) (hSq).out (by kernel_rfl) ?_
    intro Kq hKq
    go_big_quiet_op
    go_big_quiet_on
    refine Go.Pin.takeQ 1 (by simp only [List.getElem?_toArray, List.getElem?_cons_zero, List.getElem?_cons_succ]; exact rfl) (by kernel_rfl) (by kernel_rfl) (by kernel_rfl) (by rfl) (fun _ _ d _ _ h => by cases d <;> exact h) (trivial) (hSq).out (by kernel_rfl) ?_
    intro Kq hKq
    go_big_quiet_op
    go_big_quiet_on
    refine Go.Pin.takeQ 2 (by simp only [List.getElem?_toArray, List.getElem?_cons_zero, List.getElem?_cons_succ]; exact rfl) (by kernel_rfl) (by kernel_rfl) (by kernel_rfl) (by rfl) (fun _ _ d _ _ h => by cases d <;> exact h) (trivial) (hSq).out (by kernel_rfl) ?_
    intro Kq hKq
    go_big_quiet_op
    go_big_quiet_on
    refine takeV 3 (.slice (some ⟨gA, 0, none⟩) nD (nD + 70)) (by simp only [List.getElem?_toArray, List.getElem?_cons_zero, List.getElem?_cons_succ]; exact rfl) (by kernel_rfl) (by kernel_rfl) (by kernel_rfl) (fun _ _ d _ _ h => by cases d <;> exact h) (trivial) (by kernel_rfl) (fun Yq hYq => by unfold execOp; go_simp) ?_
    simp only [Act.put, List.setIfInBounds_toArray, List.set_cons_zero, List.set_cons_succ]
    refine Go.Pin.takeQ 4 (by simp only [List.getElem?_toArray, List.getElem?_cons_zero, List.getElem?_cons_succ]; exact rfl) (by kernel_rfl) (by kernel_rfl) (by kernel_rfl) (by rfl) (fun _ _ d _ _ h => by cases d <;> exact h) (trivial) (hSq).out (by kernel_rfl) ?_
    intro Kq hKq
    go_big_quiet_op
    go_big_quiet_on
    refine Go.Pin.takeQ 5 (by simp only [List.getElem?_toArray, List.getElem?_cons_zero, List.getElem?_cons_succ]; exact rfl) (by kernel_rfl) (by kernel_rfl) (by kernel_rfl) (by rfl) (fun _ _ d _ _ h => by cases d <;> exact h) (trivial) (hSq).out (by kernel_rfl) ?_
    intro Kq hKq
    go_big_quiet_op
    go_big_quiet_on
    refine Go.Pin.takeQ 6 (by simp only [List.getElem?_toArray, List.getElem?_cons_zero, List.getElem?_cons_succ]; exact rfl) (by kernel_rfl) (by kernel_rfl) (by kernel_rfl) (by rfl) (fun _ _ d _ _ h => by cases d <;> exact h) (trivial) (hSq).out (by kernel_rfl) ?_
    intro Kq hKq
    go_big_quiet_op
    go_big_quiet_on
    refine takeV 7 (.slice (some ⟨gB, 0, none⟩) N (N + 70)) (by simp only [List.getElem?_toArray, List.getElem?_cons_zero, List.getElem?_cons_succ]; exact rfl) (by kernel_rfl) (by kernel_rfl) (by kernel_rfl) (fun _ _ d _ _ h => by cases d <;> exact h) (trivial) (by kernel_rfl) (fun Yq hYq => by unfold execOp; go_simp) ?_
    simp only [Act.put, List.setIfInBounds_toArray, List.set_cons_zero, List.set_cons_succ]
    refine Go.Pin.readyQ 8 (by simp only [List.getElem?_toArray, List.getElem?_cons_zero, List.getElem?_cons_succ]; exact rfl) (by kernel_rfl) (by kernel_rfl) ?_
    intro K hK
    refine wpCallV (d := some 117) (f := 11) rfl rfl (args := #[.slice (some ⟨gA, 0, none⟩) nD (nD + 70), .slice (some ⟨gB, 0, none⟩) N (N + 70)]) (by simp only [List.map_toArray, List.map_cons, List.map_nil]; rfl) (fun _ => rfl) (R := fun x w4 => ∃ a1 n1 k1 c, x = .tuple #[.slice a1 n1 k1, .int .i64 c] ∧ RdB w4 (.slice a1 n1 k1) (if 65535 < N then [] else X.take nD ++ frm (Z.take N)) ∧ ((c = if 65535 < N then 3 else 0) ∧ ∀ k, (Value.slice a1 n1 k1).ownBlock = some k → wd3.heap.size ≤ k) ∧ Below wd3.heap.size wd3 w4) (hC3.mono (fun e w4 h => rput_read h (by have := HS.out; omega) hl1 hl2)) ?_
    rintro x w12 ⟨a4, n4, k4, c4, rfl, hr12, ⟨hc4, -⟩, hb12⟩
    (obtain rfl : c4 = c3 := by rw [hc4, HC3.out])
    clear hc4
    refine hK _ _ trivial ?_
    simp only [Act.put, List.setIfInBounds_toArray, List.set_cons_zero, List.set_cons_succ]
    clear hK K
    refine Go.Pin.takeQ 9 (by simp only [List.getElem?_toArray, List.getElem?_cons_zero, List.getElem?_cons_succ]; exact rfl) (by kernel_rfl) (by kernel_rfl) (by kernel_rfl) (by rfl) (fun _ _ d _ _ h => by cases d <;> exact h) (trivial) (hSq).out (by kernel_rfl) ?_
    intro Kq hKq
    go_big_quiet_op
    go_big_quiet_on
    refine Go.Pin.takeQ 10 (by simp only [List.getElem?_toArray, List.getElem?_cons_zero, List.getElem?_cons_succ]; exact rfl) (by kernel_rfl) (by kernel_rfl) (by kernel_rfl) (by rfl) (fun _ _ d _ _ h => by cases d <;> exact h) (trivial) (hSq).out (by kernel_rfl) ?_
    intro Kq hKq
    go_big_quiet_op
    go_big_quiet_on
    refine Go.Pin.takeQ 11 (by simp only [List.getElem?_toArray, List.getElem?_cons_zero, List.getElem?_cons_succ]; exact rfl) (by kernel_rfl) (by kernel_rfl) (by kernel_rfl) (by rfl) (fun _ _ d _ _ h => by cases d <;> exact h) (trivial) (hSq).out (by kernel_rfl) ?_
    intro Kq hKq
    go_big_quiet_op
    go_big_quiet_on
    refine Go.Pin.takeQ 12 (by simp only [List.getElem?_toArray, List.getElem?_cons_zero, List.getElem?_cons_succ]; exact rfl) (by kernel_rfl) (by kernel_rfl) (by kernel_rfl) (by rfl) (fun _ _ d _ _ h => by cases d <;> exact h) (trivial) (hSq).out (by kernel_rfl) ?_
    intro Kq hKq
    go_big_quiet_op
    go_big_quiet_on
    refine Go.Pin.takeQ 13 (by simp only [List.getElem?_toArray, List.getElem?_cons_zero, List.getElem?_cons_succ]; exact rfl) (by kernel_rfl) (by kernel_rfl) (by kernel_rfl) (by rfl) (fun _ _ d _ _ h => by cases d <;> exact h) (trivial) (hSq).out (by kernel_rfl) ?_
    intro Kq hKq
    go_big_quiet_op
    go_big_quiet_on
    refine wpAnyH_done (by kernel_rfl) ?_ _
    rw [HP2.out] at hr12
    have H12 : Hid (PU gA gB W1 X Z w12 ∧ RdB w12 (.slice a1 n1 k1) P ∧ RdB w12 (.slice a2 n2 k2) P ∧ RdB w12 (.slice a3 n3 k3) P2 ∧ RdB w12 (.slice a4 n4 k4) P2) := ⟨H11d.out.1.below hb12, H11d.out.2.1.below hb12, H11d.out.2.2.1.below hb12, H11d.out.2.2.2.below hb12, hr12⟩
    clear hr12 hb12 hSq hRq hNq hC3 hl1 hl2
    have CC := H11.out.2.2.2.2 w12 (HF.out _ H12.out.1.lo).1
    have CS := same_true H12.out.2.2.2.1 H12.out.2.2.2.2
    go_wp2_with (first
      | (go_at_call 12; refine CC.mono ?_; rintro e w ⟨rfl, rfl⟩; clear CC)
      | (go_at_call 13; refine CS.mono ?_; rintro e w13 ⟨rfl, hb13⟩; have H13 : Hid (PU gA gB W1 X Z w13 ∧ RdB w13 (.slice a1 n1 k1) P ∧ RdB w13 (.slice a2 n2 k2) P) := ⟨H12.out.1.below hb13, H12.out.2.1.below hb13, H12.out.2.2.1.below hb13⟩; have CT := same_true H13.out.2.1 H13.out.2.2; clear hb13 CS)
      | (go_at_call 13; refine CT.mono ?_; rintro e w14 ⟨rfl, hb14⟩; have H14 : Hid (PU gA gB W1 X Z w14) := H13.out.1.below hb14; have CK := known_any HP.out HR.out w14 (HF.out _ H14.out.lo).1; clear hb14 CT)
      | (go_at_call 15; refine CK.mono ?_; rintro e w15 ⟨rfl, hb15⟩; have H15 : Hid (Below q W w15) := sub_le (HF.out _ H14.out.lo).2 hb15 (HE.out _ (HF.out _ H14.out.lo).2).2; clear hb15 CK))
    go_ret
    exact ⟨rfl, H15.out⟩
  · have HB1 : Hid (Below q W W) := Below.refl _ _
    have HMr : Hid (∀ Y, Below W.heap.size W Y → RdB Y (.slice am nM cm) M) := fun Y hY => hmB Y (by rw [← hq]; exact hY)
    have HYM : Hid (Byb M) := hm.2
    have HL : Hid (D.length = nD ∧ M.length = nM ∧ nD ≤ 140737488355328 ∧ nM ≤ 140737488355328) := ⟨hnD, hnM, hbd, hbm⟩
    clear hmB hdB hbd hbm hnD hnM hE hP hR hq hd hm
    by_cases h1 : 65530 ≤ far
    · have f3 : far ≥ 65530 := h1
      have f4 : ¬ far ≤ 65540 := fun h => hfar ⟨h1, h⟩
      clear hfar
      go_enter Tryd.func3, Tryd.ntmps3
      go_upto_region 3 with (fail)
      clear h1 f3 f4
      by_cases hD : 262144 < nD
      · have b1 : (nD : Int) > 262144 := by omega
        have b2 : (262144 : Int) < (nD : Int) := by omega
        go_wp2
        go_ret
        exact ⟨rfl, HB1.out⟩
      have b1 : ¬ (nD : Int) > 262144 := by omega
      have b2 : ¬ (262144 : Int) < (nD : Int) := by omega
      by_cases hM : 262144 < nM
      · have b3 : (nM : Int) > 262144 := by omega
        have b4 : (262144 : Int) < (nM : Int) := by omega
        go_wp2
        go_ret
        exact ⟨rfl, HB1.out⟩
      have b3 : ¬ (nM : Int) > 262144 := by omega
      have b4 : ¬ (262144 : Int) < (nM : Int) := by omega
      have HS : Hid (nD ≤ 262144 ∧ nM ≤ 262144) := ⟨by omega, by omega⟩
      clear hD hM
      have C1 := roomy_any W D ad nD cd (HDr.out W HB1.out) (by have := HS.out; omega)
      obtain ⟨gA, hgA⟩ : ∃ g, W.heap.size = g := ⟨_, rfl⟩
      rw [hgA] at C1
      have HGA : Hid (W.heap.size = gA ∧ q ≤ gA) := ⟨hgA, by have := (HE.out _ HB1.out).2; omega⟩
      clear hgA
      go_upto_region 6 with (go_at_call 9; refine C1.mono ?_; rintro e w2 ⟨rfl, hbb⟩; have H2 : Hid (BB gA W gA (room D) w2) := hbb; clear hbb C1)
      have C2 := roomy_any w2 M am nM cm (HMr.out w2 (by rw [HGA.out.1]; exact H2.out.old)) (by have := HS.out; omega)
      obtain ⟨gB, hgB⟩ : ∃ g, w2.heap.size = g := ⟨_, rfl⟩
      rw [hgB] at C2
      have HGB : Hid (w2.heap.size = gB ∧ gA < gB) := ⟨hgB, by have := H2.out.lt; omega⟩
      clear hgB
      go_upto_region 7 with (go_at_call 9; refine C2.mono ?_; rintro e w3 ⟨rfl, hbb⟩; have H3 : Hid (PU gA gB W (room D) (room M) w3) := ⟨H2.out.old.trans (hbb.old.mono (by have := HGB.out; omega)), (hbb.old.block gA (by have := HGB.out; omega)).trans H2.out.row, hbb.row, HGB.out.2⟩; clear hbb C2)
      have rA := fun w => run_preF w gA nD (nD + 70) (nD + 70) (nD : Int) rfl (by omega) (by omega)
      have rB := fun w => run_preF w gB nM (nM + 70) (nM + 70) (nM : Int) rfl (by omega) (by omega)
      have HF : Hid (∀ Y, Below gA W Y → Errs ea Y ∧ Below q W Y) := fun Y hY => by
        have hb : Below q W Y := HB1.out.trans (hY.mono HGA.out.2)
        exact ⟨(HE.out _ hb).1, hb⟩
      have CP : Hid (∀ X Z Y, PU gA gB W X Z Y → X.length = nD + 70 → Z.length = nM + 70 → Calls Tryd.prog 10 #[.slice (some ⟨gA, 0, none⟩) nD (nD + 70), .slice (some ⟨gB, 0, none⟩) nM (nM + 70)] Y fun e w' => ∃ v c, e = .returned (.tuple #[v, EV ea c]) ∧ ((65535 < nM → c = 3 ∧ v = .slice none 0 0) ∧ (¬ 65535 < nM → c = 0 ∧ w'.ownsRow Y.heap.size 5 1 v (nD + 2 + nM) ((X.take nD ++ frm (Z.take nM)).map (Value.int .u8)))) ∧ Below Y.heap.size Y w') := fun X Z Y hY hX hZ => by
        have h1 : (X.take nD).length = nD := by rw [List.length_take]; omega
        have h2 : (Z.take nM).length = nM := by rw [List.length_take]; omega
        have := HP.out ea Y _ _ _ _ (HF.out Y hY.lo).1 (hY.rdA (n := nD) (cap := nD + 70) (by omega) (by omega) (by have := HS.out; omega)) (hY.rdB (n := nM) (cap := nM + 70) (by omega) (by omega) (by have := HS.out; omega)) (by rw [h1]; have := HS.out; omega) (by rw [h2]; have := HS.out; omega)
        rw [h1, h2] at this
        exact this
      have hC1 := CP.out (room D) (room M) _ (H3.out.below (Below.refl w3.heap.size w3).drew) (by rw [room_len, HL.out.1]) (by rw [room_len, HL.out.2.1])
      obtain ⟨wd, hwd⟩ : ∃ wd, w3.drew = wd := ⟨_, rfl⟩
      rw [hwd] at hC1
      have H3d : Hid (PU gA gB W (room D) (room M) wd) := by rw [← hwd]; exact H3.out.below (Below.refl _ _).drew
      refine Go.Pin.wp_region_hcls (fun _ => True) 14 (by rfl) (by kernel_rfl) trivial ?_
      intro Sq fq hNq hRq hSq
      rw [hwd]
      clear hwd
      refine Go.Pin.takeQ 0 (by simp only [List.getElem?_toArray, List.getElem?_cons_zero, List.getElem?_cons_succ]; exact rfl) (by kernel_rfl) (by kernel_rfl) (by kernel_rfl) (by rfl) (fun _ _ d _ _ h => by cases d <;> exact h) (trivial) (hSq).out (by kernel_rfl) ?_
      intro Kq hKq
      go_big_quiet_op
      go_big_quiet_on
      refine Go.Pin.takeQ 1 (by simp only [List.getElem?_toArray, List.getElem?_cons_zero, List.getElem?_cons_succ]; exact rfl) (by kernel_rfl) (by kernel_rfl) (by kernel_rfl) (by rfl) (fun _ _ d _ _ h => by cases d <;> exact h) (trivial) (hSq).out (by kernel_rfl) ?_
      intro Kq hKq
      go_big_quiet_op
      go_big_quiet_on
      refine Go.Pin.takeQ 2 (by simp only [List.getElem?_toArray, List.getElem?_cons_zero, List.getElem?_cons_succ]; exact rfl) (by kernel_rfl) (by kernel_rfl) (by kernel_rfl) (by rfl) (fun _ _ d _ _ h => by cases d <;> exact h) (trivial) (hSq).out (by kernel_rfl) ?_
      intro Kq hKq
      go_big_quiet_op
      go_big_quiet_on
      refine takeV 3 (.slice (some ⟨gA, 0, none⟩) nD (nD + 70)) (by simp only [List.getElem?_toArray, List.getElem?_cons_zero, List.getElem?_cons_succ]; exact rfl) (by kernel_rfl) (by kernel_rfl) (by kernel_rfl) (fun _ _ d _ _ h => by cases d <;> exact h) (trivial) (by kernel_rfl) (fun Yq hYq => by unfold execOp; go_simp) ?_
      simp only [Act.put, List.setIfInBounds_toArray, List.set_cons_zero, List.set_cons_succ]
      refine Go.Pin.takeQ 4 (by simp only [List.getElem?_toArray, List.getElem?_cons_zero, List.getElem?_cons_succ]; exact rfl) (by kernel_rfl) (by kernel_rfl) (by kernel_rfl) (by rfl) (fun _ _ d _ _ h => by cases d <;> exact h) (trivial) (hSq).out (by kernel_rfl) ?_
      intro Kq hKq
      go_big_quiet_op
      go_big_quiet_on
      refine Go.Pin.takeQ 5 (by simp only [List.getElem?_toArray, List.getElem?_cons_zero, List.getElem?_cons_succ]; exact rfl) (by kernel_rfl) (by kernel_rfl) (by kernel_rfl) (by rfl) (fun _ _ d _ _ h => by cases d <;> exact h) (trivial) (hSq).out (by kernel_rfl) ?_
      intro Kq hKq
      go_big_quiet_op
      go_big_quiet_on
      refine Go.Pin.takeQ 6 (by simp only [List.getElem?_toArray, List.getElem?_cons_zero, List.getElem?_cons_succ]; exact rfl) (by kernel_rfl) (by kernel_rfl) (by kernel_rfl) (by rfl) (fun _ _ d _ _ h => by cases d <;> exact h) (trivial) (hSq).out (by kernel_rfl) ?_
      intro Kq hKq
      go_big_quiet_op
      go_big_quiet_on
      refine takeV 7 (.slice (some ⟨gB, 0, none⟩) nM (nM + 70)) (by simp only [List.getElem?_toArray, List.getElem?_cons_zero, List.getElem?_cons_succ]; exact rfl) (by kernel_rfl) (by kernel_rfl) (by kernel_rfl) (fun _ _ d _ _ h => by cases d <;> exact h) (trivial) (by kernel_rfl) (fun Yq hYq => by unfold execOp; go_simp) ?_
      simp only [Act.put, List.setIfInBounds_toArray, List.set_cons_zero, List.set_cons_succ]
      refine Go.Pin.readyQ 8 (by simp only [List.getElem?_toArray, List.getElem?_cons_zero, List.getElem?_cons_succ]; exact rfl) (by kernel_rfl) (by kernel_rfl) ?_
      intro K hK
      refine wpCallV (d := some 44) (f := 10) rfl rfl (args := #[.slice (some ⟨gA, 0, none⟩) nD (nD + 70), .slice (some ⟨gB, 0, none⟩) nM (nM + 70)]) (by simp only [List.map_toArray, List.map_cons, List.map_nil]; rfl) (fun _ => rfl) (R := fun x w4 => ∃ a1 n1 k1 ev c, x = .tuple #[.slice a1 n1 k1, ev] ∧ RdB w4 (.slice a1 n1 k1) (if 65535 < nM then [] else (room D).take nD ++ frm ((room M).take nM)) ∧ ((c = if 65535 < nM then 3 else 0) ∧ CdC ea ev c ∧ ∀ k, (Value.slice a1 n1 k1).ownBlock = some k → wd.heap.size ≤ k) ∧ Below wd.heap.size wd w4) (hC1.mono (fun e w4 h => put_read h (by have := HS.out; omega) (by rw [List.length_take, room_len, HL.out.1]; omega) (by rw [List.length_take, room_len, HL.out.2.1]; omega))) ?_
      rintro x w4 ⟨a1, n1, k1, ev, c1, rfl, hr4, ⟨hc1, hcd, hk1⟩, hb4⟩
      refine hK _ _ trivial ?_
      simp only [Act.put, List.setIfInBounds_toArray, List.set_cons_zero, List.set_cons_succ]
      clear hK K
      refine Go.Pin.takeQ 9 (by simp only [List.getElem?_toArray, List.getElem?_cons_zero, List.getElem?_cons_succ]; exact rfl) (by kernel_rfl) (by kernel_rfl) (by kernel_rfl) (by rfl) (fun _ _ d _ _ h => by cases d <;> exact h) (trivial) (hSq).out (by kernel_rfl) ?_
      intro Kq hKq
      go_big_quiet_op
      go_big_quiet_on
      refine Go.Pin.takeQ 10 (by simp only [List.getElem?_toArray, List.getElem?_cons_zero, List.getElem?_cons_succ]; exact rfl) (by kernel_rfl) (by kernel_rfl) (by kernel_rfl) (by rfl) (fun _ _ d _ _ h => by cases d <;> exact h) (trivial) (hSq).out (by kernel_rfl) ?_
      intro Kq hKq
      go_big_quiet_op
      go_big_quiet_on
      refine Go.Pin.takeQ 11 (by simp only [List.getElem?_toArray, List.getElem?_cons_zero, List.getElem?_cons_succ]; exact rfl) (by kernel_rfl) (by kernel_rfl) (by kernel_rfl) (by rfl) (fun _ _ d _ _ h => by cases d <;> exact h) (trivial) (hSq).out (by kernel_rfl) ?_
      intro Kq hKq
      go_big_quiet_op
      go_big_quiet_on
      refine Go.Pin.takeQ 12 (by simp only [List.getElem?_toArray, List.getElem?_cons_zero, List.getElem?_cons_succ]; exact rfl) (by kernel_rfl) (by kernel_rfl) (by kernel_rfl) (by rfl) (fun _ _ d _ _ h => by cases d <;> exact h) (trivial) (hSq).out (by kernel_rfl) ?_
      intro Kq hKq
      go_big_quiet_op
      go_big_quiet_on
      refine Go.Pin.takeQ 13 (by simp only [List.getElem?_toArray, List.getElem?_cons_zero, List.getElem?_cons_succ]; exact rfl) (by kernel_rfl) (by kernel_rfl) (by kernel_rfl) (by rfl) (fun _ _ d _ _ h => by cases d <;> exact h) (trivial) (hSq).out (by kernel_rfl) ?_
      intro Kq hKq
      go_big_quiet_op
      go_big_quiet_on
      refine wpAnyH_done (by kernel_rfl) ?_ _
      have hrt : (room D).take nD = D := by rw [← HL.out.1]; exact room_take D
      have hrm : (room M).take nM = M := by rw [← HL.out.2.1]; exact room_take M
      rw [hrt, hrm] at hr4
      obtain ⟨P, hPe⟩ : ∃ P, (if 65535 < nM then [] else D ++ frm M) = P := ⟨_, rfl⟩
      rw [hPe] at hr4
      have H4 : Hid (PU gA gB W (room D) (room M) w4 ∧ RdB w4 (.slice a1 n1 k1) P ∧ CdC ea ev c1) := ⟨H3d.out.below hb4, hr4, hcd⟩
      have HK1 : Hid (∀ k, (Value.slice a1 n1 k1).ownBlock = some k → gB < k) := fun k hk => by have := hk1 k hk; have := H3d.out.lt; omega
      have HC1 : Hid (c1 = if 65535 < nM then 3 else 0) := hc1
      have HPE : Hid ((if 65535 < nM then [] else D ++ frm M) = P) := hPe
      clear hr4 hb4 hc1 hcd hk1 hPe hrt hrm hSq hRq hNq hC1
      have CR := rput_any (HDr.out w4 (HF.out _ H4.out.1.lo).2) (HMr.out w4 (by rw [HGA.out.1]; exact H4.out.1.lo)) (by rw [HL.out.1]; have := HS.out; omega) (by rw [HL.out.2.1]; have := HS.out; omega)
      rw [HL.out.1, HL.out.2.1] at CR
      go_upto_region 9 with (go_at_call 11; refine CR.mono ?_; intro e w5 h; (obtain ⟨v, he, a2, n2, k2, c2, rfl, hr5, ⟨hc2, hk2⟩, hb5⟩ := rput_read h (by have := HS.out; omega) HL.out.1 HL.out.2.1); subst he; rw [HPE.out] at hr5; (obtain rfl : c2 = c1 := by rw [hc2, HC1.out]); have H5 : Hid (PU gA gB W (room D) (room M) w5 ∧ RdB w5 (.slice a1 n1 k1) P ∧ RdB w5 (.slice a2 n2 k2) P) := ⟨H4.out.1.below hb5, H4.out.2.1.below hb5, hr5⟩; have HK2 : Hid (∀ k, (Value.slice a2 n2 k2).ownBlock = some k → gB < k) := (fun k hk => by have := hk2 k hk; have := H4.out.1.lt; omega); clear h hr5 hc2 hk2 hb5 CR)
      have CC := H4.out.2.2 w5 (HF.out _ H5.out.1.lo).1
      have CS := same_true H5.out.2.1 H5.out.2.2
      have HST : Hid (∀ Y, PU gA gB W (room D) (room M) Y → Calls Tryd.prog 14 #[.slice (some ⟨gA, 0, none⟩) (nD + 70) (nD + 70), .slice ad nD cd] Y (fun e w' => e = .returned (.bool true) ∧ Below Y.heap.size Y w') ∧ Calls Tryd.prog 14 #[.slice (some ⟨gB, 0, none⟩) (nM + 70) (nM + 70), .slice am nM cm] Y (fun e w' => e = .returned (.bool true) ∧ Below Y.heap.size Y w')) := fun Y hY =>
        ⟨stands_any Y D _ _ nD _ _ _ (hY.fullA (by rw [room_len, HL.out.1]) (by have := HS.out; omega)) (HDr.out Y (HF.out _ hY.lo).2) (by have := HS.out; omega), stands_any Y M _ _ nM _ _ _ (hY.fullB (by rw [room_len, HL.out.2.1]) (by have := HS.out; omega)) (HMr.out Y (by rw [HGA.out.1]; exact hY.lo)) (by have := HS.out; omega)⟩
      go_upto_region 11 with (first
        | (go_at_call 12; refine CC.mono ?_; rintro e w ⟨rfl, rfl⟩; clear CC)
        | (go_at_call 13; refine CS.mono ?_; rintro e w6 ⟨rfl, hb6⟩; have H6 : Hid (PU gA gB W (room D) (room M) w6 ∧ RdB w6 (.slice a1 n1 k1) P ∧ RdB w6 (.slice a2 n2 k2) P) := ⟨H5.out.1.below hb6, H5.out.2.1.below hb6, H5.out.2.2.below hb6⟩; have CT := (HST.out w6 H6.out.1).1; clear hb6 CS)
        | (go_at_call 14; refine CT.mono ?_; rintro e w7 ⟨rfl, hb7⟩; have H7 : Hid (PU gA gB W (room D) (room M) w7 ∧ RdB w7 (.slice a1 n1 k1) P ∧ RdB w7 (.slice a2 n2 k2) P) := ⟨H6.out.1.below hb7, H6.out.2.1.below hb7, H6.out.2.2.below hb7⟩; have CU := (HST.out w7 H7.out.1).2; clear hb7 CT)
        | (go_at_call 14; refine CU.mono ?_; rintro e w8 ⟨rfl, hb8⟩; have H8 : Hid (PU gA gB W (room D) (room M) w8 ∧ RdB w8 (.slice a1 n1 k1) P ∧ RdB w8 (.slice a2 n2 k2) P) := ⟨H7.out.1.below hb8, H7.out.2.1.below hb8, H7.out.2.2.below hb8⟩; clear hb8 CU))
      by_cases hz : nD = 0 ∨ nM = 0
      · have CK := known_any HP.out HR.out w8 (HF.out _ H8.out.1.lo).1
        by_cases hz1 : nD = 0
        · have z1 : (nD : Int) = 0 := by omega
          have z2 : ((nD : Int) == 0) = true := by simpa using z1
          go_wp2_with (go_at_call 15; refine CK.mono ?_; rintro e w9 ⟨rfl, hb9⟩; have H9 : Hid (Below q W w9) := sub_le (HF.out _ H8.out.1.lo).2 hb9 (HE.out _ (HF.out _ H8.out.1.lo).2).2; clear hb9 CK)
          go_ret
          exact ⟨rfl, H9.out⟩
        · have z1 : ¬ (nD : Int) = 0 := by omega
          have z2 : ((nD : Int) == 0) = false := by simpa using z1
          have z3 : (nM : Int) = 0 := by omega
          have z4 : ((nM : Int) == 0) = true := by simpa using z3
          go_wp2_with (go_at_call 15; refine CK.mono ?_; rintro e w9 ⟨rfl, hb9⟩; have H9 : Hid (Below q W w9) := sub_le (HF.out _ H8.out.1.lo).2 hb9 (HE.out _ (HF.out _ H8.out.1.lo).2).2; clear hb9 CK)
          go_ret
          exact ⟨rfl, H9.out⟩
      have z1 : ¬ (nD : Int) = 0 := by omega
      have z2 : ((nD : Int) == 0) = false := by simpa using z1
      have z3 : ¬ (nM : Int) = 0 := by omega
      have z4 : ((nM : Int) == 0) = false := by simpa using z3
      clear hz
      go_upto_region 13 with (fail)
      have xa := H8.out.1.cA 0 (by rw [room_len]; omega)
      have xb := H8.out.1.cB 0 (by rw [room_len]; omega)
      obtain ⟨za, hza⟩ : ∃ z, (room D).getD 0 0 = z := ⟨_, rfl⟩
      obtain ⟨zb, hzb⟩ : ∃ z, (room M).getD 0 0 = z := ⟨_, rfl⟩
      rw [hza] at xa
      rw [hzb] at xb
      obtain ⟨xa1, xa2⟩ := xa
      have qa : (0 : Int) < (nD : Int) + 70 := by omega
      go_upto_region 14 with (fail)
      obtain ⟨ya, hya⟩ : ∃ y, bits BinOp.xor IntKind.u8 za 1 = y := ⟨_, rfl⟩
      have h9 := H8.out.1.setA 0 ya
      have r91 := H8.out.2.1.set0 gA 0 (.int .u8 ya) (fun k hk => by have := HK1.out k hk; have := HGB.out; omega)
      have r92 := H8.out.2.2.set0 gA 0 (.int .u8 ya) (fun k hk => by have := HK2.out k hk; have := HGB.out; omega)
      rw [hya]
      obtain ⟨w9, hw9⟩ : ∃ w9, w8.setCell ⟨gA, 0, none⟩ (.int .u8 ya) = w9 := ⟨_, rfl⟩
      rw [hw9] at h9 r91 r92 ⊢
      obtain ⟨X, hX⟩ : ∃ X, (room D).set 0 ya = X := ⟨_, rfl⟩
      rw [hX] at h9
      have hXl : X.length = nD + 70 := by rw [← hX, List.length_set, room_len, HL.out.1]
      have H9 : Hid (PU gA gB W X (room M) w9 ∧ RdB w9 (.slice a1 n1 k1) P ∧ RdB w9 (.slice a2 n2 k2) P) := ⟨h9, r91, r92⟩
      obtain ⟨xb1, xb2⟩ := h9.cB 0 (by rw [room_len]; omega)
      rw [hzb] at xb1
      have qb : (0 : Int) < (nM : Int) + 70 := by omega
      clear h9 r91 r92 hw9 hX hya xa1 xa2 hza xb
      go_upto_region 15 with (fail)
      obtain ⟨yb, hyb⟩ : ∃ y, bits BinOp.xor IntKind.u8 zb 1 = y := ⟨_, rfl⟩
      have h10 := H9.out.1.setB 0 yb
      have r101 := H9.out.2.1.set0 gB 0 (.int .u8 yb) (fun k hk => by have := HK1.out k hk; omega)
      have r102 := H9.out.2.2.set0 gB 0 (.int .u8 yb) (fun k hk => by have := HK2.out k hk; omega)
      rw [hyb]
      obtain ⟨w10, hw10⟩ : ∃ w10, w9.setCell ⟨gB, 0, none⟩ (.int .u8 yb) = w10 := ⟨_, rfl⟩
      rw [hw10] at h10 r101 r102 ⊢
      obtain ⟨Z, hZ⟩ : ∃ Z, (room M).set 0 yb = Z := ⟨_, rfl⟩
      rw [hZ] at h10
      have hZl : Z.length = nM + 70 := by rw [← hZ, List.length_set, room_len, HL.out.2.1]
      have H10 : Hid (PU gA gB W X Z w10 ∧ RdB w10 (.slice a1 n1 k1) P ∧ RdB w10 (.slice a2 n2 k2) P) := ⟨h10, r101, r102⟩
      have HXZ : Hid (X.length = nD + 70 ∧ Z.length = nM + 70) := ⟨hXl, hZl⟩
      clear h10 r101 r102 hw10 hZ hyb xb1 xb2 hzb hXl hZl
      have hC2 := CP.out X Z _ (H10.out.1.below (Below.refl w10.heap.size w10).drew) HXZ.out.1 HXZ.out.2
      obtain ⟨wd2, hwd2⟩ : ∃ wd, w10.drew = wd := ⟨_, rfl⟩
      rw [hwd2] at hC2
      have hbd2 : Below w10.heap.size w10 wd2 := by rw [← hwd2]; exact (Below.refl _ _).drew
      have H10d : Hid (PU gA gB W X Z wd2 ∧ RdB wd2 (.slice a1 n1 k1) P ∧ RdB wd2 (.slice a2 n2 k2) P) := ⟨H10.out.1.below hbd2, H10.out.2.1.below hbd2, H10.out.2.2.below hbd2⟩
      refine Go.Pin.wp_region_hcls (fun _ => True) 14 (by rfl) (by kernel_rfl) trivial ?_
      intro Sq fq hNq hRq hSq
      rw [hwd2]
      clear hwd2 hbd2
      refine Go.Pin.takeQ 0 (by simp only [List.getElem?_toArray, List.getElem?_cons_zero, List.getElem?_cons_succ]; exact rfl) (by kernel_rfl) (by kernel_rfl) (by kernel_rfl) (by rfl) (fun _ _ d _ _ h => by cases d <;> exact h) (trivial) (hSq).out (by kernel_rfl) ?_
      intro Kq hKq
      go_big_quiet_op
      go_big_quiet_on
      refine Go.Pin.takeQ 1 (by simp only [List.getElem?_toArray, List.getElem?_cons_zero, List.getElem?_cons_succ]; exact rfl) (by kernel_rfl) (by kernel_rfl) (by kernel_rfl) (by rfl) (fun _ _ d _ _ h => by cases d <;> exact h) (trivial) (hSq).out (by kernel_rfl) ?_
      intro Kq hKq
      go_big_quiet_op
      go_big_quiet_on
      refine Go.Pin.takeQ 2 (by simp only [List.getElem?_toArray, List.getElem?_cons_zero, List.getElem?_cons_succ]; exact rfl) (by kernel_rfl) (by kernel_rfl) (by kernel_rfl) (by rfl) (fun _ _ d _ _ h => by cases d <;> exact h) (trivial) (hSq).out (by kernel_rfl) ?_
      intro Kq hKq
      go_big_quiet_op
      go_big_quiet_on
      refine takeV 3 (.slice (some ⟨gA, 0, none⟩) nD (nD + 70)) (by simp only [List.getElem?_toArray, List.getElem?_cons_zero, List.getElem?_cons_succ]; exact rfl) (by kernel_rfl) (by kernel_rfl) (by kernel_rfl) (fun _ _ d _ _ h => by cases d <;> exact h) (trivial) (by kernel_rfl) (fun Yq hYq => by unfold execOp; go_simp) ?_
      simp only [Act.put, List.setIfInBounds_toArray, List.set_cons_zero, List.set_cons_succ]
      refine Go.Pin.takeQ 4 (by simp only [List.getElem?_toArray, List.getElem?_cons_zero, List.getElem?_cons_succ]; exact rfl) (by kernel_rfl) (by kernel_rfl) (by kernel_rfl) (by rfl) (fun _ _ d _ _ h => by cases d <;> exact h) (trivial) (hSq).out (by kernel_rfl) ?_
      intro Kq hKq
      go_big_quiet_op
      go_big_quiet_on
      refine Go.Pin.takeQ 5 (by simp only [List.getElem?_toArray, List.getElem?_cons_zero, List.getElem?_cons_succ]; exact rfl) (by kernel_rfl) (by kernel_rfl) (by kernel_rfl) (by rfl) (fun _ _ d _ _ h => by cases d <;> exact h) (trivial) (hSq).out (by kernel_rfl) ?_
      intro Kq hKq
      go_big_quiet_op
      go_big_quiet_on
      refine Go.Pin.takeQ 6 (by simp only [List.getElem?_toArray, List.getElem?_cons_zero, List.getElem?_cons_succ]; exact rfl) (by kernel_rfl) (by kernel_rfl) (by kernel_rfl) (by rfl) (fun _ _ d _ _ h => by cases d <;> exact h) (trivial) (hSq).out (by kernel_rfl) ?_
      intro Kq hKq
      go_big_quiet_op
      go_big_quiet_on
      refine takeV 7 (.slice (some ⟨gB, 0, none⟩) nM (nM + 70)) (by simp only [List.getElem?_toArray, List.getElem?_cons_zero, List.getElem?_cons_succ]; exact rfl) (by kernel_rfl) (by kernel_rfl) (by kernel_rfl) (fun _ _ d _ _ h => by cases d <;> exact h) (trivial) (by kernel_rfl) (fun Yq hYq => by unfold execOp; go_simp) ?_
      simp only [Act.put, List.setIfInBounds_toArray, List.set_cons_zero, List.set_cons_succ]
      refine Go.Pin.readyQ 8 (by simp only [List.getElem?_toArray, List.getElem?_cons_zero, List.getElem?_cons_succ]; exact rfl) (by kernel_rfl) (by kernel_rfl) ?_
      intro K hK
      refine wpCallV (d := some 105) (f := 10) rfl rfl (args := #[.slice (some ⟨gA, 0, none⟩) nD (nD + 70), .slice (some ⟨gB, 0, none⟩) nM (nM + 70)]) (by simp only [List.map_toArray, List.map_cons, List.map_nil]; rfl) (fun _ => rfl) (R := fun x w4 => ∃ a1 n1 k1 ev c, x = .tuple #[.slice a1 n1 k1, ev] ∧ RdB w4 (.slice a1 n1 k1) (if 65535 < nM then [] else X.take nD ++ frm (Z.take nM)) ∧ ((c = if 65535 < nM then 3 else 0) ∧ CdC ea ev c ∧ ∀ k, (Value.slice a1 n1 k1).ownBlock = some k → wd2.heap.size ≤ k) ∧ Below wd2.heap.size wd2 w4) (hC2.mono (fun e w4 h => put_read h (by have := HS.out; omega) (by rw [List.length_take, HXZ.out.1]; omega) (by rw [List.length_take, HXZ.out.2]; omega))) ?_
      rintro x w11 ⟨a3, n3, k3, ev3, c3, rfl, hr11, ⟨hc3, hcd3, -⟩, hb11⟩
      refine hK _ _ trivial ?_
      simp only [Act.put, List.setIfInBounds_toArray, List.set_cons_zero, List.set_cons_succ]
      clear hK K
      refine Go.Pin.takeQ 9 (by simp only [List.getElem?_toArray, List.getElem?_cons_zero, List.getElem?_cons_succ]; exact rfl) (by kernel_rfl) (by kernel_rfl) (by kernel_rfl) (by rfl) (fun _ _ d _ _ h => by cases d <;> exact h) (trivial) (hSq).out (by kernel_rfl) ?_
      intro Kq hKq
      go_big_quiet_op
      go_big_quiet_on
      refine Go.Pin.takeQ 10 (by simp only [List.getElem?_toArray, List.getElem?_cons_zero, List.getElem?_cons_succ]; exact rfl) (by kernel_rfl) (by kernel_rfl) (by kernel_rfl) (by rfl) (fun _ _ d _ _ h => by cases d <;> exact h) (trivial) (hSq).out (by kernel_rfl) ?_
      intro Kq hKq
      go_big_quiet_op
      go_big_quiet_on
      refine Go.Pin.takeQ 11 (by simp only [List.getElem?_toArray, List.getElem?_cons_zero, List.getElem?_cons_succ]; exact rfl) (by kernel_rfl) (by kernel_rfl) (by kernel_rfl) (by rfl) (fun _ _ d _ _ h => by cases d <;> exact h) (trivial) (hSq).out (by kernel_rfl) ?_
      intro Kq hKq
      go_big_quiet_op
      go_big_quiet_on
      refine Go.Pin.takeQ 12 (by simp only [List.getElem?_toArray, List.getElem?_cons_zero, List.getElem?_cons_succ]; exact rfl) (by kernel_rfl) (by kernel_rfl) (by kernel_rfl) (by rfl) (fun _ _ d _ _ h => by cases d <;> exact h) (trivial) (hSq).out (by kernel_rfl) ?_
      intro Kq hKq
      go_big_quiet_op
      go_big_quiet_on
      refine Go.Pin.takeQ 13 (by simp only [List.getElem?_toArray, List.getElem?_cons_zero, List.getElem?_cons_succ]; exact rfl) (by kernel_rfl) (by kernel_rfl) (by kernel_rfl) (by rfl) (fun _ _ d _ _ h => by cases d <;> exact h) (trivial) (hSq).out (by kernel_rfl) ?_
      intro Kq hKq
      go_big_quiet_op
      go_big_quiet_on
      refine wpAnyH_done (by kernel_rfl) ?_ _
      obtain ⟨P2, hP2⟩ : ∃ P, (if 65535 < nM then [] else X.take nD ++ frm (Z.take nM)) = P := ⟨_, rfl⟩
      rw [hP2] at hr11
      have H11 : Hid (PU gA gB W X Z w11 ∧ RdB w11 (.slice a1 n1 k1) P ∧ RdB w11 (.slice a2 n2 k2) P ∧ RdB w11 (.slice a3 n3 k3) P2 ∧ CdC ea ev3 c3) := ⟨H10d.out.1.below hb11, H10d.out.2.1.below hb11, H10d.out.2.2.below hb11, hr11, hcd3⟩
      have HC3 : Hid (c3 = if 65535 < nM then 3 else 0) := hc3
      have HP2 : Hid ((if 65535 < nM then [] else X.take nD ++ frm (Z.take nM)) = P2) := hP2
      clear hr11 hb11 hc3 hcd3 hP2 hSq hRq hNq hC2
      go_upto_region 16 with (fail)
      obtain ⟨wd3, hwd3⟩ : ∃ wd, w11.drew = wd := ⟨_, rfl⟩
      have hbd3 : Below w11.heap.size w11 wd3 := by rw [← hwd3]; exact (Below.refl _ _).drew
      have H11d : Hid (PU gA gB W X Z wd3 ∧ RdB wd3 (.slice a1 n1 k1) P ∧ RdB wd3 (.slice a2 n2 k2) P ∧ RdB wd3 (.slice a3 n3 k3) P2) := ⟨H11.out.1.below hbd3, H11.out.2.1.below hbd3, H11.out.2.2.1.below hbd3, H11.out.2.2.2.1.below hbd3⟩
      have hl1 : (X.take nD).length = nD := by rw [List.length_take, HXZ.out.1]; omega
      have hl2 : (Z.take nM).length = nM := by rw [List.length_take, HXZ.out.2]; omega
      have hC3 := rput_any (H11d.out.1.rdA (n := nD) (cap := nD + 70) (by rw [HXZ.out.1]; omega) (by omega) (by have := HS.out; omega)) (H11d.out.1.rdB (n := nM) (cap := nM + 70) (by rw [HXZ.out.2]; omega) (by omega) (by have := HS.out; omega)) (by rw [hl1]; have := HS.out; omega) (by rw [hl2]; have := HS.out; omega)
      rw [hl1, hl2] at hC3
      refine Go.Pin.wp_region_hcls (fun _ => True) 14 (by rfl) (by kernel_rfl) trivial ?_
      intro Sq fq hNq hRq hSq
      rw [hwd3]
      clear hwd3 hbd3
      refine Go.Pin.takeQ 0 (by simp only [List.getElem?_toArray, List.getElem?_cons_zero, List.getElem?_cons_succ]; exact rfl) (by kernel_rfl) (by kernel_rfl) (by kernel_rfl) (by rfl) (fun _ _ d _ _ h => by cases d <;> exact h) (trivial) (hSq).out (by kernel_rfl) ?_
      intro Kq hKq
      go_big_quiet_op
      go_big_quiet_on
      refine Go.Pin.takeQ 1 (by simp only [List.getElem?_toArray, List.getElem?_cons_zero, List.getElem?_cons_succ]; exact rfl) (by kernel_rfl) (by kernel_rfl) (by kernel_rfl) (by rfl) (fun _ _ d _ _ h => by cases d <;> exact h) (trivial) (hSq).out (by kernel_rfl) ?_
      intro Kq hKq
      go_big_quiet_op
      go_big_quiet_on
      refine Go.Pin.takeQ 2 (by simp only [List.getElem?_toArray, List.getElem?_cons_zero, List.getElem?_cons_succ]; exact rfl) (by kernel_rfl) (by kernel_rfl) (by kernel_rfl) (by rfl) (fun _ _ d _ _ h => by cases d <;> exact h) (trivial) (hSq).out (by kernel_rfl) ?_
      intro Kq hKq
      go_big_quiet_op
      go_big_quiet_on
      refine takeV 3 (.slice (some ⟨gA, 0, none⟩) nD (nD + 70)) (by simp only [List.getElem?_toArray, List.getElem?_cons_zero, List.getElem?_cons_succ]; exact rfl) (by kernel_rfl) (by kernel_rfl) (by kernel_rfl) (fun _ _ d _ _ h => by cases d <;> exact h) (trivial) (by kernel_rfl) (fun Yq hYq => by unfold execOp; go_simp) ?_
      simp only [Act.put, List.setIfInBounds_toArray, List.set_cons_zero, List.set_cons_succ]
      refine Go.Pin.takeQ 4 (by simp only [List.getElem?_toArray, List.getElem?_cons_zero, List.getElem?_cons_succ]; exact rfl) (by kernel_rfl) (by kernel_rfl) (by kernel_rfl) (by rfl) (fun _ _ d _ _ h => by cases d <;> exact h) (trivial) (hSq).out (by kernel_rfl) ?_
      intro Kq hKq
      go_big_quiet_op
      go_big_quiet_on
      refine Go.Pin.takeQ 5 (by simp only [List.getElem?_toArray, List.getElem?_cons_zero, List.getElem?_cons_succ]; exact rfl) (by kernel_rfl) (by kernel_rfl) (by kernel_rfl) (by rfl) (fun _ _ d _ _ h => by cases d <;> exact h) (trivial) (hSq).out (by kernel_rfl) ?_
      intro Kq hKq
      go_big_quiet_op
      go_big_quiet_on
      refine Go.Pin.takeQ 6 (by simp only [List.getElem?_toArray, List.getElem?_cons_zero, List.getElem?_cons_succ]; exact rfl) (by kernel_rfl) (by kernel_rfl) (by kernel_rfl) (by rfl) (fun _ _ d _ _ h => by cases d <;> exact h) (trivial) (hSq).out (by kernel_rfl) ?_
      intro Kq hKq
      go_big_quiet_op
      go_big_quiet_on
      refine takeV 7 (.slice (some ⟨gB, 0, none⟩) nM (nM + 70)) (by simp only [List.getElem?_toArray, List.getElem?_cons_zero, List.getElem?_cons_succ]; exact rfl) (by kernel_rfl) (by kernel_rfl) (by kernel_rfl) (fun _ _ d _ _ h => by cases d <;> exact h) (trivial) (by kernel_rfl) (fun Yq hYq => by unfold execOp; go_simp) ?_
      simp only [Act.put, List.setIfInBounds_toArray, List.set_cons_zero, List.set_cons_succ]
      refine Go.Pin.readyQ 8 (by simp only [List.getElem?_toArray, List.getElem?_cons_zero, List.getElem?_cons_succ]; exact rfl) (by kernel_rfl) (by kernel_rfl) ?_
      intro K hK
      refine wpCallV (d := some 117) (f := 11) rfl rfl (args := #[.slice (some ⟨gA, 0, none⟩) nD (nD + 70), .slice (some ⟨gB, 0, none⟩) nM (nM + 70)]) (by simp only [List.map_toArray, List.map_cons, List.map_nil]; rfl) (fun _ => rfl) (R := fun x w4 => ∃ a1 n1 k1 c, x = .tuple #[.slice a1 n1 k1, .int .i64 c] ∧ RdB w4 (.slice a1 n1 k1) (if 65535 < nM then [] else X.take nD ++ frm (Z.take nM)) ∧ ((c = if 65535 < nM then 3 else 0) ∧ ∀ k, (Value.slice a1 n1 k1).ownBlock = some k → wd3.heap.size ≤ k) ∧ Below wd3.heap.size wd3 w4) (hC3.mono (fun e w4 h => rput_read h (by have := HS.out; omega) hl1 hl2)) ?_
      rintro x w12 ⟨a4, n4, k4, c4, rfl, hr12, ⟨hc4, -⟩, hb12⟩
      (obtain rfl : c4 = c3 := by rw [hc4, HC3.out])
      clear hc4
      refine hK _ _ trivial ?_
      simp only [Act.put, List.setIfInBounds_toArray, List.set_cons_zero, List.set_cons_succ]
      clear hK K
      refine Go.Pin.takeQ 9 (by simp only [List.getElem?_toArray, List.getElem?_cons_zero, List.getElem?_cons_succ]; exact rfl) (by kernel_rfl) (by kernel_rfl) (by kernel_rfl) (by rfl) (fun _ _ d _ _ h => by cases d <;> exact h) (trivial) (hSq).out (by kernel_rfl) ?_
      intro Kq hKq
      go_big_quiet_op
      go_big_quiet_on
      refine Go.Pin.takeQ 10 (by simp only [List.getElem?_toArray, List.getElem?_cons_zero, List.getElem?_cons_succ]; exact rfl) (by kernel_rfl) (by kernel_rfl) (by kernel_rfl) (by rfl) (fun _ _ d _ _ h => by cases d <;> exact h) (trivial) (hSq).out (by kernel_rfl) ?_
      intro Kq hKq
      go_big_quiet_op
      go_big_quiet_on
      refine Go.Pin.takeQ 11 (by simp only [List.getElem?_toArray, List.getElem?_cons_zero, List.getElem?_cons_succ]; exact rfl) (by kernel_rfl) (by kernel_rfl) (by kernel_rfl) (by rfl) (fun _ _ d _ _ h => by cases d <;> exact h) (trivial) (hSq).out (by kernel_rfl) ?_
      intro Kq hKq
      go_big_quiet_op
      go_big_quiet_on
      refine Go.Pin.takeQ 12 (by simp only [List.getElem?_toArray, List.getElem?_cons_zero, List.getElem?_cons_succ]; exact rfl) (by kernel_rfl) (by kernel_rfl) (by kernel_rfl) (by rfl) (fun _ _ d _ _ h => by cases d <;> exact h) (trivial) (hSq).out (by kernel_rfl) ?_
      intro Kq hKq
      go_big_quiet_op
      go_big_quiet_on
      refine Go.Pin.takeQ 13 (by simp only [List.getElem?_toArray, List.getElem?_cons_zero, List.getElem?_cons_succ]; exact rfl) (by kernel_rfl) (by kernel_rfl) (by kernel_rfl) (by rfl) (fun _ _ d _ _ h => by cases d <;> exact h) (trivial) (hSq).out (by kernel_rfl) ?_
      intro Kq hKq
      go_big_quiet_op
      go_big_quiet_on
      refine wpAnyH_done (by kernel_rfl) ?_ _
      rw [HP2.out] at hr12
      have H12 : Hid (PU gA gB W X Z w12 ∧ RdB w12 (.slice a1 n1 k1) P ∧ RdB w12 (.slice a2 n2 k2) P ∧ RdB w12 (.slice a3 n3 k3) P2 ∧ RdB w12 (.slice a4 n4 k4) P2) := ⟨H11d.out.1.below hb12, H11d.out.2.1.below hb12, H11d.out.2.2.1.below hb12, H11d.out.2.2.2.below hb12, hr12⟩
      clear hr12 hb12 hSq hRq hNq hC3 hl1 hl2
      have CC := H11.out.2.2.2.2 w12 (HF.out _ H12.out.1.lo).1
      have CS := same_true H12.out.2.2.2.1 H12.out.2.2.2.2
      go_wp2_with (first
        | (go_at_call 12; refine CC.mono ?_; rintro e w ⟨rfl, rfl⟩; clear CC)
        | (go_at_call 13; refine CS.mono ?_; rintro e w13 ⟨rfl, hb13⟩; have H13 : Hid (PU gA gB W X Z w13 ∧ RdB w13 (.slice a1 n1 k1) P ∧ RdB w13 (.slice a2 n2 k2) P) := ⟨H12.out.1.below hb13, H12.out.2.1.below hb13, H12.out.2.2.1.below hb13⟩; have CT := same_true H13.out.2.1 H13.out.2.2; clear hb13 CS)
        | (go_at_call 13; refine CT.mono ?_; rintro e w14 ⟨rfl, hb14⟩; have H14 : Hid (PU gA gB W X Z w14) := H13.out.1.below hb14; have CK := known_any HP.out HR.out w14 (HF.out _ H14.out.lo).1; clear hb14 CT)
        | (go_at_call 15; refine CK.mono ?_; rintro e w15 ⟨rfl, hb15⟩; have H15 : Hid (Below q W w15) := sub_le (HF.out _ H14.out.lo).2 hb15 (HE.out _ (HF.out _ H14.out.lo).2).2; clear hb15 CK))
      go_ret
      exact ⟨rfl, H15.out⟩
    · have f3 : ¬ far ≥ 65530 := h1
      clear hfar
      go_enter Tryd.func3, Tryd.ntmps3
      go_upto_region 3 with (fail)
      clear h1 f3
      by_cases hD : 262144 < nD
      · have b1 : (nD : Int) > 262144 := by omega
        have b2 : (262144 : Int) < (nD : Int) := by omega
        go_wp2
        go_ret
        exact ⟨rfl, HB1.out⟩
      have b1 : ¬ (nD : Int) > 262144 := by omega
      have b2 : ¬ (262144 : Int) < (nD : Int) := by omega
      by_cases hM : 262144 < nM
      · have b3 : (nM : Int) > 262144 := by omega
        have b4 : (262144 : Int) < (nM : Int) := by omega
        go_wp2
        go_ret
        exact ⟨rfl, HB1.out⟩
      have b3 : ¬ (nM : Int) > 262144 := by omega
      have b4 : ¬ (262144 : Int) < (nM : Int) := by omega
      have HS : Hid (nD ≤ 262144 ∧ nM ≤ 262144) := ⟨by omega, by omega⟩
      clear hD hM
      have C1 := roomy_any W D ad nD cd (HDr.out W HB1.out) (by have := HS.out; omega)
      obtain ⟨gA, hgA⟩ : ∃ g, W.heap.size = g := ⟨_, rfl⟩
      rw [hgA] at C1
      have HGA : Hid (W.heap.size = gA ∧ q ≤ gA) := ⟨hgA, by have := (HE.out _ HB1.out).2; omega⟩
      clear hgA
      go_upto_region 6 with (go_at_call 9; refine C1.mono ?_; rintro e w2 ⟨rfl, hbb⟩; have H2 : Hid (BB gA W gA (room D) w2) := hbb; clear hbb C1)
      have C2 := roomy_any w2 M am nM cm (HMr.out w2 (by rw [HGA.out.1]; exact H2.out.old)) (by have := HS.out; omega)
      obtain ⟨gB, hgB⟩ : ∃ g, w2.heap.size = g := ⟨_, rfl⟩
      rw [hgB] at C2
      have HGB : Hid (w2.heap.size = gB ∧ gA < gB) := ⟨hgB, by have := H2.out.lt; omega⟩
      clear hgB
      go_upto_region 7 with (go_at_call 9; refine C2.mono ?_; rintro e w3 ⟨rfl, hbb⟩; have H3 : Hid (PU gA gB W (room D) (room M) w3) := ⟨H2.out.old.trans (hbb.old.mono (by have := HGB.out; omega)), (hbb.old.block gA (by have := HGB.out; omega)).trans H2.out.row, hbb.row, HGB.out.2⟩; clear hbb C2)
      have rA := fun w => run_preF w gA nD (nD + 70) (nD + 70) (nD : Int) rfl (by omega) (by omega)
      have rB := fun w => run_preF w gB nM (nM + 70) (nM + 70) (nM : Int) rfl (by omega) (by omega)
      have HF : Hid (∀ Y, Below gA W Y → Errs ea Y ∧ Below q W Y) := fun Y hY => by
        have hb : Below q W Y := HB1.out.trans (hY.mono HGA.out.2)
        exact ⟨(HE.out _ hb).1, hb⟩
      have CP : Hid (∀ X Z Y, PU gA gB W X Z Y → X.length = nD + 70 → Z.length = nM + 70 → Calls Tryd.prog 10 #[.slice (some ⟨gA, 0, none⟩) nD (nD + 70), .slice (some ⟨gB, 0, none⟩) nM (nM + 70)] Y fun e w' => ∃ v c, e = .returned (.tuple #[v, EV ea c]) ∧ ((65535 < nM → c = 3 ∧ v = .slice none 0 0) ∧ (¬ 65535 < nM → c = 0 ∧ w'.ownsRow Y.heap.size 5 1 v (nD + 2 + nM) ((X.take nD ++ frm (Z.take nM)).map (Value.int .u8)))) ∧ Below Y.heap.size Y w') := fun X Z Y hY hX hZ => by
        have h1 : (X.take nD).length = nD := by rw [List.length_take]; omega
        have h2 : (Z.take nM).length = nM := by rw [List.length_take]; omega
        have := HP.out ea Y _ _ _ _ (HF.out Y hY.lo).1 (hY.rdA (n := nD) (cap := nD + 70) (by omega) (by omega) (by have := HS.out; omega)) (hY.rdB (n := nM) (cap := nM + 70) (by omega) (by omega) (by have := HS.out; omega)) (by rw [h1]; have := HS.out; omega) (by rw [h2]; have := HS.out; omega)
        rw [h1, h2] at this
        exact this
      have hC1 := CP.out (room D) (room M) _ (H3.out.below (Below.refl w3.heap.size w3).drew) (by rw [room_len, HL.out.1]) (by rw [room_len, HL.out.2.1])
      obtain ⟨wd, hwd⟩ : ∃ wd, w3.drew = wd := ⟨_, rfl⟩
      rw [hwd] at hC1
      have H3d : Hid (PU gA gB W (room D) (room M) wd) := by rw [← hwd]; exact H3.out.below (Below.refl _ _).drew
      refine Go.Pin.wp_region_hcls (fun _ => True) 14 (by rfl) (by kernel_rfl) trivial ?_
      intro Sq fq hNq hRq hSq
      rw [hwd]
      clear hwd
      refine Go.Pin.takeQ 0 (by simp only [List.getElem?_toArray, List.getElem?_cons_zero, List.getElem?_cons_succ]; exact rfl) (by kernel_rfl) (by kernel_rfl) (by kernel_rfl) (by rfl) (fun _ _ d _ _ h => by cases d <;> exact h) (trivial) (hSq).out (by kernel_rfl) ?_
      intro Kq hKq
      go_big_quiet_op
      go_big_quiet_on
      refine Go.Pin.takeQ 1 (by simp only [List.getElem?_toArray, List.getElem?_cons_zero, List.getElem?_cons_succ]; exact rfl) (by kernel_rfl) (by kernel_rfl) (by kernel_rfl) (by rfl) (fun _ _ d _ _ h => by cases d <;> exact h) (trivial) (hSq).out (by kernel_rfl) ?_
      intro Kq hKq
      go_big_quiet_op
      go_big_quiet_on
      refine Go.Pin.takeQ 2 (by simp only [List.getElem?_toArray, List.getElem?_cons_zero, List.getElem?_cons_succ]; exact rfl) (by kernel_rfl) (by kernel_rfl) (by kernel_rfl) (by rfl) (fun _ _ d _ _ h => by cases d <;> exact h) (trivial) (hSq).out (by kernel_rfl) ?_
      intro Kq hKq
      go_big_quiet_op
      go_big_quiet_on
      refine takeV 3 (.slice (some ⟨gA, 0, none⟩) nD (nD + 70)) (by simp only [List.getElem?_toArray, List.getElem?_cons_zero, List.getElem?_cons_succ]; exact rfl) (by kernel_rfl) (by kernel_rfl) (by kernel_rfl) (fun _ _ d _ _ h => by cases d <;> exact h) (trivial) (by kernel_rfl) (fun Yq hYq => by unfold execOp; go_simp) ?_
      simp only [Act.put, List.setIfInBounds_toArray, List.set_cons_zero, List.set_cons_succ]
      refine Go.Pin.takeQ 4 (by simp only [List.getElem?_toArray, List.getElem?_cons_zero, List.getElem?_cons_succ]; exact rfl) (by kernel_rfl) (by kernel_rfl) (by kernel_rfl) (by rfl) (fun _ _ d _ _ h => by cases d <;> exact h) (trivial) (hSq).out (by kernel_rfl) ?_
      intro Kq hKq
      go_big_quiet_op
      go_big_quiet_on
      refine Go.Pin.takeQ 5 (by simp only [List.getElem?_toArray, List.getElem?_cons_zero, List.getElem?_cons_succ]; exact rfl) (by kernel_rfl) (by kernel_rfl) (by kernel_rfl) (by rfl) (fun _ _ d _ _ h => by cases d <;> exact h) (trivial) (hSq).out (by kernel_rfl) ?_
      intro Kq hKq
      go_big_quiet_op
      go_big_quiet_on
      refine Go.Pin.takeQ 6 (by simp only [List.getElem?_toArray, List.getElem?_cons_zero, List.getElem?_cons_succ]; exact rfl) (by kernel_rfl) (by kernel_rfl) (by kernel_rfl) (by rfl) (fun _ _ d _ _ h => by cases d <;> exact h) (trivial) (hSq).out (by kernel_rfl) ?_
      intro Kq hKq
      go_big_quiet_op
      go_big_quiet_on
      refine takeV 7 (.slice (some ⟨gB, 0, none⟩) nM (nM + 70)) (by simp only [List.getElem?_toArray, List.getElem?_cons_zero, List.getElem?_cons_succ]; exact rfl) (by kernel_rfl) (by kernel_rfl) (by kernel_rfl) (fun _ _ d _ _ h => by cases d <;> exact h) (trivial) (by kernel_rfl) (fun Yq hYq => by unfold execOp; go_simp) ?_
      simp only [Act.put, List.setIfInBounds_toArray, List.set_cons_zero, List.set_cons_succ]
      refine Go.Pin.readyQ 8 (by simp only [List.getElem?_toArray, List.getElem?_cons_zero, List.getElem?_cons_succ]; exact rfl) (by kernel_rfl) (by kernel_rfl) ?_
      intro K hK
      refine wpCallV (d := some 44) (f := 10) rfl rfl (args := #[.slice (some ⟨gA, 0, none⟩) nD (nD + 70), .slice (some ⟨gB, 0, none⟩) nM (nM + 70)]) (by simp only [List.map_toArray, List.map_cons, List.map_nil]; rfl) (fun _ => rfl) (R := fun x w4 => ∃ a1 n1 k1 ev c, x = .tuple #[.slice a1 n1 k1, ev] ∧ RdB w4 (.slice a1 n1 k1) (if 65535 < nM then [] else (room D).take nD ++ frm ((room M).take nM)) ∧ ((c = if 65535 < nM then 3 else 0) ∧ CdC ea ev c ∧ ∀ k, (Value.slice a1 n1 k1).ownBlock = some k → wd.heap.size ≤ k) ∧ Below wd.heap.size wd w4) (hC1.mono (fun e w4 h => put_read h (by have := HS.out; omega) (by rw [List.length_take, room_len, HL.out.1]; omega) (by rw [List.length_take, room_len, HL.out.2.1]; omega))) ?_
      rintro x w4 ⟨a1, n1, k1, ev, c1, rfl, hr4, ⟨hc1, hcd, hk1⟩, hb4⟩
      refine hK _ _ trivial ?_
      simp only [Act.put, List.setIfInBounds_toArray, List.set_cons_zero, List.set_cons_succ]
      clear hK K
      refine Go.Pin.takeQ 9 (by simp only [List.getElem?_toArray, List.getElem?_cons_zero, List.getElem?_cons_succ]; exact rfl) (by kernel_rfl) (by kernel_rfl) (by kernel_rfl) (by rfl) (fun _ _ d _ _ h => by cases d <;> exact h) (trivial) (hSq).out (by kernel_rfl) ?_
      intro Kq hKq
      go_big_quiet_op
      go_big_quiet_on
      refine Go.Pin.takeQ 10 (by simp only [List.getElem?_toArray, List.getElem?_cons_zero, List.getElem?_cons_succ]; exact rfl) (by kernel_rfl) (by kernel_rfl) (by kernel_rfl) (by rfl) (fun _ _ d _ _ h => by cases d <;> exact h) (trivial) (hSq).out (by kernel_rfl) ?_
      intro Kq hKq
      go_big_quiet_op
      go_big_quiet_on
      refine Go.Pin.takeQ 11 (by simp only [List.getElem?_toArray, List.getElem?_cons_zero, List.getElem?_cons_succ]; exact rfl) (by kernel_rfl) (by kernel_rfl) (by kernel_rfl) (by rfl) (fun _ _ d _ _ h => by cases d <;> exact h) (trivial) (hSq).out (by kernel_rfl) ?_
      intro Kq hKq
      go_big_quiet_op
      go_big_quiet_on
      refine Go.Pin.takeQ 12 (by simp only [List.getElem?_toArray, List.getElem?_cons_zero, List.getElem?_cons_succ]; exact rfl) (by kernel_rfl) (by kernel_rfl) (by kernel_rfl) (by rfl) (fun _ _ d _ _ h => by cases d <;> exact h) (trivial) (hSq).out (by kernel_rfl) ?_
      intro Kq hKq
      go_big_quiet_op
      go_big_quiet_on
      refine Go.Pin.takeQ 13 (by simp only [List.getElem?_toArray, List.getElem?_cons_zero, List.getElem?_cons_succ]; exact rfl) (by kernel_rfl) (by kernel_rfl) (by kernel_rfl) (by rfl) (fun _ _ d _ _ h => by cases d <;> exact h) (trivial) (hSq).out (by kernel_rfl) ?_
      intro Kq hKq
      go_big_quiet_op
      go_big_quiet_on
      refine wpAnyH_done (by kernel_rfl) ?_ _
      have hrt : (room D).take nD = D := by rw [← HL.out.1]; exact room_take D
      have hrm : (room M).take nM = M := by rw [← HL.out.2.1]; exact room_take M
      rw [hrt, hrm] at hr4
      obtain ⟨P, hPe⟩ : ∃ P, (if 65535 < nM then [] else D ++ frm M) = P := ⟨_, rfl⟩
      rw [hPe] at hr4
      have H4 : Hid (PU gA gB W (room D) (room M) w4 ∧ RdB w4 (.slice a1 n1 k1) P ∧ CdC ea ev c1) := ⟨H3d.out.below hb4, hr4, hcd⟩
      have HK1 : Hid (∀ k, (Value.slice a1 n1 k1).ownBlock = some k → gB < k) := fun k hk => by have := hk1 k hk; have := H3d.out.lt; omega
      have HC1 : Hid (c1 = if 65535 < nM then 3 else 0) := hc1
      have HPE : Hid ((if 65535 < nM then [] else D ++ frm M) = P) := hPe
      clear hr4 hb4 hc1 hcd hk1 hPe hrt hrm hSq hRq hNq hC1
      have CR := rput_any (HDr.out w4 (HF.out _ H4.out.1.lo).2) (HMr.out w4 (by rw [HGA.out.1]; exact H4.out.1.lo)) (by rw [HL.out.1]; have := HS.out; omega) (by rw [HL.out.2.1]; have := HS.out; omega)
      rw [HL.out.1, HL.out.2.1] at CR
      go_upto_region 9 with (go_at_call 11; refine CR.mono ?_; intro e w5 h; (obtain ⟨v, he, a2, n2, k2, c2, rfl, hr5, ⟨hc2, hk2⟩, hb5⟩ := rput_read h (by have := HS.out; omega) HL.out.1 HL.out.2.1); subst he; rw [HPE.out] at hr5; (obtain rfl : c2 = c1 := by rw [hc2, HC1.out]); have H5 : Hid (PU gA gB W (room D) (room M) w5 ∧ RdB w5 (.slice a1 n1 k1) P ∧ RdB w5 (.slice a2 n2 k2) P) := ⟨H4.out.1.below hb5, H4.out.2.1.below hb5, hr5⟩; have HK2 : Hid (∀ k, (Value.slice a2 n2 k2).ownBlock = some k → gB < k) := (fun k hk => by have := hk2 k hk; have := H4.out.1.lt; omega); clear h hr5 hc2 hk2 hb5 CR)
      have CC := H4.out.2.2 w5 (HF.out _ H5.out.1.lo).1
      have CS := same_true H5.out.2.1 H5.out.2.2
      have HST : Hid (∀ Y, PU gA gB W (room D) (room M) Y → Calls Tryd.prog 14 #[.slice (some ⟨gA, 0, none⟩) (nD + 70) (nD + 70), .slice ad nD cd] Y (fun e w' => e = .returned (.bool true) ∧ Below Y.heap.size Y w') ∧ Calls Tryd.prog 14 #[.slice (some ⟨gB, 0, none⟩) (nM + 70) (nM + 70), .slice am nM cm] Y (fun e w' => e = .returned (.bool true) ∧ Below Y.heap.size Y w')) := fun Y hY =>
        ⟨stands_any Y D _ _ nD _ _ _ (hY.fullA (by rw [room_len, HL.out.1]) (by have := HS.out; omega)) (HDr.out Y (HF.out _ hY.lo).2) (by have := HS.out; omega), stands_any Y M _ _ nM _ _ _ (hY.fullB (by rw [room_len, HL.out.2.1]) (by have := HS.out; omega)) (HMr.out Y (by rw [HGA.out.1]; exact hY.lo)) (by have := HS.out; omega)⟩
      go_upto_region 11 with (first
        | (go_at_call 12; refine CC.mono ?_; rintro e w ⟨rfl, rfl⟩; clear CC)
        | (go_at_call 13; refine CS.mono ?_; rintro e w6 ⟨rfl, hb6⟩; have H6 : Hid (PU gA gB W (room D) (room M) w6 ∧ RdB w6 (.slice a1 n1 k1) P ∧ RdB w6 (.slice a2 n2 k2) P) := ⟨H5.out.1.below hb6, H5.out.2.1.below hb6, H5.out.2.2.below hb6⟩; have CT := (HST.out w6 H6.out.1).1; clear hb6 CS)
        | (go_at_call 14; refine CT.mono ?_; rintro e w7 ⟨rfl, hb7⟩; have H7 : Hid (PU gA gB W (room D) (room M) w7 ∧ RdB w7 (.slice a1 n1 k1) P ∧ RdB w7 (.slice a2 n2 k2) P) := ⟨H6.out.1.below hb7, H6.out.2.1.below hb7, H6.out.2.2.below hb7⟩; have CU := (HST.out w7 H7.out.1).2; clear hb7 CT)
        | (go_at_call 14; refine CU.mono ?_; rintro e w8 ⟨rfl, hb8⟩; have H8 : Hid (PU gA gB W (room D) (room M) w8 ∧ RdB w8 (.slice a1 n1 k1) P ∧ RdB w8 (.slice a2 n2 k2) P) := ⟨H7.out.1.below hb8, H7.out.2.1.below hb8, H7.out.2.2.below hb8⟩; clear hb8 CU))
      by_cases hz : nD = 0 ∨ nM = 0
      · have CK := known_any HP.out HR.out w8 (HF.out _ H8.out.1.lo).1
        by_cases hz1 : nD = 0
        · have z1 : (nD : Int) = 0 := by omega
          have z2 : ((nD : Int) == 0) = true := by simpa using z1
          go_wp2_with (go_at_call 15; refine CK.mono ?_; rintro e w9 ⟨rfl, hb9⟩; have H9 : Hid (Below q W w9) := sub_le (HF.out _ H8.out.1.lo).2 hb9 (HE.out _ (HF.out _ H8.out.1.lo).2).2; clear hb9 CK)
          go_ret
          exact ⟨rfl, H9.out⟩
        · have z1 : ¬ (nD : Int) = 0 := by omega
          have z2 : ((nD : Int) == 0) = false := by simpa using z1
          have z3 : (nM : Int) = 0 := by omega
          have z4 : ((nM : Int) == 0) = true := by simpa using z3
          go_wp2_with (go_at_call 15; refine CK.mono ?_; rintro e w9 ⟨rfl, hb9⟩; have H9 : Hid (Below q W w9) := sub_le (HF.out _ H8.out.1.lo).2 hb9 (HE.out _ (HF.out _ H8.out.1.lo).2).2; clear hb9 CK)
          go_ret
          exact ⟨rfl, H9.out⟩
      have z1 : ¬ (nD : Int) = 0 := by omega
      have z2 : ((nD : Int) == 0) = false := by simpa using z1
      have z3 : ¬ (nM : Int) = 0 := by omega
      have z4 : ((nM : Int) == 0) = false := by simpa using z3
      clear hz
      go_upto_region 13 with (fail)
      have xa := H8.out.1.cA 0 (by rw [room_len]; omega)
      have xb := H8.out.1.cB 0 (by rw [room_len]; omega)
      obtain ⟨za, hza⟩ : ∃ z, (room D).getD 0 0 = z := ⟨_, rfl⟩
      obtain ⟨zb, hzb⟩ : ∃ z, (room M).getD 0 0 = z := ⟨_, rfl⟩
      rw [hza] at xa
      rw [hzb] at xb
      obtain ⟨xa1, xa2⟩ := xa
      have qa : (0 : Int) < (nD : Int) + 70 := by omega
      go_upto_region 14 with (fail)
      obtain ⟨ya, hya⟩ : ∃ y, bits BinOp.xor IntKind.u8 za 1 = y := ⟨_, rfl⟩
      have h9 := H8.out.1.setA 0 ya
      have r91 := H8.out.2.1.set0 gA 0 (.int .u8 ya) (fun k hk => by have := HK1.out k hk; have := HGB.out; omega)
      have r92 := H8.out.2.2.set0 gA 0 (.int .u8 ya) (fun k hk => by have := HK2.out k hk; have := HGB.out; omega)
      rw [hya]
      obtain ⟨w9, hw9⟩ : ∃ w9, w8.setCell ⟨gA, 0, none⟩ (.int .u8 ya) = w9 := ⟨_, rfl⟩
      rw [hw9] at h9 r91 r92 ⊢
      obtain ⟨X, hX⟩ : ∃ X, (room D).set 0 ya = X := ⟨_, rfl⟩
      rw [hX] at h9
      have hXl : X.length = nD + 70 := by rw [← hX, List.length_set, room_len, HL.out.1]
      have H9 : Hid (PU gA gB W X (room M) w9 ∧ RdB w9 (.slice a1 n1 k1) P ∧ RdB w9 (.slice a2 n2 k2) P) := ⟨h9, r91, r92⟩
      obtain ⟨xb1, xb2⟩ := h9.cB 0 (by rw [room_len]; omega)
      rw [hzb] at xb1
      have qb : (0 : Int) < (nM : Int) + 70 := by omega
      clear h9 r91 r92 hw9 hX hya xa1 xa2 hza xb
      go_upto_region 15 with (fail)
      obtain ⟨yb, hyb⟩ : ∃ y, bits BinOp.xor IntKind.u8 zb 1 = y := ⟨_, rfl⟩
      have h10 := H9.out.1.setB 0 yb
      have r101 := H9.out.2.1.set0 gB 0 (.int .u8 yb) (fun k hk => by have := HK1.out k hk; omega)
      have r102 := H9.out.2.2.set0 gB 0 (.int .u8 yb) (fun k hk => by have := HK2.out k hk; omega)
      rw [hyb]
      obtain ⟨w10, hw10⟩ : ∃ w10, w9.setCell ⟨gB, 0, none⟩ (.int .u8 yb) = w10 := ⟨_, rfl⟩
      rw [hw10] at h10 r101 r102 ⊢
      obtain ⟨Z, hZ⟩ : ∃ Z, (room M).set 0 yb = Z := ⟨_, rfl⟩
      rw [hZ] at h10
      have hZl : Z.length = nM + 70 := by rw [← hZ, List.length_set, room_len, HL.out.2.1]
      have H10 : Hid (PU gA gB W X Z w10 ∧ RdB w10 (.slice a1 n1 k1) P ∧ RdB w10 (.slice a2 n2 k2) P) := ⟨h10, r101, r102⟩
      have HXZ : Hid (X.length = nD + 70 ∧ Z.length = nM + 70) := ⟨hXl, hZl⟩
      clear h10 r101 r102 hw10 hZ hyb xb1 xb2 hzb hXl hZl
      have hC2 := CP.out X Z _ (H10.out.1.below (Below.refl w10.heap.size w10).drew) HXZ.out.1 HXZ.out.2
      obtain ⟨wd2, hwd2⟩ : ∃ wd, w10.drew = wd := ⟨_, rfl⟩
      rw [hwd2] at hC2
      have hbd2 : Below w10.heap.size w10 wd2 := by rw [← hwd2]; exact (Below.refl _ _).drew
      have H10d : Hid (PU gA gB W X Z wd2 ∧ RdB wd2 (.slice a1 n1 k1) P ∧ RdB wd2 (.slice a2 n2 k2) P) := ⟨H10.out.1.below hbd2, H10.out.2.1.below hbd2, H10.out.2.2.below hbd2⟩
      refine Go.Pin.wp_region_hcls (fun _ => True) 14 (by rfl) (by kernel_rfl) trivial ?_
      intro Sq fq hNq hRq hSq
      rw [hwd2]
      clear hwd2 hbd2
      refine Go.Pin.takeQ 0 (by simp only [List.getElem?_toArray, List.getElem?_cons_zero, List.getElem?_cons_succ]; exact rfl) (by kernel_rfl) (by kernel_rfl) (by kernel_rfl) (by rfl) (fun _ _ d _ _ h => by cases d <;> exact h) (trivial) (hSq).out (by kernel_rfl) ?_
      intro Kq hKq
      go_big_quiet_op
      go_big_quiet_on
      refine Go.Pin.takeQ 1 (by simp only [List.getElem?_toArray, List.getElem?_cons_zero, List.getElem?_cons_succ]; exact rfl) (by kernel_rfl) (by kernel_rfl) (by kernel_rfl) (by rfl) (fun _ _ d _ _ h => by cases d <;> exact h) (trivial) (hSq).out (by kernel_rfl) ?_
      intro Kq hKq
      go_big_quiet_op
      go_big_quiet_on
      refine Go.Pin.takeQ 2 (by simp only [List.getElem?_toArray, List.getElem?_cons_zero, List.getElem?_cons_succ]; exact rfl) (by kernel_rfl) (by kernel_rfl) (by kernel_rfl) (by rfl) (fun _ _ d _ _ h => by cases d <;> exact h) (trivial) (hSq).out (by kernel_rfl) ?_
      intro Kq hKq
      go_big_quiet_op
      go_big_quiet_on
      refine takeV 3 (.slice (some ⟨gA, 0, none⟩) nD (nD + 70)) (by simp only [List.getElem?_toArray, List.getElem?_cons_zero, List.getElem?_cons_succ]; exact rfl) (by kernel_rfl) (by kernel_rfl) (by kernel_rfl) (fun _ _ d _ _ h => by cases d <;> exact h) (trivial) (by kernel_rfl) (fun Yq hYq => by unfold execOp; go_simp) ?_
      simp only [Act.put, List.setIfInBounds_toArray, List.set_cons_zero, List.set_cons_succ]
      refine Go.Pin.takeQ 4 (by simp only [List.getElem?_toArray, List.getElem?_cons_zero, List.getElem?_cons_succ]; exact rfl) (by kernel_rfl) (by kernel_rfl) (by kernel_rfl) (by rfl) (fun _ _ d _ _ h => by cases d <;> exact h) (trivial) (hSq).out (by kernel_rfl) ?_
      intro Kq hKq
      go_big_quiet_op
      go_big_quiet_on
      refine Go.Pin.takeQ 5 (by simp only [List.getElem?_toArray, List.getElem?_cons_zero, List.getElem?_cons_succ]; exact rfl) (by kernel_rfl) (by kernel_rfl) (by kernel_rfl) (by rfl) (fun _ _ d _ _ h => by cases d <;> exact h) (trivial) (hSq).out (by kernel_rfl) ?_
      intro Kq hKq
      go_big_quiet_op
      go_big_quiet_on
      refine Go.Pin.takeQ 6 (by simp only [List.getElem?_toArray, List.getElem?_cons_zero, List.getElem?_cons_succ]; exact rfl) (by kernel_rfl) (by kernel_rfl) (by kernel_rfl) (by rfl) (fun _ _ d _ _ h => by cases d <;> exact h) (trivial) (hSq).out (by kernel_rfl) ?_
      intro Kq hKq
      go_big_quiet_op
      go_big_quiet_on
      refine takeV 7 (.slice (some ⟨gB, 0, none⟩) nM (nM + 70)) (by simp only [List.getElem?_toArray, List.getElem?_cons_zero, List.getElem?_cons_succ]; exact rfl) (by kernel_rfl) (by kernel_rfl) (by kernel_rfl) (fun _ _ d _ _ h => by cases d <;> exact h) (trivial) (by kernel_rfl) (fun Yq hYq => by unfold execOp; go_simp) ?_
      simp only [Act.put, List.setIfInBounds_toArray, List.set_cons_zero, List.set_cons_succ]
      refine Go.Pin.readyQ 8 (by simp only [List.getElem?_toArray, List.getElem?_cons_zero, List.getElem?_cons_succ]; exact rfl) (by kernel_rfl) (by kernel_rfl) ?_
      intro K hK
      refine wpCallV (d := some 105) (f := 10) rfl rfl (args := #[.slice (some ⟨gA, 0, none⟩) nD (nD + 70), .slice (some ⟨gB, 0, none⟩) nM (nM + 70)]) (by simp only [List.map_toArray, List.map_cons, List.map_nil]; rfl) (fun _ => rfl) (R := fun x w4 => ∃ a1 n1 k1 ev c, x = .tuple #[.slice a1 n1 k1, ev] ∧ RdB w4 (.slice a1 n1 k1) (if 65535 < nM then [] else X.take nD ++ frm (Z.take nM)) ∧ ((c = if 65535 < nM then 3 else 0) ∧ CdC ea ev c ∧ ∀ k, (Value.slice a1 n1 k1).ownBlock = some k → wd2.heap.size ≤ k) ∧ Below wd2.heap.size wd2 w4) (hC2.mono (fun e w4 h => put_read h (by have := HS.out; omega) (by rw [List.length_take, HXZ.out.1]; omega) (by rw [List.length_take, HXZ.out.2]; omega))) ?_
      rintro x w11 ⟨a3, n3, k3, ev3, c3, rfl, hr11, ⟨hc3, hcd3, -⟩, hb11⟩
      refine hK _ _ trivial ?_
      simp only [Act.put, List.setIfInBounds_toArray, List.set_cons_zero, List.set_cons_succ]
      clear hK K
      refine Go.Pin.takeQ 9 (by simp only [List.getElem?_toArray, List.getElem?_cons_zero, List.getElem?_cons_succ]; exact rfl) (by kernel_rfl) (by kernel_rfl) (by kernel_rfl) (by rfl) (fun _ _ d _ _ h => by cases d <;> exact h) (trivial) (hSq).out (by kernel_rfl) ?_
      intro Kq hKq
      go_big_quiet_op
      go_big_quiet_on
      refine Go.Pin.takeQ 10 (by simp only [List.getElem?_toArray, List.getElem?_cons_zero, List.getElem?_cons_succ]; exact rfl) (by kernel_rfl) (by kernel_rfl) (by kernel_rfl) (by rfl) (fun _ _ d _ _ h => by cases d <;> exact h) (trivial) (hSq).out (by kernel_rfl) ?_
      intro Kq hKq
      go_big_quiet_op
      go_big_quiet_on
      refine Go.Pin.takeQ 11 (by simp only [List.getElem?_toArray, List.getElem?_cons_zero, List.getElem?_cons_succ]; exact rfl) (by kernel_rfl) (by kernel_rfl) (by kernel_rfl) (by rfl) (fun _ _ d _ _ h => by cases d <;> exact h) (trivial) (hSq).out (by kernel_rfl) ?_
      intro Kq hKq
      go_big_quiet_op
      go_big_quiet_on
      refine Go.Pin.takeQ 12 (by simp only [List.getElem?_toArray, List.getElem?_cons_zero, List.getElem?_cons_succ]; exact rfl) (by kernel_rfl) (by kernel_rfl) (by kernel_rfl) (by rfl) (fun _ _ d _ _ h => by cases d <;> exact h) (trivial) (hSq).out (by kernel_rfl) ?_
      intro Kq hKq
      go_big_quiet_op
      go_big_quiet_on
      refine Go.Pin.takeQ 13 (by simp only [List.getElem?_toArray, List.getElem?_cons_zero, List.getElem?_cons_succ]; exact rfl) (by kernel_rfl) (by kernel_rfl) (by kernel_rfl) (by rfl) (fun _ _ d _ _ h => by cases d <;> exact h) (trivial) (hSq).out (by kernel_rfl) ?_
      intro Kq hKq
      go_big_quiet_op
      go_big_quiet_on
      refine wpAnyH_done (by kernel_rfl) ?_ _
      obtain ⟨P2, hP2⟩ : ∃ P, (if 65535 < nM then [] else X.take nD ++ frm (Z.take nM)) = P := ⟨_, rfl⟩
      rw [hP2] at hr11
      have H11 : Hid (PU gA gB W X Z w11 ∧ RdB w11 (.slice a1 n1 k1) P ∧ RdB w11 (.slice a2 n2 k2) P ∧ RdB w11 (.slice a3 n3 k3) P2 ∧ CdC ea ev3 c3) := ⟨H10d.out.1.below hb11, H10d.out.2.1.below hb11, H10d.out.2.2.below hb11, hr11, hcd3⟩
      have HC3 : Hid (c3 = if 65535 < nM then 3 else 0) := hc3
      have HP2 : Hid ((if 65535 < nM then [] else X.take nD ++ frm (Z.take nM)) = P2) := hP2
      clear hr11 hb11 hc3 hcd3 hP2 hSq hRq hNq hC2
      go_upto_region 16 with (fail)
      obtain ⟨wd3, hwd3⟩ : ∃ wd, w11.drew = wd := ⟨_, rfl⟩
      have hbd3 : Below w11.heap.size w11 wd3 := by rw [← hwd3]; exact (Below.refl _ _).drew
      have H11d : Hid (PU gA gB W X Z wd3 ∧ RdB wd3 (.slice a1 n1 k1) P ∧ RdB wd3 (.slice a2 n2 k2) P ∧ RdB wd3 (.slice a3 n3 k3) P2) := ⟨H11.out.1.below hbd3, H11.out.2.1.below hbd3, H11.out.2.2.1.below hbd3, H11.out.2.2.2.1.below hbd3⟩
      have hl1 : (X.take nD).length = nD := by rw [List.length_take, HXZ.out.1]; omega
      have hl2 : (Z.take nM).length = nM := by rw [List.length_take, HXZ.out.2]; omega
      have hC3 := rput_any (H11d.out.1.rdA (n := nD) (cap := nD + 70) (by rw [HXZ.out.1]; omega) (by omega) (by have := HS.out; omega)) (H11d.out.1.rdB (n := nM) (cap := nM + 70) (by rw [HXZ.out.2]; omega) (by omega) (by have := HS.out; omega)) (by rw [hl1]; have := HS.out; omega) (by rw [hl2]; have := HS.out; omega)
      rw [hl1, hl2] at hC3
      refine Go.Pin.wp_region_hcls (fun _ => True) 14 (by rfl) (by kernel_rfl) trivial ?_
      intro Sq fq hNq hRq hSq
      rw [hwd3]
      clear hwd3 hbd3
      refine Go.Pin.takeQ 0 (by simp only [List.getElem?_toArray, List.getElem?_cons_zero, List.getElem?_cons_succ]; exact rfl) (by kernel_rfl) (by kernel_rfl) (by kernel_rfl) (by rfl) (fun _ _ d _ _ h => by cases d <;> exact h) (trivial) (hSq).out (by kernel_rfl) ?_
      intro Kq hKq
      go_big_quiet_op
      go_big_quiet_on
      refine Go.Pin.takeQ 1 (by simp only [List.getElem?_toArray, List.getElem?_cons_zero, List.getElem?_cons_succ]; exact rfl) (by kernel_rfl) (by kernel_rfl) (by kernel_rfl) (by rfl) (fun _ _ d _ _ h => by cases d <;> exact h) (trivial) (hSq).out (by kernel_rfl) ?_
      intro Kq hKq
      go_big_quiet_op
      go_big_quiet_on
      refine Go.Pin.takeQ 2 (by simp only [List.getElem?_toArray, List.getElem?_cons_zero, List.getElem?_cons_succ]; exact rfl) (by kernel_rfl) (by kernel_rfl) (by kernel_rfl) (by rfl) (fun _ _ d _ _ h => by cases d <;> exact h) (trivial) (hSq).out (by kernel_rfl) ?_
      intro Kq hKq
      go_big_quiet_op
      go_big_quiet_on
      refine takeV 3 (.slice (some ⟨gA, 0, none⟩) nD (nD + 70)) (by simp only [List.getElem?_toArray, List.getElem?_cons_zero, List.getElem?_cons_succ]; exact rfl) (by kernel_rfl) (by kernel_rfl) (by kernel_rfl) (fun _ _ d _ _ h => by cases d <;> exact h) (trivial) (by kernel_rfl) (fun Yq hYq => by unfold execOp; go_simp) ?_
      simp only [Act.put, List.setIfInBounds_toArray, List.set_cons_zero, List.set_cons_succ]
      refine Go.Pin.takeQ 4 (by simp only [List.getElem?_toArray, List.getElem?_cons_zero, List.getElem?_cons_succ]; exact rfl) (by kernel_rfl) (by kernel_rfl) (by kernel_rfl) (by rfl) (fun _ _ d _ _ h => by cases d <;> exact h) (trivial) (hSq).out (by kernel_rfl) ?_
      intro Kq hKq
      go_big_quiet_op
      go_big_quiet_on
      refine Go.Pin.takeQ 5 (by simp only [List.getElem?_toArray, List.getElem?_cons_zero, List.getElem?_cons_succ]; exact rfl) (by kernel_rfl) (by kernel_rfl) (by kernel_rfl) (by rfl) (fun _ _ d _ _ h => by cases d <;> exact h) (trivial) (hSq).out (by kernel_rfl) ?_
      intro Kq hKq
      go_big_quiet_op
      go_big_quiet_on
      refine Go.Pin.takeQ 6 (by simp only [List.getElem?_toArray, List.getElem?_cons_zero, List.getElem?_cons_succ]; exact rfl) (by kernel_rfl) (by kernel_rfl) (by kernel_rfl) (by rfl) (fun _ _ d _ _ h => by cases d <;> exact h) (trivial) (hSq).out (by kernel_rfl) ?_
      intro Kq hKq
      go_big_quiet_op
      go_big_quiet_on
      refine takeV 7 (.slice (some ⟨gB, 0, none⟩) nM (nM + 70)) (by simp only [List.getElem?_toArray, List.getElem?_cons_zero, List.getElem?_cons_succ]; exact rfl) (by kernel_rfl) (by kernel_rfl) (by kernel_rfl) (fun _ _ d _ _ h => by cases d <;> exact h) (trivial) (by kernel_rfl) (fun Yq hYq => by unfold execOp; go_simp) ?_
      simp only [Act.put, List.setIfInBounds_toArray, List.set_cons_zero, List.set_cons_succ]
      refine Go.Pin.readyQ 8 (by simp only [List.getElem?_toArray, List.getElem?_cons_zero, List.getElem?_cons_succ]; exact rfl) (by kernel_rfl) (by kernel_rfl) ?_
      intro K hK
      refine wpCallV (d := some 117) (f := 11) rfl rfl (args := #[.slice (some ⟨gA, 0, none⟩) nD (nD + 70), .slice (some ⟨gB, 0, none⟩) nM (nM + 70)]) (by simp only [List.map_toArray, List.map_cons, List.map_nil]; rfl) (fun _ => rfl) (R := fun x w4 => ∃ a1 n1 k1 c, x = .tuple #[.slice a1 n1 k1, .int .i64 c] ∧ RdB w4 (.slice a1 n1 k1) (if 65535 < nM then [] else X.take nD ++ frm (Z.take nM)) ∧ ((c = if 65535 < nM then 3 else 0) ∧ ∀ k, (Value.slice a1 n1 k1).ownBlock = some k → wd3.heap.size ≤ k) ∧ Below wd3.heap.size wd3 w4) (hC3.mono (fun e w4 h => rput_read h (by have := HS.out; omega) hl1 hl2)) ?_
      rintro x w12 ⟨a4, n4, k4, c4, rfl, hr12, ⟨hc4, -⟩, hb12⟩
      (obtain rfl : c4 = c3 := by rw [hc4, HC3.out])
      clear hc4
      refine hK _ _ trivial ?_
      simp only [Act.put, List.setIfInBounds_toArray, List.set_cons_zero, List.set_cons_succ]
      clear hK K
      refine Go.Pin.takeQ 9 (by simp only [List.getElem?_toArray, List.getElem?_cons_zero, List.getElem?_cons_succ]; exact rfl) (by kernel_rfl) (by kernel_rfl) (by kernel_rfl) (by rfl) (fun _ _ d _ _ h => by cases d <;> exact h) (trivial) (hSq).out (by kernel_rfl) ?_
      intro Kq hKq
      go_big_quiet_op
      go_big_quiet_on
      refine Go.Pin.takeQ 10 (by simp only [List.getElem?_toArray, List.getElem?_cons_zero, List.getElem?_cons_succ]; exact rfl) (by kernel_rfl) (by kernel_rfl) (by kernel_rfl) (by rfl) (fun _ _ d _ _ h => by cases d <;> exact h) (trivial) (hSq).out (by kernel_rfl) ?_
      intro Kq hKq
      go_big_quiet_op
      go_big_quiet_on
      refine Go.Pin.takeQ 11 (by simp only [List.getElem?_toArray, List.getElem?_cons_zero, List.getElem?_cons_succ]; exact rfl) (by kernel_rfl) (by kernel_rfl) (by kernel_rfl) (by rfl) (fun _ _ d _ _ h => by cases d <;> exact h) (trivial) (hSq).out (by kernel_rfl) ?_
      intro Kq hKq
      go_big_quiet_op
      go_big_quiet_on
      refine Go.Pin.takeQ 12 (by simp only [List.getElem?_toArray, List.getElem?_cons_zero, List.getElem?_cons_succ]; exact rfl) (by kernel_rfl) (by kernel_rfl) (by kernel_rfl) (by rfl) (fun _ _ d _ _ h => by cases d <;> exact h) (trivial) (hSq).out (by kernel_rfl) ?_
      intro Kq hKq
      go_big_quiet_op
      go_big_quiet_on
      refine Go.Pin.takeQ 13 (by simp only [List.getElem?_toArray, List.getElem?_cons_zero, List.getElem?_cons_succ]; exact rfl) (by kernel_rfl) (by kernel_rfl) (by kernel_rfl) (by rfl) (fun _ _ d _ _ h => by cases d <;> exact h) (trivial) (hSq).out (by kernel_rfl) ?_
      intro Kq hKq
      go_big_quiet_op
      go_big_quiet_on
      refine wpAnyH_done (by kernel_rfl) ?_ _
      rw [HP2.out] at hr12
      have H12 : Hid (PU gA gB W X Z w12 ∧ RdB w12 (.slice a1 n1 k1) P ∧ RdB w12 (.slice a2 n2 k2) P ∧ RdB w12 (.slice a3 n3 k3) P2 ∧ RdB w12 (.slice a4 n4 k4) P2) := ⟨H11d.out.1.below hb12, H11d.out.2.1.below hb12, H11d.out.2.2.1.below hb12, H11d.out.2.2.2.below hb12, hr12⟩
      clear hr12 hb12 hSq hRq hNq hC3 hl1 hl2
      have CC := H11.out.2.2.2.2 w12 (HF.out _ H12.out.1.lo).1
      have CS := same_true H12.out.2.2.2.1 H12.out.2.2.2.2
      go_wp2_with (first
        | (go_at_call 12; refine CC.mono ?_; rintro e w ⟨rfl, rfl⟩; clear CC)
        | (go_at_call 13; refine CS.mono ?_; rintro e w13 ⟨rfl, hb13⟩; have H13 : Hid (PU gA gB W X Z w13 ∧ RdB w13 (.slice a1 n1 k1) P ∧ RdB w13 (.slice a2 n2 k2) P) := ⟨H12.out.1.below hb13, H12.out.2.1.below hb13, H12.out.2.2.1.below hb13⟩; have CT := same_true H13.out.2.1 H13.out.2.2; clear hb13 CS)
        | (go_at_call 13; refine CT.mono ?_; rintro e w14 ⟨rfl, hb14⟩; have H14 : Hid (PU gA gB W X Z w14) := H13.out.1.below hb14; have CK := known_any HP.out HR.out w14 (HF.out _ H14.out.lo).1; clear hb14 CT)
        | (go_at_call 15; refine CK.mono ?_; rintro e w15 ⟨rfl, hb15⟩; have H15 : Hid (Below q W w15) := sub_le (HF.out _ H14.out.lo).2 hb15 (HE.out _ (HF.out _ H14.out.lo).2).2; clear hb15 CK))
      go_ret
      exact ⟨rfl, H15.out⟩
end Go.Proofs.YtdakhiafagambaaDoor
