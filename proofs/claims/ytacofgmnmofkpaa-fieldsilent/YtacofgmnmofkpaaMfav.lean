import Derived.Deep.RegionHeld3
import Derived.Test.YtacofgmnmofkpaaMfau
import Derived.Test.YtacofgmnmofkpaaMfaf
import Derived.Test.YtacofgmnmofkpaaMfal
namespace Go.Proofs.Ytacofgmnmofkpaa
set_option linter.unusedSimpArgs false
set_option linter.unusedVariables false
open Go.ChangeShapes Go.WideShapes Go.ChangeAt Go.RowKit Go.Pin Go.Fld
theorem Ev.fresh {B : Nat} {w : World} {rv : Value} {l : List (Int × Int)} {wr : World} {bx : List (Nat × Obj)} (h : Ev B w rv l bx wr) : ∀ p ∈ bx, p.1 ≠ wr.heap.size := fun p hp => Nat.ne_of_lt (h.lt (g := p.1) (x := p.2) hp)
theorem range_below {V W : World} (h : Below W.heap.size W V) {b o : Nat} {cs : List Value} (hb : b < W.heap.size) (hr : W.rangeAt b o cs) : V.rangeAt b o cs := fun j v hv => (World.cell?_of_block (h.block b hb)).trans (hr j v hv)
theorem infoStep' {q : Stp} (h : q.ok) : (Try.prog.info? 60).map (·.size) = some q.cells.length := by
  rw [Stp.len h]; kernel_rfl
set_option maxRecDepth 100000 in
set_option maxHeartbeats 8000000 in
theorem plays_walk (v : Value) (sc : List Stp) (w : World) (h : Scr w v sc) :
    Calls Try.prog 4 #[v] w fun e w' => e = .returned (.bool true) ∧ Below w.heap.size w w' := by
  obtain ⟨a, cp, rfl, hcp, h⟩ := h
  have HSC : Hid (sc = [] ∨ ∃ b o, a = some ⟨b, o, none⟩ ∧ b < w.heap.size ∧ ∀ i q, sc[i]? = some q → w.rangeAt b (o + i * 38) q.cells ∧ q.ok) := h
  have hzb := zero_bank
  have HK : Hid (∀ w, Calls Try.prog 19 #[] w fun e w' => e = .returned (.bool true) ∧ Below w.heap.size w w') := known_any
  have hE := (ev_nil' w).new bxB
  have hF : w.heap.size < w.heap.size + 1 := by omega
  obtain ⟨W0, hW⟩ : ∃ W0, w.alloc (.cells bankZ 53) = W0 := ⟨_, rfl⟩
  rw [show w.alloc bxB = W0 from hW] at hE
  obtain ⟨g, hg⟩ : ∃ g, w.heap.size = g := ⟨_, rfl⟩
  have X0 : Hid (Ev w.heap.size w (.pointer none) [] [(g, bxB)] W0) := by rw [← hg]; exact hE
  clear h hE hF
  go_enter Try.func4, Try.ntmps4
  go_wp2_with fail
  try simp only [hg]
  refine (new_any _).mono ?_
  rintro e W1 ⟨rfl, hW1⟩
  have hN := X0.out.new bxR
  have hF := X0.out.fresh
  rw [show W0.alloc bxR = W1 from hW1.symm] at hN
  obtain ⟨gr, hgr⟩ : ∃ x, W0.heap.size = x := ⟨_, rfl⟩
  rw [hgr] at hN hF
  try simp only [hgr]
  have hM := hN.sub (by' := [(g, bxB)]) (fun p hp => List.mem_cons_of_mem _ hp)
  have hS := ev_switch hM.old hM.le (hN.row (g := gr) (x := bxR) (by simp)) (hN.ge (gr, bxR) (by simp)) hM.ge hM.at' hF
  have X1 : Hid (SB w.heap.size w (.pointer (some ⟨gr, 0, none⟩)) [] g (fun _ => [0, 0, 0, 0, 0]) (fun _ => 0) (.slice none 0 0) [] [] W1) := sb_new hS (by simp)
  clear hN hF hgr hW1 X0 hM hS hW
  go_wp2_with fail
  refine (stands_any g _ _ _ (X1.out.bn.bank num_zeros)).mono ?_
  rintro e W2 ⟨rfl, hb⟩
  have X2 : Hid (∃ lr es ns vs, lr.length ≤ 0 ∧ SB w.heap.size w (.pointer (some ⟨gr, 0, none⟩)) lr g es ns vs lr [] W2 ∧ ∀ j, j < 8 → num (es j) = ns j) := ⟨_, _, _, _, Nat.le_refl _, X1.out.below hb, num_zeros⟩
  clear hb X1
  go_wp2_with fail
  clear hzb
  go_loopw [5] (fun i w' => ∃ k : Nat, k ≤ 400 ∧ i = .int .i64 k ∧ ∃ lr es ns vs, lr.length ≤ k ∧ SB w.heap.size w (.pointer (some ⟨gr, 0, none⟩)) lr g es ns vs lr [] w' ∧ ∀ j, j < 8 → num (es j) = ns j) (fun i _ => 400 - (intOf i).toNat)
  case atStart => exact ⟨0, by omega, rfl, X2.out⟩
  case round =>
    clear X2
    obtain ⟨k, hk, rfl, hB⟩ := hrel
    have HB : Hid (∃ lr es ns vs, lr.length ≤ k ∧ SB w.heap.size w (.pointer (some ⟨gr, 0, none⟩)) lr g es ns vs lr [] wr ∧ ∀ j, j < 8 → num (es j) = ns j) := hB
    clear hB
    by_cases hgo : k < sc.length ∧ k < 400
    · obtain ⟨g1, g2⟩ := hgo
      have g2' : (k : Int) < 400 := by omega
      obtain ⟨q, hq⟩ : ∃ q, sc[k]? = some q := ⟨_, List.getElem?_eq_getElem g1⟩
      obtain ⟨b, o, rfl, hb, hall⟩ := HSC.out.resolve_left (fun e => by subst e; simp at g1)
      obtain ⟨h1, h2⟩ := hall k q hq
      obtain ⟨lr, es, ns, vs, hl, hbw, hR⟩ := HB.out
      have HRG : Hid (wr.rangeAt b (o + k * 38) q.cells) := range_below hbw.old hb h1
      have HI : Hid ((Try.prog.info? 60).map (·.size) = some q.cells.length) := infoStep' h2
      have HSTP : Hid (Calls Try.prog 17 #[.pointer (some ⟨g, 0, none⟩), .pointer (some ⟨gr, 0, none⟩), .agg q.cells.toArray] wr fun e w' => e = .returned (.tuple #[]) ∧ ∃ lr es ns vs, lr.length ≤ k + 1 ∧ SB w.heap.size w (.pointer (some ⟨gr, 0, none⟩)) lr g es ns vs lr [] w' ∧ ∀ j, j < 8 → num (es j) = ns j) := by
        refine (step_any q h2 hbw (by omega) (by omega) hR).mono ?_
        rintro e w' ⟨he, es', vs', h3, h4⟩
        exact ⟨he, _, _, _, _, by rw [List.length_append]; have := stL_len q.1; omega, h3, h4⟩
      clear hall h1 h2 hbw hl hq HB hR
      generalize q.cells = QC at *
      go_wp2_with (with_reducible refine at_list ?_; refine wpList_load_mid rfl 60 (.tmp 26) rfl b (o + k * 38) rfl QC _ HRG.out Try.underlying60 rfl HI.out ?_)
      refine HSTP.out.mono ?_
      rintro e W5 ⟨rfl, h5⟩
      obtain ⟨lr, es, ns, vs, hl, hbw, hR⟩ := h5
      obtain ⟨vr, hrec⟩ := hbw.recr
      obtain ⟨va, vc, rfl⟩ := hbw.slice
      have CT : Hid (∀ Y, Below W5.heap.size W5 Y → Calls Try.prog 13 #[.pointer (some ⟨gr, 0, none⟩)] Y fun e w' => e = .returned (.int .i64 lr.length) ∧ w' = Y) := fun Y hY => total_any _ vr lr Y (hrec.below hY).opt
      have CS : Hid (∀ Y, Below W5.heap.size W5 Y → Calls Try.prog 16 #[.pointer (some ⟨g, 0, none⟩)] Y fun e w' => e = .returned (.bool true) ∧ Below Y.heap.size Y w') := fun Y hY => stands_any g _ _ Y ((hbw.below hY).bn.bank hR)
      have CL : Hid (∀ Y, Below W5.heap.size W5 Y → Y.cell? ⟨g, 168, none⟩ = some (.slice va lr.length vc)) := fun Y hY => (hbw.below hY).bn.l
      have HS : Hid (∀ Y, Below W5.heap.size W5 Y → ∃ lr es ns vs, lr.length ≤ k + 1 ∧ SB w.heap.size w (.pointer (some ⟨gr, 0, none⟩)) lr g es ns vs lr [] Y ∧ ∀ j, j < 8 → num (es j) = ns j) := fun Y hY => ⟨_, _, _, _, hl, hbw.below hY, hR⟩
      have hln : lr.length ≤ 401 := by omega
      clear hbw hrec hl hR HSTP
      go_wp2_with fail
      refine wp_region_quiet_in (C := fun Y => Below W5.heap.size W5 Y) (by kernel_rfl) (by kernel_rfl) ((Below.refl _ _).drew) ?_
      refine wpQuiet_step (fun K hK => ?_)
      go_simp
      first | refine hK _ ?_ | refine ⟨_, fun _ _ => rfl, hK _ ?_⟩
      clear hK K
      refine wpQuiet_step (fun K hK => ?_)
      refine if_pos_mpr (by kernel_rfl) ⟨.bool true, fun Y hY => ?_, hK _ ?_⟩
      · go_simp
        exact (CS.out Y hY).mono fun e w' hh => ⟨hh.1, hY.trans (hh.2.mono hY.size)⟩
      clear hK K
      try simp only [Act.put, List.getElem_toArray, List.getElem_cons_succ, List.getElem_cons_zero, List.getElem?_toArray, List.getElem?_cons_succ, List.getElem?_cons_zero, List.setIfInBounds_toArray, List.set_cons_zero, List.set_cons_succ]
      refine wpQuiet_step (fun K hK => ?_)
      go_simp
      first | refine hK _ ?_ | refine ⟨_, fun _ _ => rfl, hK _ ?_⟩
      clear hK K
      refine wpQuiet_step (fun K hK => ?_)
      go_simp
      first | refine hK _ ?_ | refine ⟨_, fun _ _ => rfl, hK _ ?_⟩
      clear hK K
      refine wpQuiet_step (fun K hK => ?_)
      go_simp
      first | refine hK _ ?_ | refine ⟨_, fun _ _ => rfl, hK _ ?_⟩
      clear hK K
      refine wpQuiet_step (fun K hK => ?_)
      refine if_pos_mpr (by kernel_rfl) ⟨.int .i64 lr.length, fun Y hY => ?_, hK _ ?_⟩
      · go_simp
        exact (CT.out Y hY).mono fun e w' hh => ⟨hh.1, by rw [hh.2]; exact hY⟩
      clear hK K
      try simp only [Act.put, List.getElem_toArray, List.getElem_cons_succ, List.getElem_cons_zero, List.getElem?_toArray, List.getElem?_cons_succ, List.getElem?_cons_zero, List.setIfInBounds_toArray, List.set_cons_zero, List.set_cons_succ]
      refine wpQuiet_step (fun K hK => ?_)
      go_simp
      first | refine hK _ ?_ | refine ⟨_, fun _ _ => rfl, hK _ ?_⟩
      clear hK K
      refine wpQuiet_step (fun K hK => ?_)
      go_simp
      first | refine hK _ ?_ | refine ⟨_, fun _ _ => rfl, hK _ ?_⟩
      clear hK K
      refine wpQuiet_step (fun K hK => ?_)
      go_simp
      first | refine hK _ ?_ | refine ⟨_, fun _ _ => rfl, hK _ ?_⟩
      clear hK K
      refine wpQuiet_step (fun K hK => ?_)
      refine if_pos_mpr (by kernel_rfl) ⟨.slice va lr.length vc, fun Y hY => ?_, hK _ ?_⟩
      · have hc := CL.out Y hY
        go_simp
      clear hK K
      try simp only [Act.put, List.getElem_toArray, List.getElem_cons_succ, List.getElem_cons_zero, List.getElem?_toArray, List.getElem?_cons_succ, List.getElem?_cons_zero, List.setIfInBounds_toArray, List.set_cons_zero, List.set_cons_succ]
      refine wpQuiet_step (fun K hK => ?_)
      go_simp
      first | refine hK _ ?_ | refine ⟨_, fun _ _ => rfl, hK _ ?_⟩
      clear hK K
      refine wpQuiet_step (fun K hK => ?_)
      go_simp
      first | refine hK _ ?_ | refine ⟨_, fun _ _ => rfl, hK _ ?_⟩
      clear hK K
      refine wpQuiet_step (fun K hK => ?_)
      go_simp
      first | refine hK _ ?_ | refine ⟨_, fun _ _ => rfl, hK _ ?_⟩
      clear hK K
      refine wpQuiet_nil ?_
      intro W6 h6
      have H6 : Hid (∃ lr es ns vs, lr.length ≤ k + 1 ∧ SB w.heap.size w (.pointer (some ⟨gr, 0, none⟩)) lr g es ns vs lr [] W6 ∧ ∀ j, j < 8 → num (es j) = ns j) := HS.out W6 h6
      clear h6 HS CT CS CL
      go_wp2
      go_roundw
      case rel => exact ⟨k + 1, by omega, by go_num, H6.out⟩
      case measure => simp [intOf]; omega
    · have hex : ¬ k < sc.length ∨ (k < sc.length ∧ ¬ (k : Int) < 400) := by omega
      clear hgo
      obtain ⟨lr, es, ns, vs, hl, hbw, hR⟩ := HB.out
      obtain ⟨va, vc, rfl⟩ := hbw.slice
      have HW : Hid (SB w.heap.size w (.pointer (some ⟨gr, 0, none⟩)) lr g es ns (.slice va lr.length vc) lr [] wr) := hbw
      have HLN : Hid (lr.length ≤ 400) := by show lr.length ≤ 400; omega
      clear hbw hl HB hR
      rcases hex with g1 | ⟨g1, g2⟩
      all_goals (
        go_wp2_with fail
        refine wp_region_held_drew (S := fun Y => SB w.heap.size w (.pointer (some ⟨gr, 0, none⟩)) lr g es ns (.slice va lr.length vc) lr [] Y) (by kernel_rfl) HW.out.drew (fun hH => ?_)
        clear HW
        refine wpAnyH_take (i := 0) (v := .pointer (some ⟨gr, 0, none⟩)) rfl (by kernel_rfl) (by kernel_rfl) (by kernel_rfl) (fun _ _ _ h => h) (Or.inl ⟨by kernel_rfl, fun W hW => ?_⟩) hH ?_
        · go_simp
        try simp only [Act.put, List.getElem_toArray, List.getElem_cons_succ, List.getElem_cons_zero, List.getElem?_toArray, List.getElem?_cons_succ, List.getElem?_cons_zero, List.setIfInBounds_toArray, List.set_cons_zero, List.set_cons_succ]
        refine wpAnyH_take (i := 2) (v := .pointer (some ⟨g, 0, none⟩)) rfl (by kernel_rfl) (by kernel_rfl) (by kernel_rfl) (fun _ _ _ h => h) (Or.inl ⟨by kernel_rfl, fun W hW => ?_⟩) hH ?_
        · go_simp
        try simp only [Act.put, List.getElem_toArray, List.getElem_cons_succ, List.getElem_cons_zero, List.getElem?_toArray, List.getElem?_cons_succ, List.getElem?_cons_zero, List.setIfInBounds_toArray, List.set_cons_zero, List.set_cons_succ]
        refine wpAnyH_take (i := 3) (v := .pointer (some ⟨g, 0, none⟩)) rfl (by kernel_rfl) (by kernel_rfl) (by kernel_rfl) (fun _ _ _ h => h) (Or.inl ⟨by kernel_rfl, fun W hW => ?_⟩) hH ?_
        · go_simp
        try simp only [Act.put, List.getElem_toArray, List.getElem_cons_succ, List.getElem_cons_zero, List.getElem?_toArray, List.getElem?_cons_succ, List.getElem?_cons_zero, List.setIfInBounds_toArray, List.set_cons_zero, List.set_cons_succ]
        refine wpAnyH_take (i := 4) (v := .pointer (some ⟨g, 168, none⟩)) rfl (by kernel_rfl) (by kernel_rfl) (by kernel_rfl) (fun _ _ _ h => h) (Or.inl ⟨by kernel_rfl, fun W hW => ?_⟩) hH ?_
        · go_simp
        try simp only [Act.put, List.getElem_toArray, List.getElem_cons_succ, List.getElem_cons_zero, List.getElem?_toArray, List.getElem?_cons_succ, List.getElem?_cons_zero, List.setIfInBounds_toArray, List.set_cons_zero, List.set_cons_succ]
        refine wpAnyH_take (i := 5) (v := .slice va lr.length vc) rfl (by kernel_rfl) (by kernel_rfl) (by kernel_rfl) (fun _ _ _ h => h) (Or.inl ⟨by kernel_rfl, fun W hW => ?_⟩) hH ?_
        · have hc := hW.bn.l
          go_simp
        try simp only [Act.put, List.getElem_toArray, List.getElem_cons_succ, List.getElem_cons_zero, List.getElem?_toArray, List.getElem?_cons_succ, List.getElem?_cons_zero, List.setIfInBounds_toArray, List.set_cons_zero, List.set_cons_succ]
        refine wpAnyH_ready (rs := [1]) (by kernel_rfl) (by simp) (AllReadyH.cons rfl (fun K' hK => ?_) AllReadyH.nil)
        refine if_pos_mpr (by kernel_rfl) ?_
        go_simp
        obtain ⟨vr, hrec⟩ := hH.recr
        refine (tEvents_any _ vr lr (Nat.le_trans HLN.out (by decide)) _ hrec.opt).mono ?_
        rintro e V1 ⟨l1, rfl, hl1, hb⟩
        have hN := hH.below hb
        have L1 : Hid (Sl V1 l1 2 (evC lr) lr.length) := sl_of_owns hl1
        clear hb hH hl1 hrec
        go_wp2_with fail
        refine hK.out _ _ hN (fun hH => ?_)
        clear hK K'
        try simp only [Act.put, List.getElem_toArray, List.getElem_cons_succ, List.getElem_cons_zero, List.getElem?_toArray, List.getElem?_cons_succ, List.getElem?_cons_zero, List.setIfInBounds_toArray, List.set_cons_zero, List.set_cons_succ]
        clear hN
        refine wpAnyH_ready (rs := [6]) (by kernel_rfl) (by simp) (AllReadyH.cons rfl (fun K' hK => ?_) AllReadyH.nil)
        refine if_pos_mpr (by kernel_rfl) ?_
        go_simp
        refine (events_any _ _ lr lr _ L1.out (sl_of_owns hH.own) (Nat.le_trans HLN.out (by decide))).mono ?_
        rintro e V2 ⟨rfl, n2, rfl⟩
        rw [beq_self_eq_true]
        have hN := hH.below (below_drewN' (Below.refl _ _) n2)
        obtain ⟨V2, hV⟩ : ∃ W, V1.drewN n2 = W := ⟨_, rfl⟩
        rw [hV] at hN ⊢
        clear hV hH L1
        go_wp2_with fail
        refine hK.out _ _ hN (fun hH => ?_)
        clear hK K'
        try simp only [Act.put, List.getElem_toArray, List.getElem_cons_succ, List.getElem_cons_zero, List.getElem?_toArray, List.getElem?_cons_succ, List.getElem?_cons_zero, List.setIfInBounds_toArray, List.set_cons_zero, List.set_cons_succ]
        clear hN
        refine wpAnyH_take (i := 7) (v := .bool true) rfl (by kernel_rfl) (by kernel_rfl) (by kernel_rfl) (fun _ _ _ h => h) (Or.inl ⟨by kernel_rfl, fun W hW => ?_⟩) hH ?_
        · go_simp
        try simp only [Act.put, List.getElem_toArray, List.getElem_cons_succ, List.getElem_cons_zero, List.getElem?_toArray, List.getElem?_cons_succ, List.getElem?_cons_zero, List.setIfInBounds_toArray, List.set_cons_zero, List.set_cons_succ]
        refine wpAnyH_ready (rs := [8]) (by kernel_rfl) (by simp) (AllReadyH.cons rfl (fun K' hK => ?_) AllReadyH.nil)
        refine if_pos_mpr (by kernel_rfl) ?_
        go_simp
        refine (HK.out _).mono ?_
        rintro e V3 ⟨rfl, hb⟩
        have hN := hH.below hb
        clear hb hH
        go_wp2_with fail
        refine hK.out _ _ hN (fun hH => ?_)
        clear hK K'
        try simp only [Act.put, List.getElem_toArray, List.getElem_cons_succ, List.getElem_cons_zero, List.getElem?_toArray, List.getElem?_cons_succ, List.getElem?_cons_zero, List.setIfInBounds_toArray, List.set_cons_zero, List.set_cons_succ]
        clear hN
        refine wpAnyH_take (i := 9) (v := .bool true) rfl (by kernel_rfl) (by kernel_rfl) (by kernel_rfl) (fun _ _ _ h => h) (Or.inl ⟨by kernel_rfl, fun W hW => ?_⟩) hH ?_
        · go_simp
        try simp only [Act.put, List.getElem_toArray, List.getElem_cons_succ, List.getElem_cons_zero, List.getElem?_toArray, List.getElem?_cons_succ, List.getElem?_cons_zero, List.setIfInBounds_toArray, List.set_cons_zero, List.set_cons_succ]
        have XF : Hid _ := hH
        refine wpAnyH_ready (rs := [10]) (by kernel_rfl) (by simp) (AllReadyH.cons rfl (fun K' hK => ?_) AllReadyH.nil)
        refine if_pos_mpr (by kernel_rfl) ?_
        go_simp
        refine hK.out _ _ hH (fun hH => ?_)
        clear hK K'
        try simp only [Act.put, List.getElem_toArray, List.getElem_cons_succ, List.getElem_cons_zero, List.getElem?_toArray, List.getElem?_cons_succ, List.getElem?_cons_zero, List.setIfInBounds_toArray, List.set_cons_zero, List.set_cons_succ]
        refine wpAnyH_done (by kernel_rfl) ?_ _
        go_wp2
        go_ret
        exact ⟨rfl, XF.out.old⟩)
end Go.Proofs.Ytacofgmnmofkpaa
