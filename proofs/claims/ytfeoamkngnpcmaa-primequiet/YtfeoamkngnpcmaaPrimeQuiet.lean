import Derived.Test.YtfeoamkngnpcmaaPrkO
namespace Go.Proofs.Ytfeoamkngnpcmaa
set_option linter.unusedSimpArgs false
open Go.ChangeShapes Go.WideShapes Go.ChangeAt Go.RowKit Go.Pin Go.Prm
theorem infoStep' (q : Stp) (h1 : Key16 q.2.2.2.2.1) (h2 : Key17 q.2.2.2.2.2) : (Try.prog.info? 41).map (·.size) = some q.cells.length := by
  rw [show q.cells.length = 37 by simp [Stp.cells, stepL, h1.len, h2.len]]; kernel_rfl
set_option maxRecDepth 100000 in
set_option maxHeartbeats 8000000 in
theorem plays_walk (v : Value) (sc : List Stp) (w : World) (h : Scr w v sc) :
    Calls Try.prog 3 #[v] w fun e w' => e = .returned (.bool true) ∧ Below w.heap.size w w' := by
  obtain ⟨a, cp, rfl, hcp, h⟩ := h
  have HSC : Hid (sc = [] ∨ ∃ b o, a = some ⟨b, o, none⟩ ∧ b < w.heap.size ∧ ∀ i q, sc[i]? = some q → w.rangeAt b (o + i * 37) q.cells ∧ Key16 q.2.2.2.2.1 ∧ Key17 q.2.2.2.2.2) := h
  have hzb := zero_bench
  have hzs := benchZ_size
  have hzt := benchZ_set
  clear h
  go_enter Try.func3, Try.ntmps3
  go_wp2_with (fail)
  refine (new_any _).mono ?_
  rintro e w1 ⟨rfl, hw1⟩
  have hs1 := st_new w w.heap.size (Nat.le_refl _)
  have hbe : Below w.heap.size w ((w.alloc (.cells #[.slice none 0 0, .int .i64 0] 57)).alloc (.cells (benchL (.pointer (some ⟨w.heap.size, 0, none⟩))).toArray 36)) := ((Below.refl _ _).alloc (Nat.le_refl _) _).alloc (by simp) _
  rw [← hw1] at hs1 hbe
  have hsz1 : w1.heap.size = w.heap.size + 1 := by rw [hw1]; simp
  obtain ⟨R, hR⟩ : ∃ R, w.heap.size = R := ⟨_, rfl⟩
  rw [hR] at hs1 hbe hsz1 HSC
  simp only [hR]
  obtain ⟨W2, hW2⟩ : ∃ W, w1.alloc (.cells (benchL (.pointer (some ⟨R, 0, none⟩))).toArray 36) = W := ⟨_, rfl⟩
  rw [hW2] at hs1 hbe
  have H2 : Hid (Bw R (R + 1) (.pointer (some ⟨R, 0, none⟩)) (fun _ => 0) [] w W2) := ⟨_, _, _, hs1, num_zeros, hbe⟩
  clear hs1 hbe hw1
  go_wp2_with (fail)
  go_loopw [4] (fun i w' => ∃ k : Nat, k ≤ 3000 ∧ i = .int .i64 k ∧ ∃ ns l, l.length ≤ k ∧ Bw R (R + 1) (.pointer (some ⟨R, 0, none⟩)) ns l w w') (fun i _ => 3000 - (intOf i).toNat)
  case atStart => exact ⟨0, by omega, rfl, _, _, Nat.le_refl _, H2.out⟩
  case round =>
    clear H2 hW2 hsz1
    obtain ⟨k, hk, rfl, hB⟩ := hrel
    have HB : Hid (∃ ns l, l.length ≤ k ∧ Bw R (R + 1) (.pointer (some ⟨R, 0, none⟩)) ns l w wr) := hB
    clear hB
    by_cases hgo : k < sc.length ∧ k < 3000
    · obtain ⟨g1, g2⟩ := hgo
      have g2' : (k : Int) < 3000 := by omega
      obtain ⟨q, hq⟩ : ∃ q, sc[k]? = some q := ⟨_, List.getElem?_eq_getElem g1⟩
      obtain ⟨b, o, rfl, hb, hall⟩ := HSC.out.resolve_left (fun e => by subst e; simp at g1)
      obtain ⟨h1, h2, h3⟩ := hall k q hq
      obtain ⟨ns, l, hl, hbw⟩ := HB.out
      have hbel : Below R w wr := by obtain ⟨_, _, _, _, _, h⟩ := hbw; exact h
      have HRG : Hid (wr.rangeAt b (o + k * 37) q.cells) := range_below (by rw [hR]; exact hbel) (by rw [hR]; exact hb) h1
      have HI : Hid ((Try.prog.info? 41).map (·.size) = some q.cells.length) := infoStep' q h2 h3
      have HSTP : Hid (Calls Try.prog 10 #[.pointer (some ⟨R + 1, 0, none⟩), .agg q.cells.toArray] wr fun e w' => e = .returned (.bool true) ∧ ∃ ns l, l.length ≤ k + 1 ∧ Bw R (R + 1) (.pointer (some ⟨R, 0, none⟩)) ns l w w') := by
        refine (bw_step hbw q.1 q.2.1 q.2.2.1 q.2.2.2.1 h2 h3 (by omega)).mono ?_
        rintro e w' ⟨he, h'⟩
        exact ⟨he, _, _, by have := lgx_len l q.1; omega, h'⟩
      clear hall h1 h2 h3 hbw hbel hl hq HB
      generalize q.cells = QC at *
      go_wp2_with (with_reducible refine at_list ?_; refine wpList_load_mid rfl 41 (.tmp 21) rfl b (o + k * 37) rfl QC _ HRG.out Try.underlying41 rfl HI.out ?_)
      refine HSTP.out.mono ?_
      rintro e W5 ⟨rfl, h5⟩
      have H5 : Hid (∃ ns l, l.length ≤ k + 1 ∧ Bw R (R + 1) (.pointer (some ⟨R, 0, none⟩)) ns l w W5) := h5
      clear h5 HSTP
      go_wp2_with (fail)
      go_roundw
      case rel => exact ⟨k + 1, by omega, by go_num, H5.out⟩
      case measure => simp [intOf]; omega
    · have hex : ¬ k < sc.length ∨ (k < sc.length ∧ ¬ (k : Int) < 3000) := by omega
      clear hgo
      obtain ⟨ns, l, hl, hbw⟩ := HB.out
      have HEN : Hid (Calls Try.prog 11 #[.pointer (some ⟨R + 1, 0, none⟩)] wr fun e w' => e = .returned (.bool true) ∧ Below R w w') := bw_ends hbw (by omega)
      clear hbw hl HB
      rcases hex with g1 | ⟨g1, g2⟩
      all_goals (
        go_wp2_with (fail)
        refine HEN.out.mono ?_
        rintro e W8 ⟨rfl, h8⟩
        have H8 : Hid (Below R w W8) := h8
        clear h8
        go_wp2_with (fail)
        refine (known_f.out _).mono ?_
        rintro e W9 ⟨rfl, h9⟩
        have H9 : Hid (Below W8.heap.size W8 W9) := h9
        clear h9
        go_wp2
        go_ret
        refine ⟨rfl, hR ▸ H8.out.trans (H9.out.mono ?_)⟩
        have := H8.out.size
        omega)
end Go.Proofs.Ytfeoamkngnpcmaa

namespace Go.Proofs.Ytfeoamkngnpcmaa
set_option linter.unusedSimpArgs false
open Go.ChangeShapes Go.WideShapes Go.ChangeAt Go.RowKit Go.Pin Go.Prm
theorem wpList_load_mid_g {P : Program} {ops : Array Oper} {rest : List Oper} {op : Oper} {a : Act} {w : World} {Q : Exit → Act → World → Prop} (hw : Region.wanted op (yielded ops a.tmps) = true) (ty : TypeId) (x : Operand) (ho : op.op = .load ty x)
    (b o : Nat) (hx : a.eval x = .pointer (some ⟨b, o, none⟩)) (cs : List Value) (d : TypeDesc) (hc : w.rangeAt b o cs)
    (hu : P.underlying ty = some d) (hd : d.isRow = true) (hi : (P.info? ty).map (·.size) = some cs.length)
    (h : wpList P ops Q rest (a.put op.dst (.agg cs.toArray)) w) : wpList P ops Q (op :: rest) a w := by
  unfold wpList
  rw [if_pos hw]
  exact .inl (wp_load_mid ty x ho b o hx cs d hc hu hd hi h)
theorem St.grow {B g : Nat} {S T : Nat → Prop} {es : Nat → List Int} {ns : Nat → Nat} {rv : Value} {lr ll : List (Int × Int)} {vs : Value} {w w' : World} (h : St B g S es ns rv lr ll vs w) (hG : Grow T w w') (hd : ∀ k, T k → ¬ S k) : St B g S es ns rv lr ll vs w' := by
  refine ⟨h.bn.of_block (hG.block g h.bn.lt (fun e => hd g e h.hg)), owns_grow hG h.own (fun k hk e => hd k e (h.hv k hk).1), h.hg, h.hv, ?_, fun k hk => ⟨(h.hS k hk).1, Nat.lt_of_lt_of_le (h.hS k hk).2 hG.size⟩⟩
  rcases h.rc with e | ⟨R, vr, e, h1, h2⟩
  · exact .inl e
  · exact .inr ⟨R, vr, e, h1.grow hG (fun k hk e => hd k e (h2 k hk).1), h2⟩
/-- two Benches, the second one with no Recorder -/
def Tw (R : Nat) (ns : Nat → Nat) (l : List (Int × Int)) (w0 W : World) : Prop := ∃ S es vs T fs us, St R (R + 1) S es ns (.pointer (some ⟨R, 0, none⟩)) l l vs W ∧ St R (R + 2) T fs ns (.pointer none) l l us W ∧
  (∀ i, i < 8 → num (es i) = ns i) ∧ (∀ i, i < 8 → num (fs i) = ns i) ∧ (∀ k, S k → ¬ T k) ∧ Below R w0 W
/-- the first one has stepped, the second one not yet -/
def Th (R : Nat) (ns ns' : Nat → Nat) (l l' : List (Int × Int)) (w0 W : World) : Prop := ∃ S es vs T fs us, St R (R + 1) S es ns' (.pointer (some ⟨R, 0, none⟩)) l' l' vs W ∧ St R (R + 2) T fs ns (.pointer none) l l us W ∧
  (∀ i, i < 8 → num (es i) = ns' i) ∧ (∀ i, i < 8 → num (fs i) = ns i) ∧ (∀ k, S k → ¬ T k) ∧ Below R w0 W
theorem tw_one {R : Nat} {ns : Nat → Nat} {l : List (Int × Int)} {w0 W : World} (h : Tw R ns l w0 W) (q : Stp) (h1 : Key16 q.2.2.2.2.1) (h2 : Key17 q.2.2.2.2.2) (hl : l.length ≤ 100000) :
    Calls Try.prog 10 #[.pointer (some ⟨R + 1, 0, none⟩), .agg q.cells.toArray] W fun e w' => e = .returned (.bool true) ∧ Th R ns (nsx ns q.1 q.2.1 q.2.2.1 q.2.2.2.1 q.2.2.2.2.1 q.2.2.2.2.2) l (lgx l q.1) w0 w' := by
  obtain ⟨S, es, vs, T, fs, us, a1, a2, a3, a4, a5, a6⟩ := h
  refine (step_any R (R + 1) S es ns _ l vs q.1 q.2.1 q.2.2.1 q.2.2.2.1 _ _ h1 h2 W a1 a3 hl).mono ?_
  rintro e w' ⟨he, S', es', vs', k1, k2, k3, k4⟩
  refine ⟨he, S', es', vs', T, fs, us, k1, a2.grow k3 a5, k2, a4, fun k hk ht => ?_, a6.trans (k3.below (fun k hk => (a1.hS k hk).1) ?_)⟩
  · rcases k4 k hk with h | h
    · exact a5 k h ht
    · have := (a2.hS k ht).2; omega
  · have := a1.hS _ a1.hg; omega
theorem th_two {R : Nat} {ns : Nat → Nat} {l : List (Int × Int)} {w0 W : World} (q : Stp) (h : Th R ns (nsx ns q.1 q.2.1 q.2.2.1 q.2.2.2.1 q.2.2.2.2.1 q.2.2.2.2.2) l (lgx l q.1) w0 W) (h1 : Key16 q.2.2.2.2.1) (h2 : Key17 q.2.2.2.2.2) (hl : l.length ≤ 100000) :
    Calls Try.prog 10 #[.pointer (some ⟨R + 2, 0, none⟩), .agg q.cells.toArray] W fun e w' => e = .returned (.bool true) ∧ Tw R (nsx ns q.1 q.2.1 q.2.2.1 q.2.2.2.1 q.2.2.2.2.1 q.2.2.2.2.2) (lgx l q.1) w0 w' := by
  obtain ⟨S, es, vs, T, fs, us, a1, a2, a3, a4, a5, a6⟩ := h
  refine (step_any R (R + 2) T fs ns _ l us q.1 q.2.1 q.2.2.1 q.2.2.2.1 _ _ h1 h2 W a2 a4 hl).mono ?_
  rintro e w' ⟨he, T', fs', us', k1, k2, k3, k4⟩
  refine ⟨he, S, es, vs, T', fs', us', a1.grow k3 (fun k ht hs => a5 k hs ht), k1, a3, k2, fun k hk ht => ?_, a6.trans (k3.below (fun k hk => (a2.hS k hk).1) ?_)⟩
  · rcases k4 k ht with h | h
    · exact a5 k hk h
    · have := (a1.hS k hk).2; omega
  · have := a2.hS _ a2.hg; omega
theorem tw_new (w : World) : Tw w.heap.size (fun _ => 0) [] w (((w.alloc (.cells #[.slice none 0 0, .int .i64 0] 57)).alloc (.cells (benchL (.pointer (some ⟨w.heap.size, 0, none⟩))).toArray 36)).alloc (.cells benchZ 36)) := by
  have h1 := st_new w w.heap.size (Nat.le_refl _)
  have h2 := st_nil ((w.alloc (.cells #[.slice none 0 0, .int .i64 0] 57)).alloc (.cells (benchL (.pointer (some ⟨w.heap.size, 0, none⟩))).toArray 36)) w.heap.size (by simp; omega)
  simp only [World.size_alloc] at h2
  refine ⟨_, _, _, _, _, _, h1.below ((Below.refl _ _).alloc (Nat.le_refl _) _), h2, num_zeros, num_zeros, fun k hk ht => ?_, (((Below.refl _ _).alloc (Nat.le_refl _) _).alloc (by simp) _).alloc (by simp; omega) _⟩
  have ht' : k = w.heap.size + 1 + 1 := ht
  rcases hk with hk | hk <;> omega
set_option maxRecDepth 100000 in
set_option maxHeartbeats 8000000 in
theorem quiet_walk (v : Value) (sc : List Stp) (w : World) (h : Scr w v sc) :
    Calls Try.prog 5 #[v] w fun e w' => e = .returned (.bool true) ∧ Below w.heap.size w w' := by
  obtain ⟨a, cp, rfl, hcp, h⟩ := h
  have HSC : Hid (sc = [] ∨ ∃ b o, a = some ⟨b, o, none⟩ ∧ b < w.heap.size ∧ ∀ i q, sc[i]? = some q → w.rangeAt b (o + i * 37) q.cells ∧ Key16 q.2.2.2.2.1 ∧ Key17 q.2.2.2.2.2) := h
  have hzb := zero_bench
  have hzs := benchZ_size
  have hzt := benchZ_set
  clear h
  go_enter Try.func5, Try.ntmps5
  go_wp2_with (fail)
  refine (new_any _).mono ?_
  rintro e w1 ⟨rfl, hw1⟩
  have hs1 := tw_new w
  rw [← hw1] at hs1
  have hsz1 : w1.heap.size = w.heap.size + 1 := by rw [hw1]; simp
  obtain ⟨R, hR⟩ : ∃ R, w.heap.size = R := ⟨_, rfl⟩
  rw [hR] at hs1 hsz1 HSC
  simp only [hR]
  obtain ⟨W2, hW2⟩ : ∃ W, (w1.alloc (.cells (benchL (.pointer (some ⟨R, 0, none⟩))).toArray 36)).alloc (.cells benchZ 36) = W := ⟨_, rfl⟩
  rw [hW2] at hs1
  have H2 : Hid (Tw R (fun _ => 0) [] w W2) := hs1
  clear hs1 hw1
  go_wp2_with (fail)
  go_loopw [5] (fun i w' => ∃ k : Nat, k ≤ 3000 ∧ i = .int .i64 k ∧ ∃ ns l, l.length ≤ k ∧ Tw R ns l w w') (fun i _ => 3000 - (intOf i).toNat)
  case atStart => exact ⟨0, by omega, rfl, _, _, Nat.le_refl _, H2.out⟩
  case round =>
    clear H2 hW2 hsz1
    obtain ⟨k, hk, rfl, hB⟩ := hrel
    have HB : Hid (∃ ns l, l.length ≤ k ∧ Tw R ns l w wr) := hB
    clear hB
    by_cases hgo : k < sc.length ∧ k < 3000
    · obtain ⟨g1, g2⟩ := hgo
      have g2' : (k : Int) < 3000 := by omega
      obtain ⟨q, hq⟩ : ∃ q, sc[k]? = some q := ⟨_, List.getElem?_eq_getElem g1⟩
      obtain ⟨b, o, rfl, hb, hall⟩ := HSC.out.resolve_left (fun e => by subst e; simp at g1)
      obtain ⟨h1, h2, h3⟩ := hall k q hq
      obtain ⟨ns, l, hl, htw⟩ := HB.out
      have HRG : Hid (∀ W, Below R w W → W.rangeAt b (o + k * 37) q.cells) := fun W hW => range_below (by rw [hR]; exact hW) (by rw [hR]; exact hb) h1
      have hbel : Below R w wr := by obtain ⟨_, _, _, _, _, _, _, _, _, _, _, h⟩ := htw; exact h
      have HBE : Hid (Below R w wr) := hbel
      have HI : Hid ((Try.prog.info? 41).map (·.size) = some q.cells.length) := infoStep' q h2 h3
      have HS1 : Hid (Calls Try.prog 10 #[.pointer (some ⟨R + 1, 0, none⟩), .agg q.cells.toArray] wr fun e w' => e = .returned (.bool true) ∧ Th R ns (nsx ns q.1 q.2.1 q.2.2.1 q.2.2.2.1 q.2.2.2.2.1 q.2.2.2.2.2) l (lgx l q.1) w w') := tw_one htw q h2 h3 (by omega)
      have HS2 : Hid (∀ W, Th R ns (nsx ns q.1 q.2.1 q.2.2.1 q.2.2.2.1 q.2.2.2.2.1 q.2.2.2.2.2) l (lgx l q.1) w W → Calls Try.prog 10 #[.pointer (some ⟨R + 2, 0, none⟩), .agg q.cells.toArray] W fun e w' => e = .returned (.bool true) ∧ ∃ ns l, l.length ≤ k + 1 ∧ Tw R ns l w w') := fun W hW => by
        refine (th_two q hW h2 h3 (by omega)).mono ?_
        rintro e w' ⟨he, h'⟩
        exact ⟨he, _, _, by have := lgx_len l q.1; omega, h'⟩
      have HTB : Hid (∀ W, Th R ns (nsx ns q.1 q.2.1 q.2.2.1 q.2.2.2.1 q.2.2.2.2.1 q.2.2.2.2.2) l (lgx l q.1) w W → Below R w W) := fun W hW => by obtain ⟨_, _, _, _, _, _, _, _, _, _, _, h⟩ := hW; exact h
      clear hall h1 h2 h3 htw hbel hq HB
      generalize Th R ns (nsx ns q.1 q.2.1 q.2.2.1 q.2.2.2.1 q.2.2.2.2.1 q.2.2.2.2.2) l (lgx l q.1) w = TH at *
      generalize q.cells = QC at *
      clear hl
      go_wp2_with (with_reducible refine at_list ?_; refine wpList_load_mid rfl 41 (.tmp 25) rfl b (o + k * 37) rfl QC _ (HRG.out wr HBE.out) Try.underlying41 rfl HI.out ?_)
      refine HS1.out.mono ?_
      rintro e W5 ⟨rfl, h5⟩
      have H5 : Hid (TH W5) := h5
      have HB5 : Hid (Below R w W5) := HTB.out W5 h5
      clear h5 HS1
      go_wp2_with (with_reducible refine at_list ?_; refine wpList_load_mid_g (by kernel_rfl) 41 (.tmp 33) rfl b (o + k * 37) rfl QC _ (HRG.out W5 HB5.out) Try.underlying41 rfl HI.out ?_)
      refine (HS2.out W5 H5.out).mono ?_
      rintro e W6 ⟨rfl, h6⟩
      have H6 : Hid (∃ ns l, l.length ≤ k + 1 ∧ Tw R ns l w W6) := h6
      clear h6 H5 HS2 HTB
      go_wp2_with (fail)
      go_roundw
      case rel => exact ⟨k + 1, by omega, by go_num, H6.out⟩
      case measure => simp [intOf]; omega
    · have hex : ¬ k < sc.length ∨ (k < sc.length ∧ ¬ (k : Int) < 3000) := by omega
      clear hgo
      obtain ⟨V1, hV1⟩ : ∃ V, V = wr := ⟨_, rfl⟩
      subst hV1
      obtain ⟨ns, l, hl, S, es, vs, T, fs, us, a1, a2, a3, a4, a5, a6⟩ := HB.out
      have A1 : Hid (St R (R + 1) S es ns (.pointer (some ⟨R, 0, none⟩)) l l vs V1) := a1
      have A2 : Hid (St R (R + 2) T fs ns (.pointer none) l l us V1) := a2
      have A3 : Hid (∀ i, i < 8 → num (es i) = ns i) := a3
      have A4 : Hid (∀ i, i < 8 → num (fs i) = ns i) := a4
      have hRV : R ≤ V1.heap.size := by have := a1.hS _ a1.hg; omega
      have HEN : Hid (∀ W, Below V1.heap.size V1 W → Calls Try.prog 11 #[.pointer (some ⟨R + 1, 0, none⟩)] W fun e w' => e = .returned (.bool true) ∧ Below R w w') := fun W hW => bw_ends ⟨S, es, vs, a1.below hW, a3, a6.trans (hW.mono hRV)⟩ (by omega)
      clear a1 a2 a3 a4 a5 a6 hl HB hRV
      rcases hex with g1 | ⟨g1, g2⟩
      all_goals (
        go_wp2_with (fail)
        go_loopw [6] (fun i w' => ∃ j : Nat, j ≤ 8 ∧ i = .int .i64 j ∧ Below V1.heap.size V1 w') (fun i _ => 8 - (intOf i).toNat)
        case atStart => exact ⟨0, by omega, rfl, Below.refl _ _⟩
        case round =>
          obtain ⟨i, hi, rfl, hp⟩ := hrel
          have HP : Hid (Below V1.heap.size V1 wr) := hp
          clear hp
          by_cases hi8 : i < 8
          · have HX : Hid (∀ V9 : World, Below V1.heap.size V1 V9 → V9.rangeAt (R + 1) (i * 5) ((es i).map (Value.int .u64))) := fun V9 hV => (A1.out.below hV).bn.rangeE hi8
            have HY : Hid (∀ V9 : World, Below V1.heap.size V1 V9 → V9.rangeAt (R + 2) (i * 5) ((fs i).map (Value.int .u64))) := fun V9 hV => (A2.out.below hV).bn.rangeE hi8
            have HLX : Hid ((es i).length = 5) := (A1.out.bn.lim i hi8).len
            have HLY : Hid ((fs i).length = 5) := (A2.out.bn.lim i hi8).len
            obtain ⟨R9, hR9⟩ : ∃ R, bts (ns i) = R := ⟨_, rfl⟩
            have C1 : Hid (∀ w, Calls Try.prog 13 #[.agg (VI .u64 (es i))] w fun e w' => e = .returned (.agg (VI .u8 R9)) ∧ Below w.heap.size w w') := fun w => bytes_is (A1.out.bn.lim i hi8) (by rw [A3.out i hi8]; exact hR9) w
            have C2 : Hid (∀ w, Calls Try.prog 13 #[.agg (VI .u64 (fs i))] w fun e w' => e = .returned (.agg (VI .u8 R9)) ∧ Below w.heap.size w w') := fun w => bytes_is (A2.out.bn.lim i hi8) (by rw [A4.out i hi8]; exact hR9) w
            have hq : ∀ w, (Op.equalIn 10000 39 (.agg (VI .u8 R9)) (.agg (VI .u8 R9))).run Try.prog w = .ok true w := fun w => eq17t (by rw [← hR9]; exact bts_len _) w
            clear hR9
            have hi8' : (i : Int) < 8 := by omega
            generalize es i = X at *
            generalize fs i = Y at *
            go_wp2_with (fail)
            refine wp_region_quiet_in (C := fun Y => Below V1.heap.size V1 Y) (by kernel_rfl) (by kernel_rfl) (HP.out.drew) ?_
            refine wpQuiet_step (fun K hK => ?_)
            go_simp
            first | refine hK _ ?_ | refine ⟨_, fun _ _ => rfl, hK _ ?_⟩
            clear hK K
            refine wpQuiet_step (fun K hK => ?_)
            go_simp
            first | refine hK _ ?_ | refine ⟨_, fun _ _ => rfl, hK _ ?_⟩
            clear hK K
            refine wpQuiet_step (fun K hK => ?_)
            go_simp
            first | refine hK _ ?_ | refine ⟨_, fun _ _ => rfl, hK _ ?_⟩
            clear hK K
            refine wpQuiet_step (fun K hK => ?_)
            go_simp
            first | refine hK _ ?_ | refine ⟨_, fun _ _ => rfl, hK _ ?_⟩
            clear hK K
            refine wpQuiet_step (fun K hK => ?_)
            go_simp
            first | refine hK _ ?_ | refine ⟨_, fun _ _ => rfl, hK _ ?_⟩
            clear hK K
            refine wpQuiet_step (fun K hK => ?_)
            refine if_pos_mpr (by kernel_rfl) ⟨.agg (VI .u64 X), fun V9 hV => quietAt_load_midV 29 (.tmp 46) rfl (R + 1) (i * 5) (by kernel_rfl) .u64 X _ (HX.out V9 hV) Try.underlying29 rfl (by rw [HLX.out]; exact infoE), hK _ ?_⟩
            clear hK K
            try simp only [Act.put, List.getElem_toArray, List.getElem_cons_succ, List.getElem_cons_zero, List.getElem?_toArray, List.getElem?_cons_succ, List.getElem?_cons_zero, List.setIfInBounds_toArray, List.set_cons_zero, List.set_cons_succ]
            refine wpQuiet_step (fun K hK => ?_)
            refine if_pos_mpr (by kernel_rfl) ⟨.agg (VI .u8 R9), fun V9 hY => ?_, hK _ ?_⟩
            · go_simp
              exact (C1.out V9).mono fun e w' hh => ⟨hh.1, hY.trans (hh.2.mono hY.size)⟩
            clear hK K
            try simp only [Act.put, List.setIfInBounds_toArray, List.set_cons_zero, List.set_cons_succ]
            refine wpQuiet_step (fun K hK => ?_)
            go_simp
            first | refine hK _ ?_ | refine ⟨_, fun _ _ => rfl, hK _ ?_⟩
            clear hK K
            refine wpQuiet_step (fun K hK => ?_)
            go_simp
            first | refine hK _ ?_ | refine ⟨_, fun _ _ => rfl, hK _ ?_⟩
            clear hK K
            refine wpQuiet_step (fun K hK => ?_)
            go_simp
            first | refine hK _ ?_ | refine ⟨_, fun _ _ => rfl, hK _ ?_⟩
            clear hK K
            refine wpQuiet_step (fun K hK => ?_)
            go_simp
            first | refine hK _ ?_ | refine ⟨_, fun _ _ => rfl, hK _ ?_⟩
            clear hK K
            refine wpQuiet_step (fun K hK => ?_)
            go_simp
            first | refine hK _ ?_ | refine ⟨_, fun _ _ => rfl, hK _ ?_⟩
            clear hK K
            refine wpQuiet_step (fun K hK => ?_)
            refine if_pos_mpr (by kernel_rfl) ⟨.agg (VI .u64 Y), fun V9 hV => quietAt_load_midV 29 (.tmp 53) rfl (R + 2) (i * 5) (by kernel_rfl) .u64 Y _ (HY.out V9 hV) Try.underlying29 rfl (by rw [HLY.out]; exact infoE), hK _ ?_⟩
            clear hK K
            try simp only [Act.put, List.getElem_toArray, List.getElem_cons_succ, List.getElem_cons_zero, List.getElem?_toArray, List.getElem?_cons_succ, List.getElem?_cons_zero, List.setIfInBounds_toArray, List.set_cons_zero, List.set_cons_succ]
            refine wpQuiet_step (fun K hK => ?_)
            refine if_pos_mpr (by kernel_rfl) ⟨.agg (VI .u8 R9), fun V9 hY => ?_, hK _ ?_⟩
            · go_simp
              exact (C2.out V9).mono fun e w' hh => ⟨hh.1, hY.trans (hh.2.mono hY.size)⟩
            clear hK K
            try simp only [Act.put, List.setIfInBounds_toArray, List.set_cons_zero, List.set_cons_succ]
            refine wpQuiet_step (fun K hK => ?_)
            go_simp
            first | refine hK _ ?_ | refine ⟨_, fun _ _ => rfl, hK _ ?_⟩
            clear hK K
            refine wpQuiet_nil ?_
            intro wq hq'
            have HQ : Hid (Below V1.heap.size V1 wq) := hq'
            clear hq'
            go_wp2_with (fail)
            go_roundw
            case rel => exact ⟨i + 1, by omega, by go_num, HQ.out⟩
            case measure => simp [intOf]; omega
          · have hi' : i = 8 := by omega
            subst hi'
            clear hi8 hi
            rw [show ((8 : Nat) : Int) = 8 from rfl]
            go_wp2_with (fail)
            refine (HEN.out _ HP.out).mono ?_
            rintro e W8 ⟨rfl, h8⟩
            have H8 : Hid (Below R w W8) := h8
            clear h8
            go_wp2_with (fail)
            refine (known_f.out _).mono ?_
            rintro e W9 ⟨rfl, h9⟩
            have H9 : Hid (Below W8.heap.size W8 W9) := h9
            clear h9
            go_wp2
            go_ret
            refine ⟨rfl, hR ▸ H8.out.trans (H9.out.mono ?_)⟩
            have := H8.out.size
            omega)
end Go.Proofs.Ytfeoamkngnpcmaa

namespace Go.Proofs.Ytfeoamkngnpcmaa
set_option linter.unusedSimpArgs false
set_option linter.unusedVariables false
open Go.ChangeShapes Go.WideShapes Go.ChangeAt Go.RowKit Go.Pin Go.Prm

set_option maxRecDepth 100000 in
theorem quiet_lifted (os : Os) (started : os.Started) (H : Type) (enc : TypeId × Value → H) :
    ReturnsInHanded {} Try.checked os 5 .any (Rows.primeQuietSpec.pre6 enc Try.prog Try.f5 Rows.primeQuietRow.domain false) (Rows.primeQuietSpec.post enc Try.prog Try.f5 false true false false) := by
  refine returnsInHanded_of_change_sized (C := Try.checked) own started (by kernel_rfl) Try.func5
    (ChangeSpec.witness6 (enc := enc) (C := Try.checked) false ⟨#[], #[.slice none 0 0], []⟩ 8 (by kernel_rfl) (by kernel_rfl) (by kernel_rfl) (by kernel_rfl)) ?_
  intro W base args ds gs before hval0 hW hcnd hsz0 _
  clear hsz0
  have hval : ∀ (j : Nat) t v, Try.f5.params[j]? = some t → args[j]? = some v → Value.okWide Try.prog W .any base t v := hval0
  have hW' := hW
  obtain ⟨p, q, hA0, hV, rfl, hfz, hnd⟩ := hW
  have hA : DataW.TrodAll enc Try.prog W 0 (fun _ => true) true Try.f5.params.toList args.toList ds p := hA0
  rw [Try.params5] at hA hval
  have hAll := fun W' (hb : Below W.heap.size W W') => trodAll_below laidOut hb _ _ _ _ (by kernel_rfl) hA
  obtain ⟨v0, vs0, d0, ds0, p0, q0, hargs, rfl, rfl, h0, r0⟩ := trodAll_cons hA
  obtain ⟨rfl, rfl, rfl⟩ := trodAll_nil r0
  obtain rfl : args = #[v0] := by cases args; simp_all
  obtain ⟨rfl, rfl⟩ := trodVars_none hV
  obtain ⟨a0, len0, cap0, rfl⟩ := okWide_slice Try.underlying22 (hval 0 22 v0 rfl rfl)
  obtain ⟨z0, rfl, w0⟩ := open_script h0
  clear hA0 hval0
  refine (quiet_walk _ z0 W w0).mono fun e W' ⟨he, bel⟩ => ?_
  subst he
  exact ⟨_, rfl, _, _, _, [], _, [], hW', trodAll_mk1 (shut_bool Try.underlying4 _), hAll W' bel, rfl, bel.frame _, fun h => by cases h⟩

theorem quiet_proved : Rows.PrimeQuietSaid :=
  OpenClaim.holds_of_wide 5 Try.f5 rfl rfl rfl rfl rfl rfl rfl ⟨rfl, rfl, rfl, rfl, rfl⟩ rfl rfl rfl rfl rfl (by kernel_rfl) Try.func5 (by kernel_rfl)
    (of_decide_eq_true (by kernel_rfl)) (by unfold Func.isWrapper; first | (rw [if_pos (by decide +kernel)]; kernel_rfl) | (rw [if_neg (by decide +kernel)]; exact ⟨rfl, rfl⟩))
    (fun os started H enc _ => quiet_lifted os started H enc)
end Go.Proofs.Ytfeoamkngnpcmaa
