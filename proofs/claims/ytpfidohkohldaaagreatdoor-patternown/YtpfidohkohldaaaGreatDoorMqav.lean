import Derived.Test.YtpfidohkohldaaaGreatDoorMqat
import Derived.Test.YtpfidohkohldaaaGreatDoorMqau
import Derived.Test.YtpfidohkohldaaaGreatDoorMqam
namespace Go.Proofs.YtpfidohkohldaaaGreatDoor
set_option linter.unusedSimpArgs false
set_option linter.unusedVariables false
set_option maxRecDepth 100000
open Go.ChangeShapes Go.WideShapes Go.ChangeAt Go.RowKit Go.Pin Go.Pat Go.Deep
/-- slices.Clone of numbers -/
theorem clone_ints (v : Value) (C : List Int) (w : World) (h : RdN w v C) (hC : C.length ≤ 1000) :
    Calls Tryz.prog 50 #[v] w fun e w' => ∃ v', e = .returned v' ∧ w'.ownsRow w.heap.size 3 1 v' C.length (C.map (Value.int .i64)) ∧ Below w.heap.size w w' := by
  obtain ⟨a, cap, rfl, ⟨hc1, hc2⟩, _, h3⟩ := h
  cases a with
  | none =>
    have h0 := hc2 rfl
    obtain rfl : C = [] := List.length_eq_zero_iff.1 (by omega)
    refine (Tryz.slices_Clone_int_nil _ _ w).mono ?_
    rintro e w' ⟨rfl, rfl⟩
    exact ⟨_, rfl, ⟨by simp, .inl ⟨rfl, rfl⟩⟩, Below.refl _ _⟩
  | some ad =>
    rcases h3 with h3 | ⟨b, o, e, hr⟩
    · subst h3
      refine (Tryz.slices_Clone_int_zero ad cap w).mono ?_
      rintro e w' ⟨v', rfl, h1, _, h2⟩
      exact ⟨v', rfl, h1, h2⟩
    · injection e with e
      subst e
      refine (Tryz.slices_Clone_int b o C.length cap C w (Nat.le_refl _) (by omega) (fun j hj => ?_)).mono ?_
      · refine hr j _ ?_
        simp [List.getD, hj]
      · rintro e w' ⟨v', rfl, h1, _, h2⟩
        rw [List.take_length] at h1
        exact ⟨v', rfl, h1, h2⟩
theorem lvc_get (l : List Lv) {j : Nat} {u : Value} (h : (lvc l)[j]? = some u) : j / 2 < l.length ∧ u = if j % 2 = 0 then .int .i64 (l.getD (j / 2) (0, undef, [])).1 else (l.getD (j / 2) (0, undef, [])).2.1 := by
  have hj : j < l.length * 2 := by
    have := (List.getElem?_eq_some_iff.1 h).1
    rwa [lvc_length] at this
  have h2 := lvc_at l (j / 2) (by omega)
  refine ⟨by omega, ?_⟩
  by_cases hm : j % 2 = 0
  · rw [if_pos hm]
    have : j / 2 * 2 = j := by omega
    rw [this] at h2
    rw [h2.1] at h
    injection h with h
    exact h.symm
  · rw [if_neg hm]
    have : j / 2 * 2 + 1 = j := by omega
    rw [this] at h2
    rw [h2.2] at h
    injection h with h
    exact h.symm
/-- slices.Clone of lines -/
theorem clone_lines (v : Value) (L : List Ln) (W w : World) (h : RdL W v L) (hB : Below W.heap.size W w) (h0 : 0 < L.length) (hL : L.length ≤ 1000) :
    Calls Tryz.prog 51 #[v] w fun e w' => ∃ (v' : Value) (fs : List Lv), e = .returned v' ∧ lvl fs = L ∧ (∀ f ∈ fs, RdN W f.2.1 f.2.2) ∧ EY w.heap.size [] fs 0 v' w' ∧ Below w.heap.size w w' := by
  obtain ⟨a, cap, rfl, hc, _, h3⟩ := h
  obtain ⟨b, o, _, rfl, hc0, _⟩ := h3 0 h0
  have hbk : w.heap[b]? = W.heap[b]? := hB.block b (World.block_lt_of_cell? W _ hc0)
  have h3' : ∀ j, j < L.length → ∃ u, W.cell? ⟨b, o + j * 2, none⟩ = some (.int .i64 (L.getD j (0, [])).1) ∧ W.cell? ⟨b, o + j * 2 + 1, none⟩ = some u ∧ RdN W u (L.getD j (0, [])).2 := fun j hj => by
    obtain ⟨b', o', u, e, g1, g2, g3⟩ := h3 j hj
    injection e with e
    injection e with e1 e2
    subst e1 e2
    exact ⟨u, g1, g2, g3⟩
  obtain ⟨fs, hfs⟩ : ∃ fs : List Lv, fs = (List.range L.length).map fun j => ((L.getD j (0, [])).1, (W.cell? ⟨b, o + j * 2 + 1, none⟩).getD undef, (L.getD j (0, [])).2) := ⟨_, rfl⟩
  have hlen : fs.length = L.length := by rw [hfs]; simp
  have hat : ∀ j, j < L.length → fs.getD j (0, undef, []) = ((L.getD j (0, [])).1, (W.cell? ⟨b, o + j * 2 + 1, none⟩).getD undef, (L.getD j (0, [])).2) := fun j hj => by
    rw [hfs]; simp [List.getD, hj]
  have hlv : lvl fs = L := by
    apply List.ext_getElem
    · simp [lvl, hlen]
    · intro j h1 h2
      simp [lvl, hfs, List.getD, h2]
  have hrd : ∀ f ∈ fs, RdN W f.2.1 f.2.2 := fun f hf => by
    rw [hfs] at hf
    obtain ⟨j, hj, rfl⟩ := List.mem_map.1 hf
    obtain ⟨u, _, g2, g3⟩ := h3' j (List.mem_range.1 hj)
    simp only [g2, Option.getD_some]
    exact g3
  have hcell : ∀ j u, (lvc fs)[j]? = some u → w.cell? ⟨b, o + j, none⟩ = some u := fun j u hu => by
    obtain ⟨hj, hv⟩ := lvc_get fs hu
    rw [hlen] at hj
    rw [hat _ hj] at hv
    rw [World.cell?_of_block (a := ⟨b, o + j, none⟩) hbk]
    obtain ⟨u', g1, g2, _⟩ := h3' _ hj
    by_cases hm : j % 2 = 0
    · rw [if_pos hm] at hv
      rw [hv, show o + j = o + j / 2 * 2 by omega]
      exact g1
    · rw [if_neg hm] at hv
      rw [hv, show o + j = o + j / 2 * 2 + 1 by omega]
      simp only [g2, Option.getD_some]
  obtain ⟨i0, hi, hz⟩ := Option.map_eq_some_iff.1 (show (Tryz.prog.info? 43).map (fun i => (i.zero, i.size, i.bytes)) = some (some (.agg #[.int .i64 0, .slice none 0 0]), 2, 32) by kernel_rfl)
  simp only [Prod.mk.injEq] at hz
  obtain ⟨z1, z2, z3⟩ := hz
  have key := AnyE.slices_Clone Tryz.laysClL i0 (.agg #[.int .i64 0, .slice none 0 0]) 2 32 hi z1 z2 z3 rfl (by decide) (fun w => by kernel_rfl) b o L.length cap (lvc fs) w (by rw [lvc_length, hlen]) (by unfold maxLen; omega) (by omega) hcell (fun u hu => by
    obtain ⟨j, hj⟩ := List.getElem?_of_mem hu
    obtain ⟨hj2, hv⟩ := lvc_get fs hj
    rw [hv]
    by_cases hm : j % 2 = 0
    · rw [if_pos hm]; rfl
    · rw [if_neg hm]
      have hmem : fs.getD (j / 2) (0, undef, []) ∈ fs := by simp [List.getD, hj2]
      obtain ⟨a', c', e', _⟩ := hrd _ hmem
      rw [e']; rfl)
  refine Calls.mono key ?_
  rintro e w' ⟨v', rfl, hown, hne, hb⟩
  refine ⟨v', fs, rfl, hlv, hrd, ?_, hb⟩
  rcases hown.2 with ⟨_, h⟩ | ⟨g, cp, cur, rfl, h1, h2, h4, h5, h6, h7⟩
  · omega
  · refine ⟨[g], ⟨fun f hf => by simp at hf, by simp [obs]⟩, _, cp, by rw [hlen], by rw [hlen]; exact h4, .inr ⟨g, 0, cur, rfl, rfl, h1, h2, fun j hj => ?_, by omega⟩⟩
    have hj2 := lvc_at fs j hj
    rw [← h7] at hj2
    rw [hlen] at hj
    rw [List.getElem?_take_of_lt (by omega), List.getElem?_take_of_lt (by omega)] at hj2
    simpa using hj2
end Go.Proofs.YtpfidohkohldaaaGreatDoor
namespace Go.Proofs.YtpfidohkohldaaaGreatDoor
set_option linter.unusedSimpArgs false
set_option linter.unusedVariables false
set_option maxRecDepth 100000
open Go.ChangeShapes Go.WideShapes Go.ChangeAt Go.RowKit Go.Pin Go.Pat Go.Deep
/-- a pattern's box and the result's -/
structure B2 (q : Nat) (w : World) (nm : ByteArray) (v0 v1 vl : Value) (wr : World) : Prop where
  old : Below q w wr
  lt : q + 1 < wr.heap.size
  row : wr.heap[q]? = some (.cells #[.string nm, v0, v1, vl] 26)
  row2 : wr.heap[q + 1]? = some (.cells zPR 26)
section
variable {q : Nat} {w wr w' : World} {nm : ByteArray} {v0 v1 vl : Value}
theorem B2.c0 (h : B2 q w nm v0 v1 vl wr) : wr.cell? ⟨q, 0, none⟩ = some (.string nm) := by rw [cell_of_row _ _ _ _ _ _ h.row]; rfl
theorem B2.c1 (h : B2 q w nm v0 v1 vl wr) : wr.cell? ⟨q, 1, none⟩ = some v0 := by rw [cell_of_row _ _ _ _ _ _ h.row]; rfl
theorem B2.c2 (h : B2 q w nm v0 v1 vl wr) : wr.cell? ⟨q, 2, none⟩ = some v1 := by rw [cell_of_row _ _ _ _ _ _ h.row]; rfl
theorem B2.c3 (h : B2 q w nm v0 v1 vl wr) : wr.cell? ⟨q, 3, none⟩ = some vl := by rw [cell_of_row _ _ _ _ _ _ h.row]; rfl
theorem B2.fz (h : B2 q w nm v0 v1 vl wr) (j : Nat) : wr.frozen? ⟨q, j, none⟩ = false := frozen_of_row _ _ _ _ _ h.row
theorem B2.below (h : B2 q w nm v0 v1 vl wr) (hb : Below wr.heap.size wr w') : B2 q w nm v0 v1 vl w' :=
  ⟨h.old.trans (hb.mono (by have := h.lt; omega)), Nat.lt_of_lt_of_le h.lt hb.size, (hb.block _ (by have := h.lt; omega)).trans h.row, (hb.block _ h.lt).trans h.row2⟩
theorem B2.sets (h : B2 q w nm v0 v1 vl wr) (j : Nat) (u : Value) : Below q w (wr.setCell ⟨q, j, none⟩ u) ∧ q + 1 < (wr.setCell ⟨q, j, none⟩ u).heap.size ∧ (wr.setCell ⟨q, j, none⟩ u).heap[q + 1]? = some (.cells zPR 26) ∧ ∀ b, b ≠ q → (wr.setCell ⟨q, j, none⟩ u).heap[b]? = wr.heap[b]? := by
  have ho : ∀ b, b ≠ q → (wr.setCell ⟨q, j, none⟩ u).heap[b]? = wr.heap[b]? := fun b hne => heap_setCell_other _ _ _ _ hne
  exact ⟨h.old.setCell (p := ⟨q, j, none⟩) (Nat.le_refl _) _, by rw [World.size_setCell]; exact h.lt, (ho _ (by omega)).trans h.row2, ho⟩
theorem B2.set1 (h : B2 q w nm v0 v1 vl wr) (u : Value) : B2 q w nm u v1 vl (wr.setCell ⟨q, 1, none⟩ u) :=
  ⟨(h.sets 1 u).1, (h.sets 1 u).2.1, by rw [Go.heap_setCell_same _ _ _ _ _ _ h.row]; rfl, (h.sets 1 u).2.2.1⟩
theorem B2.set2 (h : B2 q w nm v0 v1 vl wr) (u : Value) : B2 q w nm v0 u vl (wr.setCell ⟨q, 2, none⟩ u) :=
  ⟨(h.sets 2 u).1, (h.sets 2 u).2.1, by rw [Go.heap_setCell_same _ _ _ _ _ _ h.row]; rfl, (h.sets 2 u).2.2.1⟩
theorem B2.set3 (h : B2 q w nm v0 v1 vl wr) (u : Value) : B2 q w nm v0 v1 u (wr.setCell ⟨q, 3, none⟩ u) :=
  ⟨(h.sets 3 u).1, (h.sets 3 u).2.1, by rw [Go.heap_setCell_same _ _ _ _ _ _ h.row]; rfl, (h.sets 3 u).2.2.1⟩
theorem b2_start (W : World) (nm : ByteArray) (v0 v1 vl : Value) : B2 W.heap.size W nm v0 v1 vl ((W.alloc (.cells #[.string nm, v0, v1, vl] 26)).alloc (.cells zPR 26)) := by
  refine ⟨((Below.refl _ _).alloc (Nat.le_refl _) _).alloc (by rw [size_alloc]; omega) _, by simp only [size_alloc]; omega, ?_, ?_⟩
  · rw [Below.heap_alloc _ _ _ (by rw [size_alloc]; omega)]; exact heap_alloc_new _ _
  · have := heap_alloc_new (W.alloc (.cells #[.string nm, v0, v1, vl] 26)) (.cells zPR 26)
    rw [size_alloc] at this
    exact this
end
theorem wpCallV {P : Program} {o : Oper} {a : Act} {w : World} {K : Act → World → Prop} {Q : Exit → Act → World → Prop} {f : Nat} {xs : Array Operand} {ts : Array TypeId} {args : Array Value} {R : Value → World → Prop} {d : Option Nat}
    (ho : o.op = .call { callee := .value (.func f), args := xs, argTypes := ts }) (hd : o.dst = d) (ha : xs.map a.eval = args) (hen : ∀ w, (callFunc f args).run P w = .ok (.enter f args) w) (hc : Calls P f args w fun e w' => ∃ v, e = .returned v ∧ R v w') (h : ∀ v w', R v w' → K (a.put d v) w') : Oper.wp P o a w K Q := by
  subst hd
  unfold Oper.wp execOp
  simp only [ho]
  go_simp
  refine hc.mono ?_
  rintro e w' ⟨v, rfl, hr⟩
  exact h v w' hr
theorem wpSkp {P : Program} {o : Oper} {a : Act} {w w' : World} {d : Option Nat} {K : Act → World → Prop} {Q : Exit → Act → World → Prop} (hd : o.dst = d) (hrun : (execOp a.eval o).run P w = .ok .skip w') (h : K (a.put d undef) w') : Oper.wp P o a w K Q := by
  subst hd
  unfold Oper.wp
  rw [hrun]
  exact h
theorem lvl_set (fs : List Lv) (i : Nat) (x : Lv) : lvl (fs.set i x) = (lvl fs).set i (x.1, x.2.2) := by unfold lvl; rw [List.map_set]
theorem lvl_same {fs : List Lv} {i : Nat} {f : Int} {u : Value} {ts : List Int} (hi : i < fs.length) (h : fs.getD i (0, undef, []) = (f, u, ts)) (x : Value) : lvl (fs.set i (f, x, ts)) = lvl fs := by
  rw [lvl_set]
  apply List.ext_getElem?
  intro j
  rw [List.getElem?_set]
  by_cases hj : i = j
  · subst hj
    have hg : fs[i] = (f, u, ts) := by rw [← h]; simp [List.getD, hi]
    have hl : (lvl fs).length = fs.length := by simp [lvl]
    rw [if_pos rfl, if_pos (by rw [hl]; exact hi)]
    simp [lvl, hi, hg]
  · rw [if_neg hj]
theorem EY.join {base b2 : Nat} {hd fs : List Lv} {vl : Value} {w w' : World} (h : EY b2 [] fs 0 vl w') (hs : w.heap.size ≤ b2) (hb : base ≤ w.heap.size) (ho : OS base [] hd w) (hB : Below w.heap.size w w') : EY base hd fs 0 vl w' := by
  obtain ⟨pre, hos, a, cap, e, hc, hl⟩ := h
  have ho' := ho.below hB
  rcases hl with hl | ⟨g, o, cur, h1, h2, h3, h4, h5, h6⟩
  · refine ⟨[], ?_, a, cap, e, hc, .inl hl⟩
    simpa using ho'
  · refine ⟨pre, ⟨?_, ?_⟩, a, cap, e, hc, .inr ⟨g, o, cur, h1, h2, by omega, h4, h5, h6⟩⟩
    · simpa using ho'.own
    · rw [h1]
      simp only [List.take_zero, List.append_nil, List.singleton_append, List.nodup_cons]
      refine ⟨fun hm => ?_, by simpa using ho.nd⟩
      have := (ho.lt g hm).2
      omega
/-- what clone answers -/
def ClP (p : Pt) (W : World) (e : Ending) (w' : World) : Prop := Below W.heap.size W w' ∧ ∃ (v0 v1 vl : Value) (fs : List Lv), e = .returned (.agg #[.string p.nm, v0, v1, vl]) ∧ lvl fs = p.ln ∧ EX (W.heap.size + 2) [] [(0, v0, p.b0), (1, v1, p.b1)] fs vl w'
theorem idx2_0 (a b : Value) (w : World) : (Instr.index 23 (.agg #[a, b]) (.int .i64 0)).run Tryz.prog w = .ok a w := by kernel_rfl
theorem idx2_1 (a b : Value) (w : World) : (Instr.index 23 (.agg #[a, b]) (.int .i64 1)).run Tryz.prog w = .ok b w := by kernel_rfl
set_option maxHeartbeats 8000000 in
theorem clone_any (v : Value) (p : Pt) (W : World) (hR : RdP W v p) (hs : shaped p = true) :
    Calls Tryz.prog 27 #[v] W (ClP p W) := by
  obtain ⟨s0, s1, s2, s3, s4⟩ := shaped_all hs
  obtain ⟨v0, v1, vl, rfl, h0, h1, hl⟩ := hR
  obtain ⟨a0, c0, rfl, -⟩ := id h0
  obtain ⟨a1, c1, rfl, -⟩ := id h1
  obtain ⟨al, cl, rfl, -⟩ := id hl
  have hst := b2_start W p.nm (.slice a0 p.b0.length c0) (.slice a1 p.b1.length c1) (.slice al p.ln.length cl)
  have HH0 : Hid (∀ Y, Below W.heap.size W Y → RdN Y (.slice a0 p.b0.length c0) p.b0) := fun Y hY => h0.below hY
  have HH1 : Hid (∀ Y, Below W.heap.size W Y → RdN Y (.slice a1 p.b1.length c1) p.b1) := fun Y hY => h1.below hY
  have HHL : Hid (∀ Y, Below W.heap.size W Y → RdL Y (.slice al p.ln.length cl) p.ln) := fun Y hY => hl.below hY
  obtain ⟨q, hq⟩ : ∃ q, W.heap.size = q := ⟨_, rfl⟩
  obtain ⟨nm, hnm⟩ : ∃ nm, p.nm = nm := ⟨_, rfl⟩
  obtain ⟨n0, hn0⟩ : ∃ n0, p.b0.length = n0 := ⟨_, rfl⟩
  obtain ⟨n1, hn1⟩ : ∃ n1, p.b1.length = n1 := ⟨_, rfl⟩
  obtain ⟨n, hn⟩ : ∃ n, p.ln.length = n := ⟨_, rfl⟩
  simp only [hq, hnm, hn0, hn1, hn] at hst HH0 HH1 HHL s0 s1 s2 s3 ⊢
  obtain ⟨W0, hW0⟩ : ∃ W0, (W.alloc (.cells #[.string nm, .slice a0 n0 c0, .slice a1 n1 c1, .slice al n cl] 26)).alloc (.cells zPR 26) = W0 := ⟨_, rfl⟩
  rw [hW0] at hst
  have hsz : (W.alloc (.cells #[.string nm, .slice a0 n0 c0, .slice a1 n1 c1, .slice al n cl] 26)).heap.size = q + 1 := by rw [size_alloc, hq]
  have H0 : Hid (B2 q W nm (.slice a0 n0 c0) (.slice a1 n1 c1) (.slice al n cl) W0) := hst
  have HN : Hid (W.heap.size = q ∧ p.nm = nm ∧ p.b0.length = n0 ∧ p.b1.length = n1 ∧ p.ln.length = n) := ⟨hq, hnm, hn0, hn1, hn⟩
  have HS : Hid (n0 ≤ 2 ∧ n1 ≤ 2 ∧ 0 < n ∧ n ≤ 24 ∧ ∀ l ∈ p.ln, l.2.length ≤ 24) := ⟨s0, s1, s2, s3, fun l hl => (s4 l hl).2.2.1⟩
  have e1 := hst.c1
  have e2 := hst.c2
  clear hst h0 h1 hl hnm hn0 hn1 hn s0 s1 s2 s3 s4 hs
  go_enter Tryz.func27, Tryz.ntmps27
  go_wp2
  clear e1 e2 hW0 hsz
  go_loopw [9] (fun v9 wr => (v9 = .int .i64 0 ∧ B2 q W nm (.slice a0 n0 c0) (.slice a1 n1 c1) (.slice al n cl) wr) ∨ (v9 = .int .i64 1 ∧ ∃ u0, B2 q W nm u0 (.slice a1 n1 c1) (.slice al n cl) wr ∧ OS (q + 2) [] [(0, u0, p.b0)] wr) ∨ (v9 = .int .i64 2 ∧ ∃ u0 u1, B2 q W nm u0 u1 (.slice al n cl) wr ∧ OS (q + 2) [] [(0, u0, p.b0), (1, u1, p.b1)] wr)) (fun v _ => 2 - (intOf v).toNat)
  case atStart => exact .inl ⟨rfl, H0.out⟩
  case round =>
    rcases hrel with ⟨rfl, hC⟩ | ⟨rfl, u0, hC, hO⟩ | ⟨rfl, u0, u1, hC, hO⟩
    · have ix := idx2_0 (.slice a0 n0 c0) (.slice a1 n1 c1)
      have CC := clone_ints _ p.b0 wr (HH0.out wr hC.old) (by have := HN.out; have := HS.out; omega)
      have HC : Hid _ := hC
      clear hC
      go_upto_region 5 with (go_at_call 50; refine CC.mono ?_; rintro e w1 ⟨x, rfl, hx, hb⟩; obtain ⟨ax, cx, rfl⟩ := own_slice' hx; have h1 := HC.out.below hb; have k1 := h1.c1; have f1 := h1.fz 1; have H1 : Hid _ := h1; have HX : Hid (w1.ownsRow wr.heap.size 3 1 (.slice ax p.b0.length cx) p.b0.length (p.b0.map (Value.int .i64))) := hx; clear hx hb h1 CC)
      go_wp2
      refine ⟨.inr (.inl ⟨rfl, _, H1.out.set1 _, ?_⟩), by decide⟩
      have ho := (H1.out.sets 1 (.slice ax p.b0.length cx)).2.2.2
      have hx2 := own_mn HX.out (b2 := q + 2) (by have := HC.out.lt; omega)
      have := (os_nil (q + 2) w1).snoc (f := 0) hx2 (fun k _ => ⟨by simp, by simp [obs]⟩)
      exact this.keep (fun k hk => ho k (by have := (this.lt k hk).1; omega))
    · have ix := idx2_1 (.slice a0 n0 c0) (.slice a1 n1 c1)
      have CC := clone_ints _ p.b1 wr (HH1.out wr hC.old) (by have := HN.out; have := HS.out; omega)
      have HC : Hid _ := hC
      have HO : Hid _ := hO
      clear hC hO
      go_upto_region 5 with (go_at_call 50; refine CC.mono ?_; rintro e w1 ⟨x, rfl, hx, hb⟩; obtain ⟨ax, cx, rfl⟩ := own_slice' hx; have h1 := HC.out.below hb; have k1 := h1.c2; have f1 := h1.fz 2; have H1 : Hid (_ ∧ OS (q + 2) [] [(0, u0, p.b0)] w1) := ⟨h1, HO.out.below hb⟩; have HX : Hid (w1.ownsRow wr.heap.size 3 1 (.slice ax p.b1.length cx) p.b1.length (p.b1.map (Value.int .i64))) := hx; clear hx hb h1 CC)
      go_wp2
      refine ⟨.inr (.inr ⟨rfl, _, _, H1.out.1.set2 _, ?_⟩), by decide⟩
      have ho := (H1.out.1.sets 2 (.slice ax p.b1.length cx)).2.2.2
      have hx2 := own_mn HX.out (b2 := q + 2) (by have := HC.out.lt; omega)
      have := H1.out.2.snoc (f := 1) hx2 (fun k hk => ⟨by simp, fun hm => by have := (HO.out.lt k hm).2; have := (HX.out.lt k hk).1; omega⟩)
      exact this.keep (fun k hk => ho k (by have := (this.lt k hk).1; omega))
    · have HC : Hid (B2 q W nm u0 u1 (.slice al n cl) wr ∧ OS (q + 2) [] [(0, u0, p.b0), (1, u1, p.b1)] wr) := ⟨hC, hO⟩
      have k3 := hC.c3
      clear hC hO
      have CL := clone_lines _ p.ln W wr (HHL.out W (Below.refl _ _)) (by rw [hq]; exact HC.out.1.old) (by have := HN.out; have := HS.out; omega) (by have := HN.out; have := HS.out; omega)
      go_upto_region 6 with (fail)
      go_upto_region 7 with (go_at_call 51; refine CL.mono ?_; rintro e w1 ⟨x, fs0, rfl, hfl, hfr, hey, hb⟩; have h1 := HC.out.1.below hb; have k4 := h1.c3; have f4 := h1.fz 3; have H1 : Hid (B2 q W nm u0 u1 (.slice al n cl) w1 ∧ EY (q + 2) [(0, u0, p.b0), (1, u1, p.b1)] fs0 0 x w1 ∧ lvl fs0 = p.ln ∧ (∀ f ∈ fs0, RdN W f.2.1 f.2.2)) := ⟨h1, hey.join (Nat.le_refl _) (by have := HC.out.1.lt; omega) HC.out.2 hb, hfl, hfr⟩; have HFL : Hid (fs0.length = n) := (by show fs0.length = n; rw [← HN.out.2.2.2.2, ← hfl]; simp [lvl]); obtain ⟨g, o, cp, rfl, hcp, hgq, hgs, _⟩ := hey.at (j := 0) (by rw [HFL.out]; exact HS.out.2.2.1); clear hfl hfr hey hb h1 CL k3)
      rw [HFL.out]
      have h2 := H1.out.1.set3 (.slice (some ⟨g, o, none⟩) n cp)
      have hy2 : EY (q + 2) [(0, u0, p.b0), (1, u1, p.b1)] fs0 0 (.slice (some ⟨g, o, none⟩) n cp) (w1.setCell ⟨q, 3, none⟩ (.slice (some ⟨g, o, none⟩) n cp)) := by
        have hx := H1.out.2.1
        rw [HFL.out] at hx
        exact hx.keep (fun b hb _ => (H1.out.1.sets 3 _).2.2.2 b (by omega))
      obtain ⟨w2, hw2⟩ : ∃ w2, w1.setCell ⟨q, 3, none⟩ (.slice (some ⟨g, o, none⟩) n cp) = w2 := ⟨_, rfl⟩
      rw [hw2] at h2 hy2 ⊢
      have H2 : Hid (B2 q W nm u0 u1 (.slice (some ⟨g, o, none⟩) n cp) w2 ∧ EY (q + 2) [(0, u0, p.b0), (1, u1, p.b1)] fs0 0 (.slice (some ⟨g, o, none⟩) n cp) w2) := ⟨h2, hy2⟩
      have k5 := h2.c3
      have hcpn : n ≤ cp := by rw [HFL.out] at hcp; exact hcp
      clear h2 hy2 hw2 k4 f4 hcp
      go_wp2
      clear k5
      go_loopw [26] (fun v26 wr => ∃ (i : Nat) (fs : List Lv), i ≤ n ∧ v26 = .int .i64 i ∧ fs.length = n ∧ lvl fs = p.ln ∧ B2 q W nm u0 u1 (.slice (some ⟨g, o, none⟩) n cp) wr ∧ EY (q + 2) [(0, u0, p.b0), (1, u1, p.b1)] fs i (.slice (some ⟨g, o, none⟩) n cp) wr ∧ ∀ j, i ≤ j → j < n → RdN W (fs.getD j (0, undef, [])).2.1 (fs.getD j (0, undef, [])).2.2) (fun v _ => n - (intOf v).toNat)
      case atStart => exact ⟨0, fs0, Nat.zero_le _, rfl, HFL.out, H1.out.2.2.1, H2.out.1, H2.out.2, fun j _ hj => H1.out.2.2.2 _ (by simp [List.getD, show j < fs0.length by rw [HFL.out]; exact hj])⟩
      case round =>
        obtain ⟨i, fs, hi, rfl, hfl, hlv, hB, hY, hR⟩ := hrel
        by_cases hlt : i < n
        · have b1 : (i : Int) < (n : Int) := by omega
          have bn : (n : Int) ≤ 24 := by have := HS.out.2.2.2.1; omega
          have b0 : (0 : Int) ≤ (i : Int) := by omega
          obtain ⟨g', o', cp', e, _, hgq', hgs', x0, x1, _⟩ := hY.at (j := i) (by omega)
          injection e with e1 e0 e3
          injection e1 with e1
          injection e1 with e1 e2
          clear e0
          subst e1 e2 e3
          have hRi := hR i (Nat.le_refl _) hlt
          obtain ⟨y, hy⟩ : ∃ y, fs.getD i (0, undef, []) = y := ⟨_, rfl⟩
          rw [hy] at x0 x1 hRi
          obtain ⟨f, u, ts⟩ := y
          simp only at x0 x1 hRi
          obtain ⟨a2, c2, rfl, -⟩ := id hRi
          have hts : ts.length ≤ 24 := by
            have hm : (f, ts) ∈ p.ln := by
              rw [← hlv]
              refine List.mem_map.2 ⟨(f, .slice a2 ts.length c2, ts), ?_, rfl⟩
              rw [← hy]
              simp [List.getD, show i < fs.length by omega]
            exact HS.out.2.2.2.2 _ hm
          obtain ⟨m, hm⟩ : ∃ m, ts.length = m := ⟨_, rfl⟩
          rw [hm] at x1 hRi hy
          have HR : Hid (∀ j, i ≤ j → j < n → RdN W (fs.getD j (0, undef, [])).2.1 (fs.getD j (0, undef, [])).2.2) := hR
          have HB : Hid (B2 q W nm u0 u1 (.slice (some ⟨g, o, none⟩) n cp) wr) := hB
          have HY : Hid (EY (q + 2) [(0, u0, p.b0), (1, u1, p.b1)] fs i (.slice (some ⟨g, o, none⟩) n cp) wr) := hY
          have HF : Hid (fs.length = n ∧ lvl fs = p.ln ∧ i < n ∧ fs.getD i (0, undef, []) = (f, .slice a2 m c2, ts) ∧ ts.length ≤ 24 ∧ ts.length = m) := ⟨hfl, hlv, hlt, hy, hts, hm⟩
          have HRI : Hid (RdN W (.slice a2 m c2) ts) := hRi
          clear hR hB hY hfl hlv hy hRi hts hm hi
          go_upto_region 10 with (fail)
          have hal := (Below.refl wr.heap.size wr).alloc (Nat.le_refl _) (.cells #[.int .i64 f, .slice a2 m c2] 43)
          have hrow3 : (wr.alloc (.cells #[.int .i64 f, .slice a2 m c2] 43)).drew.heap[wr.heap.size]? = some (.cells #[.int .i64 f, .slice a2 m c2] 43) := heap_alloc_new _ _
          have hB3 := (HB.out.below hal.drew)
          have hY3 := (HY.out.below hal.drew)
          obtain ⟨nb, hnb⟩ : ∃ nb, wr.heap.size = nb := ⟨_, rfl⟩
          have hsz3 : (wr.alloc (.cells #[.int .i64 f, .slice a2 m c2] 43)).drew.heap.size = nb + 1 := by rw [← hnb]; exact size_alloc _ _
          obtain ⟨wd, hwd⟩ : ∃ wd, (wr.alloc (.cells #[.int .i64 f, .slice a2 m c2] 43)).drew = wd := ⟨_, rfl⟩
          rw [hwd] at hB3 hY3 hsz3 hrow3
          simp only [hnb] at hrow3 ⊢
          have hg3 : g < nb := by rw [← hnb]; exact hgs'
          refine Go.Pin.wp_region_hcls (fun Y => B2 q W nm u0 u1 (.slice (some ⟨g, o, none⟩) n cp) Y ∧ Y.heap[nb]? = some (.cells #[.int .i64 f, .slice a2 m c2] 43)) 9 (by rfl) (by kernel_rfl) (by rw [hwd]; exact ⟨hB3, hrow3⟩) ?_
          intro Sq fq hNq hRq hSq
          have z3 := fun x => (hRq x).1.c3
          have z4 := fun x => cell_of_row (fq x) nb 1 _ _ _ (hRq x).2
          simp at z4
          rw [hwd]
          have st0 : B2 q W nm u0 u1 (.slice (some ⟨g, o, none⟩) n cp) wd ∧ wd.heap[nb]? = some (.cells #[.int .i64 f, .slice a2 m c2] 43) := ⟨hB3, hrow3⟩
          have HY3 : Hid (EY (q + 2) [(0, u0, p.b0), (1, u1, p.b1)] fs i (.slice (some ⟨g, o, none⟩) n cp) wd) := hY3
          have HSZ : Hid (wd.heap.size = nb + 1 ∧ g < nb ∧ q + 1 < nb) := ⟨hsz3, hg3, by rw [← hnb]; exact HB.out.lt⟩
          clear hal hrow3 hB3 hY3 hsz3 hg3 x0 x1 hwd hnb
          refine Go.Pin.takeQ 0 (by simp only [List.getElem?_toArray, List.getElem?_cons_zero, List.getElem?_cons_succ]; exact rfl) (by kernel_rfl) (by kernel_rfl) (by kernel_rfl) (by rfl) (fun _ _ d _ _ h => by cases d <;> exact h) (st0) (hSq).out (by kernel_rfl) ?_
          intro Kq hKq
          go_big_quiet_op
          go_big_quiet_on
          refine Go.Pin.takeQ 1 (by simp only [List.getElem?_toArray, List.getElem?_cons_zero, List.getElem?_cons_succ]; exact rfl) (by kernel_rfl) (by kernel_rfl) (by kernel_rfl) (by rfl) (fun _ _ d _ _ h => by cases d <;> exact h) (st0) (hSq).out (by kernel_rfl) ?_
          intro Kq hKq
          go_big_quiet_op
          go_big_quiet_on
          refine Go.Pin.takeQ 2 (by simp only [List.getElem?_toArray, List.getElem?_cons_zero, List.getElem?_cons_succ]; exact rfl) (by kernel_rfl) (by kernel_rfl) (by kernel_rfl) (by rfl) (fun _ _ d _ _ h => by cases d <;> exact h) (st0) (hSq).out (by kernel_rfl) ?_
          intro Kq hKq
          go_big_quiet_op
          go_big_quiet_on
          refine Go.Pin.takeQ 3 (by simp only [List.getElem?_toArray, List.getElem?_cons_zero, List.getElem?_cons_succ]; exact rfl) (by kernel_rfl) (by kernel_rfl) (by kernel_rfl) (by rfl) (fun _ _ d _ _ h => by cases d <;> exact h) (st0) (hSq).out (by kernel_rfl) ?_
          intro Kq hKq
          go_big_quiet_op
          go_big_quiet_on
          refine Go.Pin.takeQ 4 (by simp only [List.getElem?_toArray, List.getElem?_cons_zero, List.getElem?_cons_succ]; exact rfl) (by kernel_rfl) (by kernel_rfl) (by kernel_rfl) (by rfl) (fun _ _ d _ _ h => by cases d <;> exact h) (st0) (hSq).out (by kernel_rfl) ?_
          intro Kq hKq
          go_big_quiet_op
          go_big_quiet_on
          refine Go.Pin.readyQ 5 (by simp only [List.getElem?_toArray, List.getElem?_cons_zero, List.getElem?_cons_succ]; exact rfl) (by kernel_rfl) (by kernel_rfl) ?_
          intro K hK
          refine wpCallV (d := some 36) (f := 50) (R := fun x w' => w'.ownsRow wd.heap.size 3 1 x ts.length (ts.map (Value.int .i64)) ∧ Below wd.heap.size wd w') rfl rfl (args := #[.slice a2 m c2]) (by simp only [List.map_toArray, List.map_cons, List.map_nil]; rfl) (fun _ => rfl) ((clone_ints _ ts wd (HRI.out.below (by rw [hq]; exact st0.1.old)) (by have := HF.out.2.2.2.2.1; omega)).mono (fun e w' ⟨x, h1, h2, h3⟩ => ⟨x, h1, h2, h3⟩)) ?_
          rintro x w4 ⟨hx, hb4⟩
          obtain ⟨ax, cx, rfl⟩ := own_slice' hx
          have st4 : B2 q W nm u0 u1 (.slice (some ⟨g, o, none⟩) n cp) w4 ∧ w4.heap[nb]? = some (.cells #[.int .i64 f, .slice a2 m c2] 43) := ⟨st0.1.below hb4, (hb4.block nb (by rw [HSZ.out.1]; omega)).trans st0.2⟩
          refine hK _ _ st4 ?_
          simp only [Act.put, List.setIfInBounds_toArray, List.set_cons_zero, List.set_cons_succ]
          clear hK K
          refine Go.Pin.takeQ 6 (by simp only [List.getElem?_toArray, List.getElem?_cons_zero, List.getElem?_cons_succ]; exact rfl) (by kernel_rfl) (by kernel_rfl) (by kernel_rfl) (by rfl) (fun _ _ d _ _ h => by cases d <;> exact h) (st4) (hSq).out (by kernel_rfl) ?_
          intro Kq hKq
          go_big_quiet_op
          go_big_quiet_on
          refine Go.Pin.takeQ 7 (by simp only [List.getElem?_toArray, List.getElem?_cons_zero, List.getElem?_cons_succ]; exact rfl) (by kernel_rfl) (by kernel_rfl) (by kernel_rfl) (by rfl) (fun _ _ d _ _ h => by cases d <;> exact h) (st4) (hSq).out (by kernel_rfl) ?_
          intro Kq hKq
          go_big_quiet_op
          go_big_quiet_on
          refine Go.Pin.readyQ 8 (by simp only [List.getElem?_toArray, List.getElem?_cons_zero, List.getElem?_cons_succ]; exact rfl) (by kernel_rfl) (by kernel_rfl) ?_
          intro K hK
          have hst := HY3.out.step (g := g) (o := o) (cap := cp) (by rw [HF.out.1]) (by rw [HF.out.1]; exact HF.out.2.2.1) hb4 (own_mn hx (by have := HSZ.out; omega)) (fun k hk => (hx.lt k hk).1)
          have k9 := hst.2.1
          have f9 := hst.2.2
          rw [HF.out.2.2.2.1] at k9
          simp only at k9
          have HST : Hid _ := hst.1
          clear hst
          refine wpSkp (d := none) (w' := w4.setCell ⟨g, o + i * 2 + 1, none⟩ (.slice ax ts.length cx)) rfl (by unfold execOp; go_simp) (hK _ _ ?_ ?_)
          · have ho : ∀ b, b ≠ g → (w4.setCell ⟨g, o + i * 2 + 1, none⟩ (.slice ax ts.length cx)).heap[b]? = w4.heap[b]? := fun b hne => heap_setCell_other _ _ _ _ hne
            have hgq3 : q + 2 ≤ g := hgq'
            exact ⟨⟨st4.1.old.setCell (p := ⟨g, o + i * 2 + 1, none⟩) (by show q ≤ g; omega) _, by rw [World.size_setCell]; exact st4.1.lt, (ho _ (by omega)).trans st4.1.row, (ho _ (by omega)).trans st4.1.row2⟩, (ho _ (by have := HSZ.out; omega)).trans st4.2⟩
          simp only [Act.put, List.setIfInBounds_toArray, List.set_cons_zero, List.set_cons_succ]
          clear hK K
          refine wpAnyH_done (by kernel_rfl) ?_ _
          have hB9 : B2 q W nm u0 u1 (.slice (some ⟨g, o, none⟩) n cp) (w4.setCell ⟨g, o + i * 2 + 1, none⟩ (.slice ax ts.length cx)) := by
            have ho : ∀ b, b ≠ g → (w4.setCell ⟨g, o + i * 2 + 1, none⟩ (.slice ax ts.length cx)).heap[b]? = w4.heap[b]? := fun b hne => heap_setCell_other _ _ _ _ hne
            have hgq3 : q + 2 ≤ g := hgq'
            exact ⟨st4.1.old.setCell (p := ⟨g, o + i * 2 + 1, none⟩) (by show q ≤ g; omega) _, by rw [World.size_setCell]; exact st4.1.lt, (ho _ (by omega)).trans st4.1.row, (ho _ (by omega)).trans st4.1.row2⟩
          have HB9 : Hid _ := hB9
          obtain ⟨w9, hw9⟩ : ∃ w9, w4.setCell ⟨g, o + i * 2 + 1, none⟩ (.slice ax ts.length cx) = w9 := ⟨_, rfl⟩
          rw [hw9] at HB9 HST ⊢
          clear hB9 hw9 st4 st0 k9 f9 z3 z4 hSq hRq hNq hb4 hx
          go_wp2
          have hF := HF.out
          refine ⟨⟨i + 1, fs.set i ((fs.getD i (0, undef, [])).1, .slice ax ts.length cx, ts), hF.2.2.1, congrArg (Value.int .i64) (Int.natCast_succ i).symm, by rw [List.length_set]; exact hF.1, ?_, HB9.out, HST.out, fun j h1 h2 => ?_⟩, by show n - ((i : Int) + 1).toNat < n - ((i : Int)).toNat; omega⟩
          · rw [← hF.2.1, hF.2.2.2.1]
            exact lvl_same (by rw [hF.1]; exact hF.2.2.1) hF.2.2.2.1 _
          · have : (fs.set i ((fs.getD i (0, undef, [])).1, Value.slice ax ts.length cx, ts)).getD j (0, undef, []) = fs.getD j (0, undef, []) := by
              simp only [List.getD, List.getElem?_set]
              rw [if_neg (by omega)]
            rw [this]
            exact HR.out j (by omega) h2
        · have b1 : ¬ (i : Int) < (n : Int) := by omega
          obtain rfl : i = n := by omega
          have HB : Hid (B2 q W nm u0 u1 (.slice (some ⟨g, o, none⟩) i cp) wr) := hB
          have HY : Hid (EX (q + 2) [] [(0, u0, p.b0), (1, u1, p.b1)] fs (.slice (some ⟨g, o, none⟩) i cp) wr) := by
            have : EY (q + 2) [(0, u0, p.b0), (1, u1, p.b1)] fs fs.length (.slice (some ⟨g, o, none⟩) i cp) wr := by rw [hfl]; exact hY
            exact this.all
          have HF : Hid (lvl fs = p.ln) := hlv
          have hu0 := HY.out.own (f := (0, u0, p.b0)) (by simp)
          have hu1 := HY.out.own (f := (1, u1, p.b1)) (by simp)
          simp only at hu0 hu1
          obtain ⟨au, ku, rfl⟩ := own_slice' hu0
          obtain ⟨av, kv, rfl⟩ := own_slice' hu1
          clear hu0 hu1
          have k0 := hB.c0
          have k1 := hB.c1
          have k2 := hB.c2
          have k3 := hB.c3
          have hrow2 := hB.row2
          clear hR hB hY hlv hfl
          go_wp2_with (with_reducible refine at_list ?_; refine hold_store 26 (.tmp 2) (.tmp 40) rfl ?_)
          refine wpList_store_row rfl 26 (.tmp 2) (.tmp 40) rfl (q + 1) #[.string nm, .slice au p.b0.length ku, .slice av p.b1.length kv, .slice (some ⟨g, o, none⟩) i cp] rfl rfl 26 zPR hrow2 (ipR _ _ _ _) rfl (by simp [Value.oneCell']) ?_
          go_wp2
          refine bodyPost_ret (v := .agg #[.string nm, .slice au p.b0.length ku, .slice av p.b1.length kv, .slice (some ⟨g, o, none⟩) i cp]) ?_ rfl ⟨?_, ?_⟩
          · exact results_cell_row (P := Tryz.prog) (fn := Tryz.f27) (p := 2) (ty := 26) rfl _ _ (q + 1) 26 _ (0, 0) _ rfl (setRow_heap _ _ _ _ 26 _ hrow2) Tryz.underlying26 rfl (ipR _ _ _ _)
          · rw [hq]
            exact below_setRow HB.out.old _ (by omega) _
          · refine ⟨_, _, _, fs, by rw [HN.out.2.1], HF.out, ?_⟩
            rw [hq]
            exact HY.out.keep (fun b hb _ _ => setRow_other _ _ _ _ (by omega))
end Go.Proofs.YtpfidohkohldaaaGreatDoor
