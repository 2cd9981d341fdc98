import Derived.Test.YtjhleocpipmklaaDoorMhbb
import Derived.Test.YtjhleocpipmklaaDoorMhav
import Derived.Test.YtjhleocpipmklaaDoorMhak
import Derived.Test.YtjhleocpipmklaaDoorMhar
namespace Go.Proofs.YtjhleocpipmklaaDoor
set_option linter.unusedSimpArgs false
set_option linter.unusedVariables false
set_option maxRecDepth 100000
open Go.ChangeShapes Go.WideShapes Go.ChangeAt Go.RowKit Go.Pin Go.Pat Go.Deep
/-- a pattern's box and the result's -/
structure B2 (q : Nat) (w : World) (nm : ByteArray) (v0 v1 vl : Value) (wr : World) : Prop where
  old : Below q w wr
  lt : q + 1 < wr.heap.size
  row : wr.heap[q]? = some (.cells #[.string nm, v0, v1, vl] 26)
  row2 : wr.heap[q + 1]? = some (.cells zPR 26)
section
variable {q : Nat} {w wr w' : World} {nm : ByteArray} {v0 v1 vl : Value}
theorem B2.c0 (h : B2 q w nm v0 v1 vl wr) : wr.cell? ⟨q, 0, none⟩ = some (.string nm) := by rw [cell_of_row _ _ _ _ _ _ h.row]; rfl
theorem B2.c1 (h : B2 q w nm v0 v1 vl wr) : wr.cell? ⟨q, 1, none⟩ = some v0 := by rw [cell_of_row _ _ _ _ _ _ h.row]; rfl
theorem B2.c2 (h : B2 q w nm v0 v1 vl wr) : wr.cell? ⟨q, 2, none⟩ = some v1 := by rw [cell_of_row _ _ _ _ _ _ h.row]; rfl
theorem B2.c3 (h : B2 q w nm v0 v1 vl wr) : wr.cell? ⟨q, 3, none⟩ = some vl := by rw [cell_of_row _ _ _ _ _ _ h.row]; rfl
theorem B2.fz (h : B2 q w nm v0 v1 vl wr) (j : Nat) : wr.frozen? ⟨q, j, none⟩ = false := frozen_of_row _ _ _ _ _ h.row
theorem B2.below (h : B2 q w nm v0 v1 vl wr) (hb : Below wr.heap.size wr w') : B2 q w nm v0 v1 vl w' :=
  ⟨h.old.trans (hb.mono (by have := h.lt; omega)), Nat.lt_of_lt_of_le h.lt hb.size, (hb.block _ (by have := h.lt; omega)).trans h.row, (hb.block _ h.lt).trans h.row2⟩
theorem B2.sets (h : B2 q w nm v0 v1 vl wr) (j : Nat) (u : Value) : Below q w (wr.setCell ⟨q, j, none⟩ u) ∧ q + 1 < (wr.setCell ⟨q, j, none⟩ u).heap.size ∧ (wr.setCell ⟨q, j, none⟩ u).heap[q + 1]? = some (.cells zPR 26) ∧ ∀ b, b ≠ q → (wr.setCell ⟨q, j, none⟩ u).heap[b]? = wr.heap[b]? := by
  have ho : ∀ b, b ≠ q → (wr.setCell ⟨q, j, none⟩ u).heap[b]? = wr.heap[b]? := fun b hne => heap_setCell_other _ _ _ _ hne
  exact ⟨h.old.setCell (p := ⟨q, j, none⟩) (Nat.le_refl _) _, by rw [World.size_setCell]; exact h.lt, (ho _ (by omega)).trans h.row2, ho⟩
theorem B2.set1 (h : B2 q w nm v0 v1 vl wr) (u : Value) : B2 q w nm u v1 vl (wr.setCell ⟨q, 1, none⟩ u) :=
  ⟨(h.sets 1 u).1, (h.sets 1 u).2.1, by rw [Go.heap_setCell_same _ _ _ _ _ _ h.row]; rfl, (h.sets 1 u).2.2.1⟩
theorem B2.set2 (h : B2 q w nm v0 v1 vl wr) (u : Value) : B2 q w nm v0 u vl (wr.setCell ⟨q, 2, none⟩ u) :=
  ⟨(h.sets 2 u).1, (h.sets 2 u).2.1, by rw [Go.heap_setCell_same _ _ _ _ _ _ h.row]; rfl, (h.sets 2 u).2.2.1⟩
theorem B2.set3 (h : B2 q w nm v0 v1 vl wr) (u : Value) : B2 q w nm v0 v1 u (wr.setCell ⟨q, 3, none⟩ u) :=
  ⟨(h.sets 3 u).1, (h.sets 3 u).2.1, by rw [Go.heap_setCell_same _ _ _ _ _ _ h.row]; rfl, (h.sets 3 u).2.2.1⟩
theorem b2_start (W : World) (nm : ByteArray) (v0 v1 vl : Value) : B2 W.heap.size W nm v0 v1 vl ((W.alloc (.cells #[.string nm, v0, v1, vl] 26)).alloc (.cells zPR 26)) := by
  refine ⟨((Below.refl _ _).alloc (Nat.le_refl _) _).alloc (by rw [size_alloc]; omega) _, by simp only [size_alloc]; omega, ?_, ?_⟩
  · rw [Below.heap_alloc _ _ _ (by rw [size_alloc]; omega)]; exact heap_alloc_new _ _
  · have := heap_alloc_new (W.alloc (.cells #[.string nm, v0, v1, vl] 26)) (.cells zPR 26)
    rw [size_alloc] at this
    exact this
end
theorem wpCallV {P : Program} {o : Oper} {a : Act} {w : World} {K : Act → World → Prop} {Q : Exit → Act → World → Prop} {f : Nat} {xs : Array Operand} {ts : Array TypeId} {args : Array Value} {R : Value → World → Prop} {d : Option Nat}
    (ho : o.op = .call { callee := .value (.func f), args := xs, argTypes := ts }) (hd : o.dst = d) (ha : xs.map a.eval = args) (hen : ∀ w, (callFunc f args).run P w = .ok (.enter f args) w) (hc : Calls P f args w fun e w' => ∃ v, e = .returned v ∧ R v w') (h : ∀ v w', R v w' → K (a.put d v) w') : Oper.wp P o a w K Q := by
  subst hd
  unfold Oper.wp execOp
  simp only [ho]
  go_simp
  refine hc.mono ?_
  rintro e w' ⟨v, rfl, hr⟩
  exact h v w' hr
theorem wpSkp {P : Program} {o : Oper} {a : Act} {w w' : World} {d : Option Nat} {K : Act → World → Prop} {Q : Exit → Act → World → Prop} (hd : o.dst = d) (hrun : (execOp a.eval o).run P w = .ok .skip w') (h : K (a.put d undef) w') : Oper.wp P o a w K Q := by
  subst hd
  unfold Oper.wp
  rw [hrun]
  exact h
theorem lvl_set (fs : List Lv) (i : Nat) (x : Lv) : lvl (fs.set i x) = (lvl fs).set i (x.1, x.2.2) := by unfold lvl; rw [List.map_set]
theorem lvl_same {fs : List Lv} {i : Nat} {f : Int} {u : Value} {ts : List Int} (hi : i < fs.length) (h : fs.getD i (0, undef, []) = (f, u, ts)) (x : Value) : lvl (fs.set i (f, x, ts)) = lvl fs := by
  rw [lvl_set]
  apply List.ext_getElem?
  intro j
  rw [List.getElem?_set]
  by_cases hj : i = j
  · subst hj
    have hg : fs[i] = (f, u, ts) := by rw [← h]; simp [List.getD, hi]
    have hl : (lvl fs).length = fs.length := by simp [lvl]
    rw [if_pos rfl, if_pos (by rw [hl]; exact hi)]
    simp [lvl, hi, hg]
  · rw [if_neg hj]
theorem EY.join {base b2 : Nat} {hd fs : List Lv} {vl : Value} {w w' : World} (h : EY b2 [] fs 0 vl w') (hs : w.heap.size ≤ b2) (hb : base ≤ w.heap.size) (ho : OS base [] hd w) (hB : Below w.heap.size w w') : EY base hd fs 0 vl w' := by
  obtain ⟨pre, hos, a, cap, e, hc, hl⟩ := h
  have ho' := ho.below hB
  rcases hl with hl | ⟨g, o, cur, h1, h2, h3, h4, h5, h6⟩
  · refine ⟨[], ?_, a, cap, e, hc, .inl hl⟩
    simpa using ho'
  · refine ⟨pre, ⟨?_, ?_⟩, a, cap, e, hc, .inr ⟨g, o, cur, h1, h2, by omega, h4, h5, h6⟩⟩
    · simpa using ho'.own
    · rw [h1]
      simp only [List.take_zero, List.append_nil, List.singleton_append, List.nodup_cons]
      refine ⟨fun hm => ?_, by simpa using ho.nd⟩
      have := (ho.lt g hm).2
      omega
/-- what clone answers -/
def ClP (p : Pt) (W : World) (e : Ending) (w' : World) : Prop := Below W.heap.size W w' ∧ ∃ (v0 v1 vl : Value) (fs : List Lv), e = .returned (.agg #[.string p.nm, v0, v1, vl]) ∧ lvl fs = p.ln ∧ EX (W.heap.size + 2) [] [(0, v0, p.b0), (1, v1, p.b1)] fs vl w'
theorem idx2_0 (a b : Value) (w : World) : (Instr.index 23 (.agg #[a, b]) (.int .i64 0)).run Tryd.prog w = .ok a w := by kernel_rfl
theorem idx2_1 (a b : Value) (w : World) : (Instr.index 23 (.agg #[a, b]) (.int .i64 1)).run Tryd.prog w = .ok b w := by kernel_rfl
set_option maxHeartbeats 8000000 in
theorem clone_any (v : Value) (p : Pt) (W : World) (hR : RdP W v p) (hs : shaped p = true) :
    Calls Tryd.prog 38 #[v] W (ClP p W) := by
  obtain ⟨s0, s1, s2, s3, s4⟩ := shaped_all hs
  obtain ⟨v0, v1, vl, rfl, h0, h1, hl⟩ := hR
  obtain ⟨a0, c0, rfl, -⟩ := id h0
  obtain ⟨a1, c1, rfl, -⟩ := id h1
  obtain ⟨al, cl, rfl, -⟩ := id hl
  have hst := b2_start W p.nm (.slice a0 p.b0.length c0) (.slice a1 p.b1.length c1) (.slice al p.ln.length cl)
  have HH0 : Hid (∀ Y, Below W.heap.size W Y → RdN Y (.slice a0 p.b0.length c0) p.b0) := fun Y hY => h0.below hY
  have HH1 : Hid (∀ Y, Below W.heap.size W Y → RdN Y (.slice a1 p.b1.length c1) p.b1) := fun Y hY => h1.below hY
  have HHL : Hid (∀ Y, Below W.heap.size W Y → RdL Y (.slice al p.ln.length cl) p.ln) := fun Y hY => hl.below hY
  obtain ⟨q, hq⟩ : ∃ q, W.heap.size = q := ⟨_, rfl⟩
  obtain ⟨nm, hnm⟩ : ∃ nm, p.nm = nm := ⟨_, rfl⟩
  obtain ⟨n0, hn0⟩ : ∃ n0, p.b0.length = n0 := ⟨_, rfl⟩
  obtain ⟨n1, hn1⟩ : ∃ n1, p.b1.length = n1 := ⟨_, rfl⟩
  obtain ⟨n, hn⟩ : ∃ n, p.ln.length = n := ⟨_, rfl⟩
  simp only [hq, hnm, hn0, hn1, hn] at hst HH0 HH1 HHL s0 s1 s2 s3 ⊢
  obtain ⟨W0, hW0⟩ : ∃ W0, (W.alloc (.cells #[.string nm, .slice a0 n0 c0, .slice a1 n1 c1, .slice al n cl] 26)).alloc (.cells zPR 26) = W0 := ⟨_, rfl⟩
  rw [hW0] at hst
  have hsz : (W.alloc (.cells #[.string nm, .slice a0 n0 c0, .slice a1 n1 c1, .slice al n cl] 26)).heap.size = q + 1 := by rw [size_alloc, hq]
  have H0 : Hid (B2 q W nm (.slice a0 n0 c0) (.slice a1 n1 c1) (.slice al n cl) W0) := hst
  have HN : Hid (W.heap.size = q ∧ p.nm = nm ∧ p.b0.length = n0 ∧ p.b1.length = n1 ∧ p.ln.length = n) := ⟨hq, hnm, hn0, hn1, hn⟩
  have HS : Hid (n0 ≤ 2 ∧ n1 ≤ 2 ∧ 0 < n ∧ n ≤ 24 ∧ ∀ l ∈ p.ln, l.2.length ≤ 24) := ⟨s0, s1, s2, s3, fun l hl => (s4 l hl).2.2.1⟩
  have e1 := hst.c1
  have e2 := hst.c2
  clear hst h0 h1 hl hnm hn0 hn1 hn s0 s1 s2 s3 s4 hs
  go_enter Tryd.func38, Tryd.ntmps38
  go_wp2
  clear e1 e2 hW0 hsz
  go_loopw [9] (fun v9 wr => (v9 = .int .i64 0 ∧ B2 q W nm (.slice a0 n0 c0) (.slice a1 n1 c1) (.slice al n cl) wr) ∨ (v9 = .int .i64 1 ∧ ∃ u0, B2 q W nm u0 (.slice a1 n1 c1) (.slice al n cl) wr ∧ OS (q + 2) [] [(0, u0, p.b0)] wr) ∨ (v9 = .int .i64 2 ∧ ∃ u0 u1, B2 q W nm u0 u1 (.slice al n cl) wr ∧ OS (q + 2) [] [(0, u0, p.b0), (1, u1, p.b1)] wr)) (fun v _ => 2 - (intOf v).toNat)
  case atStart => exact .inl ⟨rfl, H0.out⟩
  case round =>
    rcases hrel with ⟨rfl, hC⟩ | ⟨rfl, u0, hC, hO⟩ | ⟨rfl, u0, u1, hC, hO⟩
    · have ix := idx2_0 (.slice a0 n0 c0) (.slice a1 n1 c1)
      have CC := clone_ints _ p.b0 wr (HH0.out wr hC.old) (by have := HN.out; have := HS.out; omega)
      have HC : Hid _ := hC
      clear hC
      go_upto_region 5 with (go_at_call 59; refine CC.mono ?_; rintro e w1 ⟨x, rfl, hx, hb⟩; obtain ⟨ax, cx, rfl⟩ := own_slice' hx; have h1 := HC.out.below hb; have k1 := h1.c1; have f1 := h1.fz 1; have H1 : Hid _ := h1; have HX : Hid (w1.ownsRow wr.heap.size 3 1 (.slice ax p.b0.length cx) p.b0.length (p.b0.map (Value.int .i64))) := hx; clear hx hb h1 CC)
      go_wp2
      refine ⟨.inr (.inl ⟨rfl, _, H1.out.set1 _, ?_⟩), by decide⟩
      have ho := (H1.out.sets 1 (.slice ax p.b0.length cx)).2.2.2
      have hx2 := own_mn HX.out (b2 := q + 2) (by have := HC.out.lt; omega)
      have := (os_nil (q + 2) w1).snoc (f := 0) hx2 (fun k _ => ⟨by simp, by simp [obs]⟩)
      exact this.keep (fun k hk => ho k (by have := (this.lt k hk).1; omega))
    · have ix := idx2_1 (.slice a0 n0 c0) (.slice a1 n1 c1)
      have CC := clone_ints _ p.b1 wr (HH1.out wr hC.old) (by have := HN.out; have := HS.out; omega)
      have HC : Hid _ := hC
      have HO : Hid _ := hO
      clear hC hO
      go_upto_region 5 with (go_at_call 59; refine CC.mono ?_; rintro e w1 ⟨x, rfl, hx, hb⟩; obtain ⟨ax, cx, rfl⟩ := own_slice' hx; have h1 := HC.out.below hb; have k1 := h1.c2; have f1 := h1.fz 2; have H1 : Hid (_ ∧ OS (q + 2) [] [(0, u0, p.b0)] w1) := ⟨h1, HO.out.below hb⟩; have HX : Hid (w1.ownsRow wr.heap.size 3 1 (.slice ax p.b1.length cx) p.b1.length (p.b1.map (Value.int .i64))) := hx; clear hx hb h1 CC)
      go_wp2
      refine ⟨.inr (.inr ⟨rfl, _, _, H1.out.1.set2 _, ?_⟩), by decide⟩
      have ho := (H1.out.1.sets 2 (.slice ax p.b1.length cx)).2.2.2
      have hx2 := own_mn HX.out (b2 := q + 2) (by have := HC.out.lt; omega)
      have := H1.out.2.snoc (f := 1) hx2 (fun k hk => ⟨by simp, fun hm => by have := (HO.out.lt k hm).2; have := (HX.out.lt k hk).1; omega⟩)
      exact this.keep (fun k hk => ho k (by have := (this.lt k hk).1; omega))
    · have HC : Hid (B2 q W nm u0 u1 (.slice al n cl) wr ∧ OS (q + 2) [] [(0, u0, p.b0), (1, u1, p.b1)] wr) := ⟨hC, hO⟩
      have k3 := hC.c3
      clear hC hO
      have CL := clone_lines _ p.ln W wr (HHL.out W (Below.refl _ _)) (by rw [hq]; exact HC.out.1.old) (by have := HN.out; have := HS.out; omega) (by have := HN.out; have := HS.out; omega)
      go_upto_region 6 with (fail)
      go_upto_region 7 with (go_at_call 60; refine CL.mono ?_; rintro e w1 ⟨x, fs0, rfl, hfl, hfr, hey, hb⟩; have h1 := HC.out.1.below hb; have k4 := h1.c3; have f4 := h1.fz 3; have H1 : Hid (B2 q W nm u0 u1 (.slice al n cl) w1 ∧ EY (q + 2) [(0, u0, p.b0), (1, u1, p.b1)] fs0 0 x w1 ∧ lvl fs0 = p.ln ∧ (∀ f ∈ fs0, RdN W f.2.1 f.2.2)) := ⟨h1, hey.join (Nat.le_refl _) (by have := HC.out.1.lt; omega) HC.out.2 hb, hfl, hfr⟩; have HFL : Hid (fs0.length = n) := (by show fs0.length = n; rw [← HN.out.2.2.2.2, ← hfl]; simp [lvl]); obtain ⟨g, o, cp, rfl, hcp, hgq, hgs, _⟩ := hey.at (j := 0) (by rw [HFL.out]; exact HS.out.2.2.1); clear hfl hfr hey hb h1 CL k3)
      rw [HFL.out]
      have h2 := H1.out.1.set3 (.slice (some ⟨g, o, none⟩) n cp)
      have hy2 : EY (q + 2) [(0, u0, p.b0), (1, u1, p.b1)] fs0 0 (.slice (some ⟨g, o, none⟩) n cp) (w1.setCell ⟨q, 3, none⟩ (.slice (some ⟨g, o, none⟩) n cp)) := by
        have hx := H1.out.2.1
        rw [HFL.out] at hx
        exact hx.keep (fun b hb _ => (H1.out.1.sets 3 _).2.2.2 b (by omega))
      obtain ⟨w2, hw2⟩ : ∃ w2, w1.setCell ⟨q, 3, none⟩ (.slice (some ⟨g, o, none⟩) n cp) = w2 := ⟨_, rfl⟩
      rw [hw2] at h2 hy2 ⊢
      have H2 : Hid (B2 q W nm u0 u1 (.slice (some ⟨g, o, none⟩) n cp) w2 ∧ EY (q + 2) [(0, u0, p.b0), (1, u1, p.b1)] fs0 0 (.slice (some ⟨g, o, none⟩) n cp) w2) := ⟨h2, hy2⟩
      have k5 := h2.c3
      have hcpn : n ≤ cp := by rw [HFL.out] at hcp; exact hcp
      clear h2 hy2 hw2 k4 f4 hcp
      go_wp2
      clear k5
      go_loopw [26] (fun v26 wr => ∃ (i : Nat) (fs : List Lv), i ≤ n ∧ v26 = .int .i64 i ∧ fs.length = n ∧ lvl fs = p.ln ∧ B2 q W nm u0 u1 (.slice (some ⟨g, o, none⟩) n cp) wr ∧ EY (q + 2) [(0, u0, p.b0), (1, u1, p.b1)] fs i (.slice (some ⟨g, o, none⟩) n cp) wr ∧ ∀ j, i ≤ j → j < n → RdN W (fs.getD j (0, undef, [])).2.1 (fs.getD j (0, undef, [])).2.2) (fun v _ => n - (intOf v).toNat)
      case atStart => exact ⟨0, fs0, Nat.zero_le _, rfl, HFL.out, H1.out.2.2.1, H2.out.1, H2.out.2, fun j _ hj => H1.out.2.2.2 _ (by simp [List.getD, show j < fs0.length by rw [HFL.out]; exact hj])⟩
      case round =>
        obtain ⟨i, fs, hi, rfl, hfl, hlv, hB, hY, hR⟩ := hrel
        by_cases hlt : i < n
        · have b1 : (i : Int) < (n : Int) := by omega
          have bn : (n : Int) ≤ 24 := by have := HS.out.2.2.2.1; omega
          have b0 : (0 : Int) ≤ (i : Int) := by omega
          obtain ⟨g', o', cp', e, _, hgq', hgs', x0, x1, _⟩ := hY.at (j := i) (by omega)
          injection e with e1 e0 e3
          injection e1 with e1
          injection e1 with e1 e2
          clear e0
          subst e1 e2 e3
          have hRi := hR i (Nat.le_refl _) hlt
          obtain ⟨y, hy⟩ : ∃ y, fs.getD i (0, undef, []) = y := ⟨_, rfl⟩
          rw [hy] at x0 x1 hRi
          obtain ⟨f, u, ts⟩ := y
          simp only at x0 x1 hRi
          obtain ⟨a2, c2, rfl, -⟩ := id hRi
          have hts : ts.length ≤ 24 := by
            have hm : (f, ts) ∈ p.ln := by
              rw [← hlv]
              refine List.mem_map.2 ⟨(f, .slice a2 ts.length c2, ts), ?_, rfl⟩
              rw [← hy]
              simp [List.getD, show i < fs.length by omega]
            exact HS.out.2.2.2.2 _ hm
          obtain ⟨m, hm⟩ : ∃ m, ts.length = m := ⟨_, rfl⟩
          rw [hm] at x1 hRi hy
          have HR : Hid (∀ j, i ≤ j → j < n → RdN W (fs.getD j (0, undef, [])).2.1 (fs.getD j (0, undef, [])).2.2) := hR
          have HB : Hid (B2 q W nm u0 u1 (.slice (some ⟨g, o, none⟩) n cp) wr) := hB
          have HY : Hid (EY (q + 2) [(0, u0, p.b0), (1, u1, p.b1)] fs i (.slice (some ⟨g, o, none⟩) n cp) wr) := hY
          have HF : Hid (fs.length = n ∧ lvl fs = p.ln ∧ i < n ∧ fs.getD i (0, undef, []) = (f, .slice a2 m c2, ts) ∧ ts.length ≤ 24 ∧ ts.length = m) := ⟨hfl, hlv, hlt, hy, hts, hm⟩
          have HRI : Hid (RdN W (.slice a2 m c2) ts) := hRi
          clear hR hB hY hfl hlv hy hRi hts hm hi
          go_upto_region 10 with (fail)
          have hal := (Below.refl wr.heap.size wr).alloc (Nat.le_refl _) (.cells #[.int .i64 f, .slice a2 m c2] 43)
          have hrow3 : (wr.alloc (.cells #[.int .i64 f, .slice a2 m c2] 43)).drew.heap[wr.heap.size]? = some (.cells #[.int .i64 f, .slice a2 m c2] 43) := heap_alloc_new _ _
          have hB3 := (HB.out.below hal.drew)
          have hY3 := (HY.out.below hal.drew)
          obtain ⟨nb, hnb⟩ : ∃ nb, wr.heap.size = nb := ⟨_, rfl⟩
          have hsz3 : (wr.alloc (.cells #[.int .i64 f, .slice a2 m c2] 43)).drew.heap.size = nb + 1 := by rw [← hnb]; exact size_alloc _ _
          obtain ⟨wd, hwd⟩ : ∃ wd, (wr.alloc (.cells #[.int .i64 f, .slice a2 m c2] 43)).drew = wd := ⟨_, rfl⟩
          rw [hwd] at hB3 hY3 hsz3 hrow3
          simp only [hnb] at hrow3 ⊢
          have hg3 : g < nb := by rw [← hnb]; exact hgs'
          refine Go.Pin.wp_region_hcls (fun Y => B2 q W nm u0 u1 (.slice (some ⟨g, o, none⟩) n cp) Y ∧ Y.heap[nb]? = some (.cells #[.int .i64 f, .slice a2 m c2] 43)) 9 (by rfl) (by kernel_rfl) (by rw [hwd]; exact ⟨hB3, hrow3⟩) ?_
          intro Sq fq hNq hRq hSq
          have z3 := fun x => (hRq x).1.c3
          have z4 := fun x => cell_of_row (fq x) nb 1 _ _ _ (hRq x).2
          simp at z4
          rw [hwd]
          have st0 : B2 q W nm u0 u1 (.slice (some ⟨g, o, none⟩) n cp) wd ∧ wd.heap[nb]? = some (.cells #[.int .i64 f, .slice a2 m c2] 43) := ⟨hB3, hrow3⟩
          have HY3 : Hid (EY (q + 2) [(0, u0, p.b0), (1, u1, p.b1)] fs i (.slice (some ⟨g, o, none⟩) n cp) wd) := hY3
          have HSZ : Hid (wd.heap.size = nb + 1 ∧ g < nb ∧ q + 1 < nb) := ⟨hsz3, hg3, by rw [← hnb]; exact HB.out.lt⟩
          clear hal hrow3 hB3 hY3 hsz3 hg3 x0 x1 hwd hnb
          refine Go.Pin.takeQ 0 (by simp only [List.getElem?_toArray, List.getElem?_cons_zero, List.getElem?_cons_succ]; exact rfl) (by kernel_rfl) (by kernel_rfl) (by kernel_rfl) (by rfl) (fun _ _ d _ _ h => by cases d <;> exact h) (st0) (hSq).out (by kernel_rfl) ?_
          intro Kq hKq
          go_big_quiet_op
          go_big_quiet_on
          refine Go.Pin.takeQ 1 (by simp only [List.getElem?_toArray, List.getElem?_cons_zero, List.getElem?_cons_succ]; exact rfl) (by kernel_rfl) (by kernel_rfl) (by kernel_rfl) (by rfl) (fun _ _ d _ _ h => by cases d <;> exact h) (st0) (hSq).out (by kernel_rfl) ?_
          intro Kq hKq
          go_big_quiet_op
          go_big_quiet_on
          refine Go.Pin.takeQ 2 (by simp only [List.getElem?_toArray, List.getElem?_cons_zero, List.getElem?_cons_succ]; exact rfl) (by kernel_rfl) (by kernel_rfl) (by kernel_rfl) (by rfl) (fun _ _ d _ _ h => by cases d <;> exact h) (st0) (hSq).out (by kernel_rfl) ?_
          intro Kq hKq
          go_big_quiet_op
          go_big_quiet_on
          refine Go.Pin.takeQ 3 (by simp only [List.getElem?_toArray, List.getElem?_cons_zero, List.getElem?_cons_succ]; exact rfl) (by kernel_rfl) (by kernel_rfl) (by kernel_rfl) (by rfl) (fun _ _ d _ _ h => by cases d <;> exact h) (st0) (hSq).out (by kernel_rfl) ?_
          intro Kq hKq
          go_big_quiet_op
          go_big_quiet_on
          refine Go.Pin.takeQ 4 (by simp only [List.getElem?_toArray, List.getElem?_cons_zero, List.getElem?_cons_succ]; exact rfl) (by kernel_rfl) (by kernel_rfl) (by kernel_rfl) (by rfl) (fun _ _ d _ _ h => by cases d <;> exact h) (st0) (hSq).out (by kernel_rfl) ?_
          intro Kq hKq
          go_big_quiet_op
          go_big_quiet_on
          refine Go.Pin.readyQ 5 (by simp only [List.getElem?_toArray, List.getElem?_cons_zero, List.getElem?_cons_succ]; exact rfl) (by kernel_rfl) (by kernel_rfl) ?_
          intro K hK
          refine wpCallV (d := some 36) (f := 59) (R := fun x w' => w'.ownsRow wd.heap.size 3 1 x ts.length (ts.map (Value.int .i64)) ∧ Below wd.heap.size wd w') rfl rfl (args := #[.slice a2 m c2]) (by simp only [List.map_toArray, List.map_cons, List.map_nil]; rfl) (fun _ => rfl) ((clone_ints _ ts wd (HRI.out.below (by rw [hq]; exact st0.1.old)) (by have := HF.out.2.2.2.2.1; omega)).mono (fun e w' ⟨x, h1, h2, h3⟩ => ⟨x, h1, h2, h3⟩)) ?_
          rintro x w4 ⟨hx, hb4⟩
          obtain ⟨ax, cx, rfl⟩ := own_slice' hx
          have st4 : B2 q W nm u0 u1 (.slice (some ⟨g, o, none⟩) n cp) w4 ∧ w4.heap[nb]? = some (.cells #[.int .i64 f, .slice a2 m c2] 43) := ⟨st0.1.below hb4, (hb4.block nb (by rw [HSZ.out.1]; omega)).trans st0.2⟩
          refine hK _ _ st4 ?_
          simp only [Act.put, List.setIfInBounds_toArray, List.set_cons_zero, List.set_cons_succ]
          clear hK K
          refine Go.Pin.takeQ 6 (by simp only [List.getElem?_toArray, List.getElem?_cons_zero, List.getElem?_cons_succ]; exact rfl) (by kernel_rfl) (by kernel_rfl) (by kernel_rfl) (by rfl) (fun _ _ d _ _ h => by cases d <;> exact h) (st4) (hSq).out (by kernel_rfl) ?_
          intro Kq hKq
          go_big_quiet_op
          go_big_quiet_on
          refine Go.Pin.takeQ 7 (by simp only [List.getElem?_toArray, List.getElem?_cons_zero, List.getElem?_cons_succ]; exact rfl) (by kernel_rfl) (by kernel_rfl) (by kernel_rfl) (by rfl) (fun _ _ d _ _ h => by cases d <;> exact h) (st4) (hSq).out (by kernel_rfl) ?_
          intro Kq hKq
          go_big_quiet_op
          go_big_quiet_on
          refine Go.Pin.readyQ 8 (by simp only [List.getElem?_toArray, List.getElem?_cons_zero, List.getElem?_cons_succ]; exact rfl) (by kernel_rfl) (by kernel_rfl) ?_
          intro K hK
          have hst := HY3.out.step (g := g) (o := o) (cap := cp) (by rw [HF.out.1]) (by rw [HF.out.1]; exact HF.out.2.2.1) hb4 (own_mn hx (by have := HSZ.out; omega)) (fun k hk => (hx.lt k hk).1)
          have k9 := hst.2.1
          have f9 := hst.2.2
          rw [HF.out.2.2.2.1] at k9
          simp only at k9
          have HST : Hid _ := hst.1
          clear hst
          refine wpSkp (d := none) (w' := w4.setCell ⟨g, o + i * 2 + 1, none⟩ (.slice ax ts.length cx)) rfl (by unfold execOp; go_simp) (hK _ _ ?_ ?_)
          · have ho : ∀ b, b ≠ g → (w4.setCell ⟨g, o + i * 2 + 1, none⟩ (.slice ax ts.length cx)).heap[b]? = w4.heap[b]? := fun b hne => heap_setCell_other _ _ _ _ hne
            have hgq3 : q + 2 ≤ g := hgq'
            exact ⟨⟨st4.1.old.setCell (p := ⟨g, o + i * 2 + 1, none⟩) (by show q ≤ g; omega) _, by rw [World.size_setCell]; exact st4.1.lt, (ho _ (by omega)).trans st4.1.row, (ho _ (by omega)).trans st4.1.row2⟩, (ho _ (by have := HSZ.out; omega)).trans st4.2⟩
          simp only [Act.put, List.setIfInBounds_toArray, List.set_cons_zero, List.set_cons_succ]
          clear hK K
          refine wpAnyH_done (by kernel_rfl) ?_ _
          have hB9 : B2 q W nm u0 u1 (.slice (some ⟨g, o, none⟩) n cp) (w4.setCell ⟨g, o + i * 2 + 1, none⟩ (.slice ax ts.length cx)) := by
            have ho : ∀ b, b ≠ g → (w4.setCell ⟨g, o + i * 2 + 1, none⟩ (.slice ax ts.length cx)).heap[b]? = w4.heap[b]? := fun b hne => heap_setCell_other _ _ _ _ hne
            have hgq3 : q + 2 ≤ g := hgq'
            exact ⟨st4.1.old.setCell (p := ⟨g, o + i * 2 + 1, none⟩) (by show q ≤ g; omega) _, by rw [World.size_setCell]; exact st4.1.lt, (ho _ (by omega)).trans st4.1.row, (ho _ (by omega)).trans st4.1.row2⟩
          have HB9 : Hid _ := hB9
          obtain ⟨w9, hw9⟩ : ∃ w9, w4.setCell ⟨g, o + i * 2 + 1, none⟩ (.slice ax ts.length cx) = w9 := ⟨_, rfl⟩
          rw [hw9] at HB9 HST ⊢
          clear hB9 hw9 st4 st0 k9 f9 z3 z4 hSq hRq hNq hb4 hx
          go_wp2
          have hF := HF.out
          refine ⟨⟨i + 1, fs.set i ((fs.getD i (0, undef, [])).1, .slice ax ts.length cx, ts), hF.2.2.1, congrArg (Value.int .i64) (Int.natCast_succ i).symm, by rw [List.length_set]; exact hF.1, ?_, HB9.out, HST.out, fun j h1 h2 => ?_⟩, by show n - ((i : Int) + 1).toNat < n - ((i : Int)).toNat; omega⟩
          · rw [← hF.2.1, hF.2.2.2.1]
            exact lvl_same (by rw [hF.1]; exact hF.2.2.1) hF.2.2.2.1 _
          · have : (fs.set i ((fs.getD i (0, undef, [])).1, Value.slice ax ts.length cx, ts)).getD j (0, undef, []) = fs.getD j (0, undef, []) := by
              simp only [List.getD, List.getElem?_set]
              rw [if_neg (by omega)]
            rw [this]
            exact HR.out j (by omega) h2
        · have b1 : ¬ (i : Int) < (n : Int) := by omega
          obtain rfl : i = n := by omega
          have HB : Hid (B2 q W nm u0 u1 (.slice (some ⟨g, o, none⟩) i cp) wr) := hB
          have HY : Hid (EX (q + 2) [] [(0, u0, p.b0), (1, u1, p.b1)] fs (.slice (some ⟨g, o, none⟩) i cp) wr) := by
            have : EY (q + 2) [(0, u0, p.b0), (1, u1, p.b1)] fs fs.length (.slice (some ⟨g, o, none⟩) i cp) wr := by rw [hfl]; exact hY
            exact this.all
          have HF : Hid (lvl fs = p.ln) := hlv
          have hu0 := HY.out.own (f := (0, u0, p.b0)) (by simp)
          have hu1 := HY.out.own (f := (1, u1, p.b1)) (by simp)
          simp only at hu0 hu1
          obtain ⟨au, ku, rfl⟩ := own_slice' hu0
          obtain ⟨av, kv, rfl⟩ := own_slice' hu1
          clear hu0 hu1
          have k0 := hB.c0
          have k1 := hB.c1
          have k2 := hB.c2
          have k3 := hB.c3
          have hrow2 := hB.row2
          clear hR hB hY hlv hfl
          go_wp2_with (with_reducible refine at_list ?_; refine hold_store 26 (.tmp 2) (.tmp 40) rfl ?_)
          refine wpList_store_row rfl 26 (.tmp 2) (.tmp 40) rfl (q + 1) #[.string nm, .slice au p.b0.length ku, .slice av p.b1.length kv, .slice (some ⟨g, o, none⟩) i cp] rfl rfl 26 zPR hrow2 (ipR _ _ _ _) rfl (by simp [Value.oneCell']) ?_
          go_wp2
          refine bodyPost_ret (v := .agg #[.string nm, .slice au p.b0.length ku, .slice av p.b1.length kv, .slice (some ⟨g, o, none⟩) i cp]) ?_ rfl ⟨?_, ?_⟩
          · exact results_cell_row (P := Tryd.prog) (fn := Tryd.f38) (p := 2) (ty := 26) rfl _ _ (q + 1) 26 _ (0, 0) _ rfl (setRow_heap _ _ _ _ 26 _ hrow2) Tryd.underlying26 rfl (ipR _ _ _ _)
          · rw [hq]
            exact below_setRow HB.out.old _ (by omega) _
          · refine ⟨_, _, _, fs, by rw [HN.out.2.1], HF.out, ?_⟩
            rw [hq]
            exact HY.out.keep (fun b hb _ _ => setRow_other _ _ _ _ (by omega))
end Go.Proofs.YtjhleocpipmklaaDoor
namespace Go.Proofs.YtjhleocpipmklaaDoor
set_option linter.unusedSimpArgs false
set_option linter.unusedVariables false
set_option maxRecDepth 100000
open Go.ChangeShapes Go.WideShapes Go.ChangeAt Go.RowKit Go.Pin Go.Pat Go.Deep
/-- the number of a psk word of at most that number -/
def nbr (s : ByteArray) (m : Nat) : Option Nat := if 0 ≤ nmb s ∧ nmb s ≤ m then some (nmb s).toNat else none
theorem dgN_up (s : ByteArray) : ∀ (k i n N : Nat), dgN s i = some n → dgN s (i + k) = some N → n ≤ N
  | 0, i, n, N, h, h2 => by rw [Nat.add_zero, h] at h2; injection h2 with h2; omega
  | k + 1, i, n, N, h, h2 => by
    rw [← Nat.add_assoc] at h2
    unfold dgN at h2
    cases e : dgN s (i + k) with
    | none => rw [e] at h2; cases h2
    | some m =>
      rw [e] at h2
      simp only at h2
      split at h2
      · cases h2
      · injection h2 with h2
        have := dgN_up s k i n m h e
        omega
theorem dgN_big (s : ByteArray) (h48 : byt s 3 ≠ 48) : ∀ (i n : Nat), dgN s (i + 1) = some n → 10 ^ i ≤ n
  | 0, n, h => by
    simp only [dgN, Nat.add_zero, Nat.zero_add] at h
    split at h
    · cases h
    · injection h with h
      rename_i hh
      simp only [Nat.pow_zero]
      omega
  | i + 1, n, h => by
    unfold dgN at h
    cases e : dgN s (i + 1) with
    | none => rw [e] at h; cases h
    | some m =>
      rw [e] at h
      simp only at h
      split at h
      · cases h
      · injection h with h
        have := dgN_big s h48 i m e
        rw [Nat.pow_succ]
        omega
theorem byt_gt (s : ByteArray) (i : Nat) (h : i < s.size) : byt s i = s[i].toNat := by
  unfold byt
  have : i < s.data.toList.length := by rw [Array.length_toList]; exact h
  rw [List.getD_eq_getElem?_getD, List.getElem?_eq_getElem this]
  rfl
theorem one_byte (D : ByteArray) (h : 0 < D.size) : (D.toList == [48]) = decide (D[0].toNat = 48 ∧ D.size = 1) := by
  obtain ⟨⟨l⟩⟩ := D
  rw [Go.ByteArray.toList_eq]
  match l, h with
  | [x], _ =>
    rw [Bool.eq_iff_iff, beq_iff_eq, decide_eq_true_iff]
    show [x] = [48] ↔ x.toNat = 48 ∧ 1 = 1
    constructor
    · intro e; injection e with e; rw [e]; exact ⟨rfl, rfl⟩
    · rintro ⟨e, _⟩; rw [show x = 48 from UInt8.toNat_inj.1 e]
  | x :: y :: r, _ =>
    rw [Bool.eq_iff_iff, beq_iff_eq, decide_eq_true_iff]
    constructor
    · intro e; simp at e
    · rintro ⟨_, e⟩; simp [ByteArray.size] at e
theorem psk_pre (s : ByteArray) : Lib.hasPrefix s.data.toList [112, 115, 107] = decide (s.extract 0 3 = pskW) := by
  rw [Bool.eq_iff_iff, decide_eq_true_iff]
  unfold Lib.hasPrefix
  rw [List.isPrefixOf_iff_prefix, List.prefix_iff_eq_take]
  show [112, 115, 107] = (toL s).take 3 ↔ _
  constructor
  · intro h
    refine toL_inj ?_
    rw [toL_ext, List.drop_zero, ← h]
    rfl
  · intro h
    have := congrArg toL h
    rw [toL_ext, List.drop_zero] at this
    exact this.symm
theorem nbr_no {s : ByteArray} {m n i : Nat} (hN : nmb s = if n + 3 < 4 ∨ 6 < n + 3 then -1 else if byt s 3 = 48 ∧ 4 < n + 3 then -1 else match dgN s n with | none => -1 | some n => (n : Int)) (hi : i ≤ n) (h : dgN s i = none) : nbr s m = none := by
  have h2 := dgN_mono s (n - i) i h
  rw [show i + (n - i) = n by omega] at h2
  have : nmb s = -1 := by rw [hN, h2]; split; rfl; split <;> rfl
  unfold nbr; rw [this]; simp
theorem nbr_big {s : ByteArray} {m n i k : Nat} (hN : nmb s = if n + 3 < 4 ∨ 6 < n + 3 then -1 else if byt s 3 = 48 ∧ 4 < n + 3 then -1 else match dgN s n with | none => -1 | some n => (n : Int)) (hi : i ≤ n) (h : dgN s i = some k) (hk : m < k) : nbr s m = none := by
  cases h2 : dgN s n with
  | none => exact nbr_no hN (Nat.le_refl _) h2
  | some N =>
    have h3 := dgN_up s (n - i) i k N h (by rw [show i + (n - i) = n by omega]; exact h2)
    rw [h2] at hN
    unfold nbr
    refine if_neg fun ⟨q1, q2⟩ => ?_
    rw [hN] at q1 q2
    split at q1
    · omega
    · split at q1
      · omega
      · rename_i a1 a2
        rw [if_neg a1, if_neg a2] at q2
        simp only at q2
        omega
theorem nbr_yes {s : ByteArray} {m n k : Nat} (hN : nmb s = if n + 3 < 4 ∨ 6 < n + 3 then -1 else if byt s 3 = 48 ∧ 4 < n + 3 then -1 else match dgN s n with | none => -1 | some n => (n : Int)) (hm : m ≤ 24) (hn : 0 < n) (hb : byt s 3 ≠ 48 ∨ n = 1) (h : dgN s n = some k) (hk : k ≤ m) : nbr s m = some k := by
  have h3 : n ≤ 3 := by
    rcases hb with hb | hb
    · refine Nat.le_of_not_lt fun h4 => ?_
      have := dgN_big s hb (n - 1) k (by rw [show n - 1 + 1 = n by omega]; exact h)
      have h5 : 10 ^ 3 ≤ 10 ^ (n - 1) := Nat.pow_le_pow_right (by omega) (by omega)
      omega
    · omega
  have : nmb s = k := by rw [hN, if_neg (by omega), if_neg (by omega), h]
  unfold nbr
  rw [this]
  rw [if_pos ⟨by omega, by omega⟩]
  simp
set_option maxHeartbeats 8000000 in
theorem numberOf_any (s : ByteArray) (m : Nat) (hm : m ≤ 24) (hs : s.size ≤ 140737488355328) (w : World) :
    Calls Tryd.prog 63 #[.string s, .int .i64 m] w fun e w' => e = .returned (.tuple #[.int .i64 ((nbr s m).getD 0 : Nat), .bool (nbr s m).isSome]) ∧ w' = w := by
  have CC := Tryd.strings_CutPrefix s ⟨#[112, 115, 107]⟩ w
  have hpp : Lib.hasPrefix s.data.toList [112, 115, 107] = decide (s.extract 0 3 = pskW) := psk_pre s
  simp only [Lib.trimPrefix, hpp, show (⟨#[112, 115, 107]⟩ : ByteArray).data.toList = [112, 115, 107] from rfl] at CC
  have hN : nmb s = if s.size < 4 ∨ 6 < s.size then -1 else if s.extract 0 3 ≠ pskW then -1 else if byt s 3 = 48 ∧ 4 < s.size then -1 else match dgN s (s.size - 3) with | none => -1 | some n => (n : Int) := rfl
  by_cases hp : s.extract 0 3 = pskW
  case neg =>
    have HN : Hid (nbr s m = none) := by
      show nbr s m = none
      have : nmb s = -1 := by rw [hN]; split <;> simp [hp]
      unfold nbr; rw [this]; simp
    rw [decide_eq_false hp] at CC
    simp only [Bool.false_eq_true, if_false] at CC
    clear hN hp hpp
    go_enter Tryd.func63, Tryd.ntmps63
    go_wp2_with (go_at_call 76; refine CC.mono ?_; rintro e w' ⟨rfl, rfl⟩)
    go_ret2
    exact ⟨by rw [HN.out]; rfl, rfl⟩
  rw [decide_eq_true hp] at CC
  simp only [if_true] at CC
  simp only [ne_eq, hp, not_true, if_false] at hN
  obtain ⟨D, hD⟩ : ∃ D : ByteArray, D = ⟨(List.drop ([112, 115, 107] : List UInt8).length s.data.toList).toArray⟩ := ⟨_, rfl⟩
  rw [← hD] at CC
  have hs3 : 3 ≤ s.size := by
    have := congrArg (fun x => (toL x).length) hp
    simp only [toL_ext, List.length_drop, List.length_take, toL_len, show toL pskW = [112, 115, 107] from rfl, List.length_cons, List.length_nil] at this
    omega
  have hDl : D.toList = (toL s).drop 3 := by rw [hD, Go.ByteArray.toList_eq]; rfl
  have hz : D.size = s.size - 3 := by rw [bsize_length, hDl, List.length_drop, toL_len]
  have hat : ∀ i (h : i < D.size), D[i].toNat = byt s (3 + i) := fun i h => by
    have h3 : 3 + i < s.size := by omega
    rw [byt_gt s (3 + i) h3]
    subst hD
    show ((toL s).drop 3)[i].toNat = (toL s)[3 + i].toNat
    simp
  obtain ⟨n, hn⟩ : ∃ n, D.size = n := ⟨_, rfl⟩
  have hsn : s.size = n + 3 := by omega
  have HS : Hid (s.size = n + 3 ∧ D.size = n ∧ n ≤ 140737488355328) := ⟨hsn, hn, by omega⟩
  rw [hsn] at hN
  by_cases h0 : n = 0
  · have HN : Hid (nbr s m = none) := by
      show nbr s m = none
      have : nmb s = -1 := by rw [hN, if_pos (.inl (by omega))]
      unfold nbr; rw [this]; simp
    have hE : D.toList = [] := List.eq_nil_of_length_eq_zero (by rw [← bsize_length]; omega)
    have hE2 : D.toList.isEmpty = true := by rw [hE]; rfl
    clear hN hp hpp hD hDl hz hat hsn hn h0
    go_enter Tryd.func63, Tryd.ntmps63
    go_wp2_with (go_at_call 76; refine CC.mono ?_; rintro e w' ⟨rfl, rfl⟩)
    go_ret2
    exact ⟨by rw [HN.out]; rfl, rfl⟩
  have hE : D.toList ≠ [] := fun h => h0 (by rw [← hn, bsize_length, h]; rfl)
  have hE2 : D.toList.isEmpty = false := by simpa using hE
  have hD0 : 0 < D.size := by omega
  have hb0 := hat 0 hD0
  rw [Nat.add_zero] at hb0
  have hq48 : (D.toList == [48]) = decide (byt s 3 = 48 ∧ n = 1) := by
    rw [one_byte D hD0, hb0, hn]
  obtain ⟨c, hc⟩ : ∃ c, D[0].toNat = c := ⟨_, rfl⟩
  rw [hc] at hb0
  by_cases hlz : c = 48 ∧ n ≠ 1
  · have HN : Hid (nbr s m = none) := by
      show nbr s m = none
      have : nmb s = -1 := by rw [hN]; split; rfl; rw [if_pos ⟨by omega, by omega⟩]
      unfold nbr; rw [this]; simp
    have g1 : ((c : Int) == 48) = true := by rw [hlz.1]; rfl
    rw [decide_eq_false (by omega)] at hq48
    clear hN hp hpp hD hDl hz hat hsn hn h0 hb0 hlz
    go_enter Tryd.func63, Tryd.ntmps63
    go_wp2_with (go_at_call 76; refine CC.mono ?_; rintro e w' ⟨rfl, rfl⟩)
    go_ret2
    exact ⟨by rw [HN.out]; rfl, rfl⟩
  have g0 : ∃ u v, ((c : Int) == 48) = u ∧ (D.toList == [48]) = v ∧ (u && !v) = false := by
    refine ⟨_, _, rfl, rfl, ?_⟩
    rw [hq48]
    by_cases hc48 : c = 48
    · rw [decide_eq_true ⟨by omega, by omega⟩]; simp
    · have : ((c : Int) == 48) = false := by simp; omega
      rw [this]; rfl
  obtain ⟨u, v, g1, g2, g3⟩ := g0
  have HB0 : Hid (byt s 3 ≠ 48 ∨ n = 1) := by show byt s 3 ≠ 48 ∨ n = 1; omega
  have HN0 : Hid (0 < n) := by show 0 < n; omega
  rw [show n + 3 - 3 = n from rfl] at hN
  have HN : Hid _ := hN
  have HAT : Hid _ := hat
  have HM : Hid (m ≤ 24) := hm
  have b24 : (m : Int) ≤ 24 := by omega
  clear hN hp hpp hD hDl hz hat hsn h0 hb0 hlz hq48 hs hm hs3
  rcases u with _ | _ <;> rcases v with _ | _
  case true.false => cases g3
  all_goals
    clear g3
    go_enter Tryd.func63, Tryd.ntmps63
    go_wp2_with (go_at_call 76; refine CC.mono ?_; rintro e w' ⟨rfl, rfl⟩)
  all_goals
    clear g1 g2 hc hE hE2 hD0 CC
    go_loopw [8, 32] (fun v8 v32 wr => ∃ i k : Nat, i ≤ n ∧ v32 = .int .i64 i ∧ v8 = .int .i64 k ∧ dgN s i = some k ∧ k ≤ m ∧ wr = w') (fun _ v _ => n - (intOf v).toNat)
    case atStart => exact ⟨0, 0, Nat.zero_le _, rfl, rfl, rfl, Nat.zero_le _, rfl⟩
    case round =>
      obtain ⟨i, k, hi, rfl, rfl, hd, hk, rfl⟩ := hrel
      have bn : (n : Int) ≤ 140737488355328 := by have := HS.out.2.2; omega
      by_cases hlt : i < n
      · have b1 : (i : Int) < (n : Int) := by omega
        have hsi : i < D.size := by omega
        have hbb := HAT.out i hsi
        obtain ⟨d, hdd⟩ : ∃ d, D[i].toNat = d := ⟨_, rfl⟩
        have hd8 : d < 256 := by rw [← hdd]; exact UInt8.toNat_lt _
        rw [hdd] at hbb
        have hst : dgN s (i + 1) = if byt s (3 + i) < 48 ∨ 57 < byt s (3 + i) then none else some (10 * k + byt s (3 + i) - 48) := by
          conv => lhs; unfold dgN
          rw [hd]
        rw [← hbb] at hst
        by_cases hlo : d < 48
        · have c1 : (d : Int) < 48 := by omega
          have HR : Hid (nbr s m = none) := nbr_no (i := i + 1) HN.out hlt (by rw [hst, if_pos (.inl hlo)])
          clear hst hbb hd hk
          go_wp2
          go_ret2
          exact ⟨by rw [HR.out]; rfl, rfl⟩
        by_cases hhi : 57 < d
        · have c1 : ¬ (d : Int) < 48 := by omega
          have c2 : (57 : Int) < (d : Int) := by omega
          have HR : Hid (nbr s m = none) := nbr_no (i := i + 1) HN.out hlt (by rw [hst, if_pos (.inr hhi)])
          clear hst hbb hd hk
          go_wp2
          go_ret2
          exact ⟨by rw [HR.out]; rfl, rfl⟩
        rw [if_neg (by omega)] at hst
        have c1 : ¬ (d : Int) < 48 := by omega
        have c2 : ¬ (57 : Int) < (d : Int) := by omega
        have c3 : (k : Int) ≤ 24 := by have := HM.out; omega
        have c4 : (0 : Int) ≤ (k : Int) := by omega
        have c5 : (48 : Int) ≤ (d : Int) := by omega
        have c6 : (d : Int) ≤ 57 := by omega
        by_cases hgt : m < 10 * k + d - 48
        · have c7 : (m : Int) < 10 * (k : Int) + ((d : Int) - 48) := by omega
          have HR : Hid (nbr s m = none) := nbr_big (i := i + 1) HN.out hlt hst hgt
          clear hst hbb hd hk hgt hlo hhi
          go_wp2
          go_ret2
          exact ⟨by rw [HR.out]; rfl, rfl⟩
        · have c7 : ¬ (m : Int) < 10 * (k : Int) + ((d : Int) - 48) := by omega
          have HR : Hid (dgN s (i + 1) = some (10 * k + d - 48) ∧ 10 * k + d - 48 ≤ m ∧ ((10 * k + d - 48 : Nat) : Int) = 10 * (k : Int) + ((d : Int) - 48)) := ⟨hst, by omega, by omega⟩
          clear hst hbb hd hk hgt hlo hhi
          go_wp2
          refine ⟨⟨i + 1, 10 * k + d - 48, hlt, congrArg (Value.int .i64) (Int.natCast_succ i).symm, ?_, HR.out.1, HR.out.2.1, trivial⟩, by show n - ((i : Int) + 1).toNat < n - ((i : Int)).toNat; omega⟩
          rw [HR.out.2.2]
      · have b1 : ¬ (i : Int) < (n : Int) := by omega
        obtain rfl : i = n := by omega
        have HR : Hid (nbr s m = some k) := nbr_yes HN.out HM.out HN0.out HB0.out hd hk
        clear hd
        go_wp2
        go_ret2
        exact ⟨by rw [HR.out]; rfl, rfl⟩
end Go.Proofs.YtjhleocpipmklaaDoor
