import Derived.Laws.StructEq
import Derived.Test.YtffpfnecmabhpaaDoorMtag
import Derived.Test.YtffpfnecmabhpaaDoorMtah
import Derived.Test.YtffpfnecmabhpaaDoorMtam
import Derived.Test.YtffpfnecmabhpaaDoorMtab
namespace Go.Proofs.YtffpfnecmabhpaaDoor
set_option linter.unusedSimpArgs false
set_option linter.unusedVariables false
open Go.ChangeShapes Go.WideShapes Go.ChangeAt Go.RowKit Go.Pin Go.Pat Go.Deep
def opIsG (ops : Array Oper) (i : Nat) (gd : Nat × Bool) (op : Op) (d : Option Nat) : Prop := (ops[i]?).map (fun o => (o.guard, o.op, o.dst)) = some (some gd, op, d)
theorem opIsG.get {ops : Array Oper} {i : Nat} {gd : Nat × Bool} {op : Op} {d : Option Nat} (h : opIsG ops i gd op d) : ∃ o, ops[i]? = some o ∧ o.guard = some gd ∧ o.op = op ∧ o.dst = d := by
  obtain ⟨o, h1, h5⟩ := Option.map_eq_some_iff.1 h
  simp only [Prod.mk.injEq] at h5
  exact ⟨o, h1, h5.1, h5.2.1, h5.2.2⟩
/-- the operation on which another one hangs has said yes -/
theorem wanted_g {ops : Array Oper} {j d : Nat} {a : Act} (hd : (ops[j]?).bind (·.dst) = some d) (he : a.eval (.tmp d) = .bool true) (hs : d < a.tmps.size) : yielded ops a.tmps j = some true := by
  unfold yielded
  rw [hd]
  simp only [Act.eval, Array.getD_eq_getD_getElem?] at he
  simp only [Option.bind_some]
  rw [Array.getElem?_eq_getElem hs] at he ⊢
  simp only [Option.getD_some] at he
  rw [he]
section
variable {P : Program} {ops : Array Oper} {Q : Exit → Act → World → Prop} {S : World → Prop} {fuel : Nat} {listed : Array Bool} {a : Act} {w : World}
theorem takeHG {i j : Nat} {op : Op} {d : Nat} {v : Value} (hc : opIsG ops i (j, true) op (some d)) (hs : Region.noSelect ops = true) (hf : Region.free .any ops listed i = true) (hr : (Region.ready .any ops listed).contains i = true) (hy : yielded ops a.tmps j = some true)
    (hQ : ∀ c (a : Act) d v w, Q (.panic c) (a.put d v) w → Q (.panic c) a w) (hrun : ∀ w, S w → ∀ o : Oper, o.op = op → (execOp a.eval o).run P w = .ok (.value v) w) (hS : S w)
    (h : wpAnyH P .any ops Q S fuel (listed.setIfInBounds i true) (a.put (some d) v) w) : wpAnyH P .any ops Q S (fuel + 1) listed a w := by
  obtain ⟨o, h1, h2, h3, h4⟩ := hc.get
  exact wpAnyH_take h1 hs hf hr (fun _ _ _ h => hQ _ _ _ _ _ h) (.inl ⟨by simp [Region.wanted, h2, hy], fun w hw => hrun w hw o h3⟩) hS (by rw [h4]; exact h)
theorem readyHG {i j : Nat} {op : Op} {d : Option Nat} (hc : opIsG ops i (j, true) op d) (hr : Region.ready .any ops listed = [i]) (hy : yielded ops a.tmps j = some true)
    (h : ∀ o : Oper, o.op = op → o.dst = d → Oper.wp P o a w (fun a' w' => S w' ∧ wpAnyH P .any ops Q S fuel (listed.setIfInBounds i true) a' w') Q) : wpAnyH P .any ops Q S (fuel + 1) listed a w := by
  obtain ⟨o, h1, h2, h3, h4⟩ := hc.get
  refine wpAnyH_all hr (by simp) (fun j' hj => ?_)
  obtain rfl : j' = i := by simpa using hj
  unfold wpOp
  simp only [h1]
  rw [if_pos (by simp [Region.wanted, h2, hy])]
  exact .inl (h o h3 h4)
end
theorem wanted_gf {ops : Array Oper} {j d : Nat} {a : Act} (hd : (ops[j]?).bind (·.dst) = some d) (he : a.eval (.tmp d) = .bool false) (hs : d < a.tmps.size) : yielded ops a.tmps j = some false := by
  unfold yielded
  rw [hd]
  simp only [Act.eval, Array.getD_eq_getD_getElem?] at he
  simp only [Option.bind_some]
  rw [Array.getElem?_eq_getElem hs] at he ⊢
  simp only [Option.getD_some] at he
  rw [he]
section
variable {P : Program} {ops : Array Oper} {Q : Exit → Act → World → Prop} {S : World → Prop} {fuel : Nat} {listed : Array Bool} {a : Act} {w : World}
theorem takeHF {i j : Nat} {op : Op} {d : Nat} {v : Value} (hc : opIsG ops i (j, false) op (some d)) (hs : Region.noSelect ops = true) (hf : Region.free .any ops listed i = true) (hr : (Region.ready .any ops listed).contains i = true) (hy : yielded ops a.tmps j = some false)
    (hQ : ∀ c (a : Act) d v w, Q (.panic c) (a.put d v) w → Q (.panic c) a w) (hrun : ∀ w, S w → ∀ o : Oper, o.op = op → (execOp a.eval o).run P w = .ok (.value v) w) (hS : S w)
    (h : wpAnyH P .any ops Q S fuel (listed.setIfInBounds i true) (a.put (some d) v) w) : wpAnyH P .any ops Q S (fuel + 1) listed a w := by
  obtain ⟨o, h1, h2, h3, h4⟩ := hc.get
  exact wpAnyH_take h1 hs hf hr (fun _ _ _ h => hQ _ _ _ _ _ h) (.inl ⟨by simp [Region.wanted, h2, hy], fun w hw => hrun w hw o h3⟩) hS (by rw [h4]; exact h)
theorem readyHF {i j : Nat} {op : Op} {d : Option Nat} (hc : opIsG ops i (j, false) op d) (hr : Region.ready .any ops listed = [i]) (hy : yielded ops a.tmps j = some false)
    (h : ∀ o : Oper, o.op = op → o.dst = d → Oper.wp P o a w (fun a' w' => S w' ∧ wpAnyH P .any ops Q S fuel (listed.setIfInBounds i true) a' w') Q) : wpAnyH P .any ops Q S (fuel + 1) listed a w := by
  obtain ⟨o, h1, h2, h3, h4⟩ := hc.get
  refine wpAnyH_all hr (by simp) (fun j' hj => ?_)
  obtain rfl : j' = i := by simpa using hj
  unfold wpOp
  simp only [h1]
  rw [if_pos (by simp [Region.wanted, h2, hy])]
  exact .inl (h o h3 h4)
end
section
variable {a : Act} {o : Oper} {x y z : Operand}
theorem run_ixG {g i n cap : Nat} (hi : i < n) (ho : o.op = .indexAddr 29 x y) (he : a.eval x = .slice (some ⟨g, 0, none⟩) n cap) (hf : a.eval y = .int .i64 (i : Int)) (w : World) : (execOp a.eval o).run Tryd.prog w = .ok (.value (.pointer (some ⟨g, i * 3, none⟩))) w := by
  unfold execOp
  have b4 : (i : Int) < (n : Int) := by omega
  simp only [ho, he, hf]
  go_simp
theorem run_fG1 {g k : Nat} (ho : o.op = .fieldAddr 35 x 1) (he : a.eval x = .pointer (some ⟨g, k, none⟩)) (w : World) : (execOp a.eval o).run Tryd.prog w = .ok (.value (.pointer (some ⟨g, k + 1, none⟩))) w := by
  unfold execOp
  simp only [ho, he]
  go_simp
theorem run_gt0 {v : Int} (ho : o.op = .binOp .gtr 3 x (.const (.int .i64 0)) 3) (he : a.eval x = .int .i64 v) (w : World) : (execOp a.eval o).run Tryd.prog w = .ok (.value (.bool (decide (0 < v)))) w := by
  unfold execOp
  have hc : a.eval (.const (.int .i64 0)) = .int .i64 0 := rfl
  simp only [ho, he, hc]
  go_simp
theorem run_eq2 {v : Int} (ho : o.op = .binOp .eql 3 x (.const (.int .i64 2)) 3) (he : a.eval x = .int .i64 v) (w : World) : (execOp a.eval o).run Tryd.prog w = .ok (.value (.bool (v == 2))) w := by
  unfold execOp
  have hc : a.eval (.const (.int .i64 2)) = .int .i64 2 := rfl
  simp only [ho, he, hc]
  go_simp
theorem run_nbs {c : Bool} (ho : o.op = .binOp .neq 4 x y 4) (he : a.eval x = .bool c) (hf : a.eval y = .bool c) (w : World) : (execOp a.eval o).run Tryd.prog w = .ok (.value (.bool false)) w := by
  unfold execOp
  simp only [ho, he, hf]
  cases c <;> go_simp
theorem run_pickF {v : Value} (ho : o.op = .pick x y z) (hx : a.eval x = .bool false) (hz : a.eval z = v) (w : World) : (execOp a.eval o).run Tryd.prog w = .ok (.value v) w := by
  unfold execOp
  simp only [ho, hx, hz]
  go_simp
end
end Go.Proofs.YtffpfnecmabhpaaDoor
namespace Go.Proofs.YtffpfnecmabhpaaDoor
set_option linter.unusedSimpArgs false
set_option linter.unusedVariables false
open Go.ChangeShapes Go.WideShapes Go.ChangeAt Go.RowKit Go.Pin Go.Pat Go.Deep
theorem src_has (p : Pt) (k : Nat) : h3 p k (stc (sender p k)) 6 (stc (sender p k)) = decide (0 < src p k) ∧ h3 p k (stc (sender p k)) (stc (sender p k)) (stc (sender p k)) = (src p k == 2) := by
  rw [h3_two, h3_one]
  unfold src
  rcases dn p k (stc (sender p k)) with _ | _ <;> rcases dn p k 6 with _ | _ <;> simp
theorem dst_has (p : Pt) (k : Nat) : (decide (2 ≤ dst p k) = dn p k (stc (1 - sender p k))) ∧ (decide (3 ≤ dst p k) = (dn p k 3 && dn p k (stc (1 - sender p k)))) ∧ ((dst p k == 1) = (dn p k 3 && !dn p k (stc (1 - sender p k)))) := by
  have hb := bst_in p (sender p k) k
  unfold dst
  rcases dn p k (stc (1 - sender p k)) with _ | _ <;> rcases dn p k 3 with _ | _ <;> simp <;> omega
theorem lvE_zero {p : Pt} {more : Int} (h : lvE p more = 0) : chk p = 0 ∧ ∃ mo : Nat, more = mo ∧ mo ≤ 64 ∧ lvL p more = (List.range (p.ln.length + mo)).map (gd p) := by
  have hc : chk p = 0 := by
    unfold lvE at h
    by_cases e : chk p = 0
    · exact e
    · simp [e] at h
  have hm : ¬ (more < 0 ∨ 64 < more) := by
    intro hm
    simp [lvE, hc, hm] at h
  refine ⟨hc, more.toNat, by omega, by omega, ?_⟩
  unfold lvL
  rw [if_pos h]
theorem chk_lines {p : Pt} (h : chk p = 0) : p.ln.length ≠ 0 := by
  intro e
  have : p.ln = [] := List.length_eq_zero_iff.1 e
  simp [chk, shaped, this] at h
end Go.Proofs.YtffpfnecmabhpaaDoor
namespace Go.Proofs.YtffpfnecmabhpaaDoor
set_option linter.unusedSimpArgs false
set_option linter.unusedVariables false
open Go.ChangeShapes Go.WideShapes Go.ChangeAt Go.RowKit Go.Pin Go.Pat Go.Deep
/-- grades that are read -/
def RdG (w : World) (v : Value) (l : List Gd) : Prop :=
  ∃ a cap, v = .slice a l.length cap ∧ l.length ≤ cap ∧ l.length ≤ 140737488355328 ∧ (l = [] ∨ ∃ b o, a = some ⟨b, o, none⟩ ∧ w.rangeAt b o (gcs l))
theorem RdG.at {w : World} {a : Option Addr} {n cap : Nat} {l : List Gd} (h : RdG w (.slice a n cap) l) : n = l.length ∧ n ≤ cap ∧ n ≤ 140737488355328 ∧ ∀ j, j < n → ∃ b o, a = some ⟨b, o, none⟩ ∧ ∀ W, Below w.heap.size w W → W.cell? ⟨b, o + j * 3, none⟩ = some (.int .i64 (l.getD j (0, 0, 0)).1) ∧ W.cell? ⟨b, o + j * 3 + 1, none⟩ = some (.int .i64 (l.getD j (0, 0, 0)).2.1) ∧ W.cell? ⟨b, o + j * 3 + 2, none⟩ = some (.int .i64 (l.getD j (0, 0, 0)).2.2) := by
  obtain ⟨a', c', e, h1, h2, h3⟩ := h
  injection e with e1 e2 e3
  subst e1 e2 e3
  refine ⟨rfl, h1, h2, fun j hj => ?_⟩
  rcases h3 with h3 | ⟨b, o, h3, h4⟩
  · subst h3; simp at hj
  · refine ⟨b, o, h3, fun W hW => ?_⟩
    have g := gcs_at l j hj
    have hc : ∀ i v, (gcs l)[i]? = some v → W.cell? ⟨b, o + i, none⟩ = some v := fun i v hv => by
      rw [World.cell?_of_block (a := ⟨b, o + i, none⟩) (hW.block b (World.block_lt_of_cell? w _ (h4 i _ hv)))]
      exact h4 i _ hv
    exact ⟨hc _ _ g.1, hc _ _ g.2.1, hc _ _ g.2.2⟩
theorem RdG.below {w W : World} {v : Value} {l : List Gd} (h : RdG w v l) (hb : Below w.heap.size w W) : RdG W v l := by
  obtain ⟨a, c, e, h1, h2, h3⟩ := h
  refine ⟨a, c, e, h1, h2, ?_⟩
  rcases h3 with h3 | ⟨b, o, h3, h4⟩
  · exact .inl h3
  · exact .inr ⟨b, o, h3, fun j v hv => by rw [World.cell?_of_block (a := ⟨b, o + j, none⟩) (hb.block b (World.block_lt_of_cell? w _ (h4 j v hv)))]; exact h4 j v hv⟩
theorem own_rd {W : World} {b : Nat} {u : Value} {n : Nat} {l : List Gd} (h : W.ownsRow b 35 3 u n (gcs l)) (hn : l.length ≤ 140737488355328) : RdG W u l := by
  have hl : n = l.length := by have := h.1; rw [gcs_length] at this; omega
  subst hl
  rcases h.2 with ⟨rfl, e⟩ | ⟨g, cap', cur, e, hb, hg, h1, h2, h3, h4⟩
  · exact ⟨none, 0, by rw [e], by omega, hn, .inl (List.length_eq_zero_iff.1 e)⟩
  · refine ⟨_, cap', e, by omega, hn, .inr ⟨g, 0, rfl, fun i v hv => ?_⟩⟩
    have hi : i < l.length * 3 := by
      have := (List.getElem?_eq_some_iff.1 hv).1
      rw [gcs_length] at this
      omega
    rw [cell_of_row _ _ _ _ _ _ hg, ← hv, ← h4, List.getElem?_take_of_lt hi]
    simp
theorem gcs_take (l : List Gd) (k : Nat) : gcs (l.take k) = (gcs l).take (k * 3) := by
  induction l generalizing k with
  | nil => simp [gcs]
  | cons g r ih =>
    cases k with
    | zero => simp [gcs]
    | succ k =>
      have e : ∀ (g : Gd) r, gcs (g :: r) = .int .i64 g.1 :: .int .i64 g.2.1 :: .int .i64 g.2.2 :: gcs r := fun g r => by simp [gcs]
      rw [List.take_succ_cons, e, e, ih, show (k + 1) * 3 = k * 3 + 1 + 1 + 1 by omega]
      simp
/-- its first k -/
theorem RdG.take {w : World} {a : Option Addr} {n cap : Nat} {l : List Gd} (h : RdG w (.slice a n cap) l) {k : Nat} (hk : k ≤ n) : RdG w (.slice a k cap) (l.take k) := by
  obtain ⟨a', c', e, h1, h2, h3⟩ := h
  injection e with e1 e2 e3
  subst e1 e2 e3
  have hl : (l.take k).length = k := by rw [List.length_take]; omega
  refine ⟨a, cap, by rw [hl], by omega, by omega, ?_⟩
  rcases h3 with h3 | ⟨b, o, h3, h4⟩
  · exact .inl (by rw [h3]; simp)
  · refine .inr ⟨b, o, h3, fun j v hv => h4 j v ?_⟩
    rw [gcs_take] at hv
    rw [List.getElem?_take] at hv
    split at hv
    · exact hv
    · simp at hv
theorem gd_ext {l m : List Gd} (hn : l.length = m.length) (h : ∀ j, j < l.length → l.getD j (0, 0, 0) = m.getD j (0, 0, 0)) : l = m :=
  List.ext_getElem hn fun j h1 h2 => by simpa [List.getD, h1, h2] using h j h1
theorem fieldsG : Tryd.prog.underlying 35 = some (.struct (Tryd.prog.fieldsOf 35)) ∧ Tryd.prog.stoodInHeld 35 = false ∧ Tryd.prog.eqGuardType Tryd.prog.depth 35 = false := ⟨by kernel_rfl, by kernel_rfl, by kernel_rfl⟩
theorem eqG (x1 x2 x3 y1 y2 y3 : Int) (w : World) : (Op.equalIn 10000 35 (.agg #[.int .i64 x1, .int .i64 x2, .int .i64 x3]) (.agg #[.int .i64 y1, .int .i64 y2, .int .i64 y3])).run Tryd.prog w = .ok (x1 == y1 && (x2 == y2 && x3 == y3)) w := by
  rw [run_equalIn_struct (P := Tryd.prog) w 9999 35 _ _ fieldsG.1 fieldsG.2.1]
  unfold Program.fieldsOf
  rw [Tryd.underlying35]
  simp [go_sem]
  by_cases h1 : x1 = y1 <;> by_cases h2 : x2 = y2 <;> by_cases h3 : x3 = y3 <;> simp [h1, h2, h3]
theorem grade_eq {x1 x2 x3 y1 y2 y3 : Int} : (x1 == y1 && (x2 == y2 && x3 == y3)) = decide (((x1, x2, x3) : Gd) = (y1, y2, y3)) := by
  by_cases h1 : x1 = y1 <;> by_cases h2 : x2 = y2 <;> by_cases h3 : x3 = y3 <;> simp [h1, h2, h3]
end Go.Proofs.YtffpfnecmabhpaaDoor
namespace Go.Proofs.YtffpfnecmabhpaaDoor
set_option linter.unusedSimpArgs false
set_option linter.unusedVariables false
open Go.ChangeShapes Go.WideShapes Go.ChangeAt Go.RowKit Go.Pin Go.Pat Go.Deep
def pTop : Pt := ⟨⟨#[]⟩, [], [], [(0, [1]), (1, [1, 3])]⟩
theorem top_ok : lvE pTop 1 = 0 ∧ lvL pTop 1 = [(0, 0, 0), (1, 0, 1), (0, 0, 1)] := by decide +kernel
set_option maxRecDepth 100000 in
set_option maxHeartbeats 4000000 in
theorem tgrades_any {ea : Int → Addr} (W : World) (hE : Errs ea W) : Calls Tryd.prog 5 #[] W fun e w' => e = .returned (.bool true) ∧ Below W.heap.size W w' := by
  have HE : Hid (∀ Y, Below W.heap.size W Y → Errs ea Y) := fun Y hY => hE.below hY
  clear hE
  go_enter Tryd.func5, Tryd.ntmps5
  go_upto_region 2 with (fail)
  obtain ⟨q, hq⟩ : ∃ q, W.heap.size = q := ⟨_, rfl⟩
  rw [hq] at HE
  simp only [hq]
  obtain ⟨A, hA⟩ : ∃ A, W.alloc (.cells #[.int .i64 1] 3) = A := ⟨_, rfl⟩
  obtain ⟨B, hB⟩ : ∃ B, A.alloc (.cells #[.int .i64 1, .int .i64 3] 3) = B := ⟨_, rfl⟩
  obtain ⟨C, hC⟩ : ∃ C, B.alloc (.cells #[.int .i64 0, .slice (some ⟨q, 0, none⟩) 1 1, .int .i64 1, .slice (some ⟨q + 1, 0, none⟩) 2 2] 45) = C := ⟨_, rfl⟩
  obtain ⟨D, hD⟩ : ∃ D, C.alloc (.cells #[.string ⟨#[]⟩, .slice none 0 0, .slice none 0 0, .slice (some ⟨q + 1 + 1, 0, none⟩) 2 2] 26) = D := ⟨_, rfl⟩
  simp only [hA, hB, hC, hD]
  have zA : A.heap.size = q + 1 := by rw [← hA, size_alloc, hq]
  have zB : B.heap.size = q + 1 + 1 := by rw [← hB, size_alloc, zA]
  have zC : C.heap.size = q + 1 + 1 + 1 := by rw [← hC, size_alloc, zB]
  have bAB : Below (q + 1) A B := by rw [← hB]; exact (Below.refl _ _).alloc (by omega) _
  have bBC : Below (q + 1 + 1) B C := by rw [← hC]; exact (Below.refl _ _).alloc (by omega) _
  have bCD : Below (q + 1 + 1 + 1) C D := by rw [← hD]; exact (Below.refl _ _).alloc (by omega) _
  have bWA : Below q W A := by rw [← hA]; exact (Below.refl _ _).alloc (by omega) _
  have bWD : Below q W D := ((bWA.trans (bAB.mono (by omega))).trans (bBC.mono (by omega))).trans (bCD.mono (by omega))
  have rA : A.heap[q]? = some (.cells #[.int .i64 1] 3) := by rw [← hA, ← hq]; exact heap_alloc_new _ _
  have rB : B.heap[q + 1]? = some (.cells #[.int .i64 1, .int .i64 3] 3) := by rw [← hB, ← zA]; exact heap_alloc_new _ _
  have rC : C.heap[q + 1 + 1]? = some (.cells #[.int .i64 0, .slice (some ⟨q, 0, none⟩) 1 1, .int .i64 1, .slice (some ⟨q + 1, 0, none⟩) 2 2] 45) := by rw [← hC, ← zB]; exact heap_alloc_new _ _
  have rD : D.heap[q + 1 + 1 + 1]? = some (.cells #[.string ⟨#[]⟩, .slice none 0 0, .slice none 0 0, .slice (some ⟨q + 1 + 1, 0, none⟩) 2 2] 26) := by rw [← hD, ← zC]; exact heap_alloc_new _ _
  have rA' : D.heap[q]? = some (.cells #[.int .i64 1] 3) := (bCD.block q (by omega)).trans ((bBC.block q (by omega)).trans ((bAB.block q (by omega)).trans rA))
  have rB' : D.heap[q + 1]? = some (.cells #[.int .i64 1, .int .i64 3] 3) := (bCD.block _ (by omega)).trans ((bBC.block _ (by omega)).trans rB)
  have rC' : D.heap[q + 1 + 1]? = some (.cells #[.int .i64 0, .slice (some ⟨q, 0, none⟩) 1 1, .int .i64 1, .slice (some ⟨q + 1, 0, none⟩) 2 2] 45) := (bCD.block _ (by omega)).trans rC
  have n1 : RdN D (.slice (some ⟨q, 0, none⟩) 1 1) [1] := ⟨_, _, rfl, ⟨Nat.le_refl _, fun h => nomatch h⟩, by simp, .inr ⟨q, 0, rfl, fun j v hv => by
    rw [Nat.zero_add, cell_of_row _ _ _ _ _ _ rA', ← hv]; simp⟩⟩
  have n2 : RdN D (.slice (some ⟨q + 1, 0, none⟩) 2 2) [1, 3] := ⟨_, _, rfl, ⟨Nat.le_refl _, fun h => nomatch h⟩, by simp, .inr ⟨q + 1, 0, rfl, fun j v hv => by
    rw [Nat.zero_add, cell_of_row _ _ _ _ _ _ rB', ← hv]; simp⟩⟩
  have hrd : RdP D (.agg #[.string ⟨#[]⟩, .slice none 0 0, .slice none 0 0, .slice (some ⟨q + 1 + 1, 0, none⟩) 2 2]) pTop := by
    refine ⟨_, _, _, rfl, ⟨none, 0, rfl, by simp [pTop], by simp [pTop], .inl rfl⟩, ⟨none, 0, rfl, by simp [pTop], by simp [pTop], .inl rfl⟩, ⟨_, _, rfl, Nat.le_refl _, by simp [pTop], fun j hj => ?_⟩⟩
    have hj2 : j < 2 := hj
    obtain rfl | rfl : j = 0 ∨ j = 1 := by omega
    · exact ⟨q + 1 + 1, 0, _, rfl, by rw [cell_of_row _ _ _ _ _ _ rC']; rfl, by rw [cell_of_row _ _ _ _ _ _ rC']; rfl, n1⟩
    · exact ⟨q + 1 + 1, 0, _, rfl, by rw [cell_of_row _ _ _ _ _ _ rC']; rfl, by rw [cell_of_row _ _ _ _ _ _ rC']; rfl, n2⟩
  have CL := plevels_any (ea := ea) _ pTop D 1 (HE.out D bWD) hrd (by decide) (by decide)
  rw [top_ok.1, top_ok.2] at CL
  have ez : EV ea 0 = .nilIface := rfl
  rw [ez] at CL
  have c0 : D.cell? ⟨q + 1 + 1 + 1, 0, none⟩ = some (.string ⟨#[]⟩) := by rw [cell_of_row _ _ _ _ _ _ rD]; rfl
  have c1 : D.cell? ⟨q + 1 + 1 + 1, 1, none⟩ = some (.slice none 0 0) := by rw [cell_of_row _ _ _ _ _ _ rD]; rfl
  have c2 : D.cell? ⟨q + 1 + 1 + 1, 2, none⟩ = some (.slice none 0 0) := by rw [cell_of_row _ _ _ _ _ _ rD]; rfl
  have c3 : D.cell? ⟨q + 1 + 1 + 1, 3, none⟩ = some (.slice (some ⟨q + 1 + 1, 0, none⟩) 2 2) := by rw [cell_of_row _ _ _ _ _ _ rD]; rfl
  have HBD : Hid (Below q W D) := bWD
  have HZD : Hid (q ≤ D.heap.size) := by show q ≤ D.heap.size; have := bCD.size; omega
  clear hA hB hC hD zA zB zC bAB bBC bCD bWA bWD rA rB rC rD rA' rB' rC' n1 n2 hrd ez
  go_upto_region 3 with (go_at_call 6; refine Calls.mono CL ?_; clear CL; rintro e w3 ⟨u, rfl, ho, hb⟩; have HB3 : Hid (Below q W w3) := HBD.out.trans (hb.mono HZD.out); have HO3 : Hid (w3.ownsRow D.heap.size 35 3 u [((0 : Int), (0 : Int), (0 : Int)), (1, 0, 1), (0, 0, 1)].length (gcs [(0, 0, 0), (1, 0, 1), (0, 0, 1)])) := ho; clear ho hb c0 c1 c2 c3)
  obtain ⟨au, cu, rfl⟩ := own_slice' HO3.out
  have hoc := own_cell HO3.out
  have hge : ∀ j u, (gcs [((0 : Int), (0 : Int), (0 : Int)), (1, 0, 1), (0, 0, 1)])[j]? = some u → ∃ g, au = some ⟨g, 0, none⟩ ∧ D.heap.size ≤ g ∧ w3.cell? ⟨g, j, none⟩ = some u := hoc.2
  obtain ⟨g, rfl, -, x0⟩ := hge 0 (.int .i64 0) rfl
  have hg2 : ∀ j u, (gcs [((0 : Int), (0 : Int), (0 : Int)), (1, 0, 1), (0, 0, 1)])[j]? = some u → w3.cell? ⟨g, j, none⟩ = some u := fun j u h => by
    obtain ⟨g', e, _, h'⟩ := hge j u h
    injection e with e
    injection e with e
    rw [e]; exact h'
  have x1 := hg2 1 (.int .i64 0) rfl
  have x2 := hg2 2 (.int .i64 0) rfl
  have x3 := hg2 3 (.int .i64 1) rfl
  have x4 := hg2 4 (.int .i64 0) rfl
  have x5 := hg2 5 (.int .i64 1) rfl
  have x6 := hg2 6 (.int .i64 0) rfl
  have x7 := hg2 7 (.int .i64 0) rfl
  have x8 := hg2 8 (.int .i64 1) rfl
  have eq1 := eqG 0 0 0 0 0 0
  have eq2 := eqG 1 0 1 1 0 1
  have eq3 := eqG 0 0 1 0 0 1
  simp only [beq_self_eq_true, Bool.and_self] at eq1 eq2 eq3
  have gt := fieldsG.2.2
  simp only [List.length_cons, List.length_nil, Nat.zero_add, Nat.reduceAdd]
  clear hoc hge hg2
  go_wp2
  go_ret
  exact ⟨rfl, by rw [hq]; exact HB3.out⟩
/-- the best so far of both sides -/
def BB (g : Nat) (x y : Gd) (w : World) : Prop := w.heap[g]? = some (.cells #[.int .i64 x.1, .int .i64 x.2.1, .int .i64 x.2.2, .int .i64 y.1, .int .i64 y.2.1, .int .i64 y.2.2] 36)
/-- one that was ahead, or nothing -/
def Bst (p : Pt) (i : Nat) (f : Int) (x : Gd) : Prop := x = (0, 0, 0) ∨ ∃ j, j < i ∧ sender p j = f ∧ x = gd p j
theorem Bst.le {p : Pt} {i : Nat} {x : Gd} (h : Bst p i (sender p i) x) : x.2.1 ≤ src p i ∧ x.2.2 ≤ dst p i := by
  rcases h with rfl | ⟨j, hj, hs, rfl⟩
  · exact ⟨(src_in p i).1, (dst_in p i).1⟩
  · exact ⟨src_mono (Nat.le_of_lt hj) hs, dst_mono (Nat.le_of_lt hj) hs⟩
theorem Bst.next {p : Pt} {i : Nat} {f : Int} {x : Gd} (h : Bst p i f x) : Bst p (i + 1) f x := by
  rcases h with h | ⟨j, hj, h⟩
  · exact .inl h
  · exact .inr ⟨j, by omega, h⟩
theorem BB.set0 {g : Nat} {x y : Gd} {w : World} (h : BB g x y w) (z : Gd) : BB g z y (w.setCells g 0 [.int .i64 z.1, .int .i64 z.2.1, .int .i64 z.2.2]) := by
  have e1 := heap_setCell_same w g 0 _ _ (.int .i64 z.1) h
  have e2 := heap_setCell_same _ g (0 + 1) _ _ (.int .i64 z.2.1) e1
  have e3 := heap_setCell_same _ g (0 + 1 + 1) _ _ (.int .i64 z.2.2) e2
  exact e3
theorem BB.set1 {g : Nat} {x y : Gd} {w : World} (h : BB g x y w) (z : Gd) : BB g x z (w.setCells g 3 [.int .i64 z.1, .int .i64 z.2.1, .int .i64 z.2.2]) := by
  have e1 := heap_setCell_same w g 3 _ _ (.int .i64 z.1) h
  have e2 := heap_setCell_same _ g (3 + 1) _ _ (.int .i64 z.2.1) e1
  have e3 := heap_setCell_same _ g (3 + 1 + 1) _ _ (.int .i64 z.2.2) e2
  exact e3
theorem BB.there {g : Nat} {x y : Gd} {w : World} (h : BB g x y w) {o : Nat} (ho : o = 0 ∨ o = 3) : w.there g o 3 := fun k hk => by
  refine ⟨?_, frozen_of_row _ _ _ _ _ h⟩
  rw [cell_of_row _ _ _ _ _ _ h]
  rcases ho with rfl | rfl <;> (obtain rfl | rfl | rfl : k = 0 ∨ k = 1 ∨ k = 2 := by omega) <;> rfl
set_option maxRecDepth 100000 in
set_option maxHeartbeats 8000000 in
theorem worth_walk {ea : Int → Addr} (v : Value) (p : Pt) (more : Int) (W : World) (hE : Errs ea W) (hR : RdP W v p) (hm1 : -9223372036854775808 ≤ more) (hm2 : more < 9223372036854775808) :
    Calls Tryd.prog 3 #[v, .int .i64 more] W fun e w' => e = .returned (.bool true) ∧ Below W.heap.size W w' := by
  have hrd := hR
  have HGR0 : Hid (∀ Y, Below W.heap.size W Y → Calls Tryd.prog 5 #[] Y fun e w' => e = .returned (.bool true) ∧ Below Y.heap.size Y w') := fun Y hY => tgrades_any Y (hE.below hY)
  obtain ⟨v0, v1, vl, rfl, h0, h1, hl⟩ := hR
  obtain ⟨a0, p0, rfl, -, -, -⟩ := id h0
  obtain ⟨a1, p1, rfl, -, -, -⟩ := id h1
  obtain ⟨al, cl, rfl, -, -, -⟩ := id hl
  have hst := pb_start W p.nm (.slice a0 p.b0.length p0) (.slice a1 p.b1.length p1) (.slice al p.ln.length cl)
  obtain ⟨q, hq⟩ : ∃ q, W.heap.size = q := ⟨_, rfl⟩
  obtain ⟨nm, hnm⟩ : ∃ nm, p.nm = nm := ⟨_, rfl⟩
  obtain ⟨n0, hn0⟩ : ∃ n0, p.b0.length = n0 := ⟨_, rfl⟩
  obtain ⟨n1, hn1⟩ : ∃ n1, p.b1.length = n1 := ⟨_, rfl⟩
  obtain ⟨L, hLn⟩ : ∃ L, p.ln.length = L := ⟨_, rfl⟩
  simp only [hq, hnm, hn0, hn1, hLn] at hst hrd HGR0 ⊢
  obtain ⟨W1, hW1⟩ : ∃ W1, W.alloc (.cells #[.string nm, .slice a0 n0 p0, .slice a1 n1 p1, .slice al L cl] 26) = W1 := ⟨_, rfl⟩
  rw [hW1] at hst
  have HP : Hid (PB q W nm (.slice a0 n0 p0) (.slice a1 n1 p1) (.slice al L cl) W1) := hst
  have HRD : Hid (∀ Y, Below q W Y → RdP Y (.agg #[.string nm, .slice a0 n0 p0, .slice a1 n1 p1, .slice al L cl]) p) := fun Y hY => hrd.below (by rw [hq]; exact hY)
  have HER : Hid (∀ Y, Below q W Y → Errs ea Y) := fun Y hY => hE.below (by rw [hq]; exact hY)
  have HGR : Hid (∀ Y, Below q W Y → Calls Tryd.prog 5 #[] Y fun e w' => e = .returned (.bool true) ∧ Below Y.heap.size Y w') := HGR0.out
  have CK0 := check_any _ p W1 (HRD.out W1 hst.old)
  have HLN : Hid (p.ln.length = L) := hLn
  have HM : Hid (-9223372036854775808 ≤ more ∧ more < 9223372036854775808) := ⟨hm1, hm2⟩
  have c0 := hst.c0
  have c1 := hst.c1
  have c2 := hst.c2
  have c3 := hst.c3
  clear hst hrd hE h0 h1 hl hm1 hm2 hn0 hn1 hLn hnm HGR0
  by_cases hc : chk p = 0
  case neg =>
    obtain ⟨cc, hcc⟩ : ∃ cc, chk p = cc := ⟨_, rfl⟩
    rw [hcc] at CK0 hc
    have t1 : (cc != 0) = true := by simpa using hc
    clear hcc hc
    go_enter Tryd.func3, Tryd.ntmps3
    go_wp2_with (first
      | (go_at_call 4; refine Calls.mono CK0 ?_; clear CK0; rintro e w1 ⟨rfl, hb⟩; have HB1 : Hid (PB q W nm (.slice a0 n0 p0) (.slice a1 n1 p1) (.slice al L cl) w1) := HP.out.below hb; have CG := HGR.out w1 HB1.out.old; clear hb)
      | (go_at_call 5; refine Calls.mono CG ?_; clear CG; rintro e w2 ⟨rfl, hb⟩; have HB2 : Hid (Below q W w2) := HB1.out.old.trans (hb.mono (by have := HB1.out.lt; omega)); clear hb))
    go_ret
    exact ⟨rfl, HB2.out⟩
  rw [hc] at CK0
  by_cases hmo : more < 0
  · go_enter Tryd.func3, Tryd.ntmps3
    go_wp2_with (first
      | (go_at_call 4; refine Calls.mono CK0 ?_; clear CK0; rintro e w1 ⟨rfl, hb⟩; have HB1 : Hid (PB q W nm (.slice a0 n0 p0) (.slice a1 n1 p1) (.slice al L cl) w1) := HP.out.below hb; have CG := HGR.out w1 HB1.out.old; clear hb)
      | (go_at_call 5; refine Calls.mono CG ?_; clear CG; rintro e w2 ⟨rfl, hb⟩; have HB2 : Hid (Below q W w2) := HB1.out.old.trans (hb.mono (by have := HB1.out.lt; omega)); clear hb))
    go_ret
    exact ⟨rfl, HB2.out⟩
  by_cases hmo2 : 64 < more
  · go_enter Tryd.func3, Tryd.ntmps3
    go_wp2_with (first
      | (go_at_call 4; refine Calls.mono CK0 ?_; clear CK0; rintro e w1 ⟨rfl, hb⟩; have HB1 : Hid (PB q W nm (.slice a0 n0 p0) (.slice a1 n1 p1) (.slice al L cl) w1) := HP.out.below hb; have CG := HGR.out w1 HB1.out.old; clear hb)
      | (go_at_call 5; refine Calls.mono CG ?_; clear CG; rintro e w2 ⟨rfl, hb⟩; have HB2 : Hid (Below q W w2) := HB1.out.old.trans (hb.mono (by have := HB1.out.lt; omega)); clear hb))
    go_ret
    exact ⟨rfl, HB2.out⟩
  have hz : lvE p more = 0 := by simp [lvE, hc]; omega
  obtain ⟨mo, rfl⟩ : ∃ mo : Nat, more = (mo : Int) := ⟨more.toNat, by omega⟩
  have h24 := (chk_valid hc).2
  rw [HLN.out] at h24
  obtain ⟨N, hN⟩ : ∃ N, L + mo = N := ⟨_, rfl⟩
  have hll : lvL p (mo : Int) = (List.range N).map (gd p) := by simp [lvL, hz, HLN.out, hN]
  have hw : wrap64 ((L : Int) + (mo : Int)) = (N : Int) := by rw [IntWalk.wrap64_in _ ⟨by omega, by omega⟩]; omega
  have HN : Hid (L + mo = N ∧ N ≤ 100 ∧ chk p = 0) := ⟨hN, by omega, hc⟩
  have HLV : Hid (∀ Y, Below q W Y → Calls Tryd.prog 6 #[.agg #[.string nm, .slice a0 n0 p0, .slice a1 n1 p1, .slice al L cl], .int .i64 (mo : Int)] Y fun e w' => ∃ u, e = .returned (.tuple #[u, .nilIface]) ∧ RdG w' u ((List.range N).map (gd p)) ∧ Below Y.heap.size Y w') := fun Y hY => by
    have := plevels_any (ea := ea) _ p Y (mo : Int) (HER.out Y hY) (HRD.out Y hY) HM.out.1 HM.out.2
    rw [hz, hll] at this
    exact this.mono fun e w' ⟨u, he, ho, hb⟩ => ⟨u, he, own_rd ho (by have := HN.out; simp; omega), hb⟩
  have b0 : ¬ (mo : Int) < 0 := by omega
  have b1 : ¬ 64 < (mo : Int) := by omega
  clear hc hmo hmo2 hz h24 hN hll HM
  go_enter Tryd.func3, Tryd.ntmps3
  go_upto_region 4 with (first
    | (go_at_call 4; refine Calls.mono CK0 ?_; clear CK0; rintro e w1 ⟨rfl, hb⟩; have HB1 : Hid (PB q W nm (.slice a0 n0 p0) (.slice a1 n1 p1) (.slice al L cl) w1) := HP.out.below hb; have CL := HLV.out w1 HB1.out.old; clear hb c0 c1 c2 c3; have c0 := HB1.out.c0; have c1 := HB1.out.c1; have c2 := HB1.out.c2; have c3 := HB1.out.c3)
    | (go_at_call 6; refine Calls.mono CL ?_; clear CL; rintro e w2 ⟨u, rfl, hg, hb⟩; have HB2 : Hid (PB q W nm (.slice a0 n0 p0) (.slice a1 n1 p1) (.slice al L cl) w2) := HB1.out.below hb; have HG2 : Hid (RdG w2 u ((List.range N).map (gd p))) := hg; clear hb hg c0 c1 c2 c3; have c3 := HB2.out.c3))
  obtain ⟨au, cu, rfl, -, -, -⟩ := id HG2.out
  have hlen : ((List.range N).map (gd p)).length = N := by simp
  rw [hlen] at HG2
  simp only [hlen]
  have hat := HG2.out.at.2.2.2
  have HAT : Hid (∀ j, j < N → ∃ b o, au = some ⟨b, o, none⟩ ∧ ∀ Y, Below w2.heap.size w2 Y → Y.cell? ⟨b, o + j * 3, none⟩ = some (.int .i64 (sender p j)) ∧ Y.cell? ⟨b, o + j * 3 + 1, none⟩ = some (.int .i64 (src p j)) ∧ Y.cell? ⟨b, o + j * 3 + 2, none⟩ = some (.int .i64 (dst p j))) := fun j hj => by
    obtain ⟨b, o, e, h⟩ := hat j hj
    refine ⟨b, o, e, fun Y hY => ?_⟩
    have := h Y hY
    simpa [List.getD, hj, gd] using this
  clear hat hlen HG2
  go_upto_region 8 with (fail)
  obtain ⟨g, hg⟩ : ∃ g, w2.heap.size = g := ⟨_, rfl⟩
  have hb3 : Below w2.heap.size w2 (w2.alloc (.cells #[.int .i64 0, .int .i64 0, .int .i64 0, .int .i64 0, .int .i64 0, .int .i64 0] 36)) := (Below.refl _ _).alloc (Nat.le_refl _) _
  have hbb : BB g (0, 0, 0) (0, 0, 0) (w2.alloc (.cells #[.int .i64 0, .int .i64 0, .int .i64 0, .int .i64 0, .int .i64 0, .int .i64 0] 36)) := by unfold BB; rw [← hg]; exact heap_alloc_new _ _
  obtain ⟨W3, hW3⟩ : ∃ W3, w2.alloc (.cells #[.int .i64 0, .int .i64 0, .int .i64 0, .int .i64 0, .int .i64 0, .int .i64 0] 36) = W3 := ⟨_, rfl⟩
  rw [hW3] at hb3 hbb
  simp only [hW3, hg]
  have HB3 : Hid (Below w2.heap.size w2 W3) := hb3
  have HBB3 : Hid (BB g (0, 0, 0) (0, 0, 0) W3) := hbb
  have HGG : Hid (w2.heap.size ≤ g) := Nat.le_of_eq hg
  have HQW : Hid (∀ Y, Below w2.heap.size w2 Y → Below q W Y) := fun Y hY => HB2.out.old.trans (hY.mono (Nat.le_of_lt HB2.out.lt))
  simp only [hw]
  clear hb3 hbb hW3 hg hw
  go_loopw [8] (fun v8 wy => ∃ (i : Nat) (x y : Gd), i ≤ N ∧ v8 = .int .i64 i ∧ Below w2.heap.size w2 wy ∧ BB g x y wy ∧ Bst p i 0 x ∧ Bst p i 1 y) (fun v _ => N - (intOf v).toNat)
  case atStart => exact ⟨0, _, _, Nat.zero_le _, rfl, HB3.out, HBB3.out, .inl rfl, .inl rfl⟩
  case round =>
    obtain ⟨i, x, y, hi, rfl, hbl, hbb, hbx, hby⟩ := hrel
    have HBL : Hid (Below w2.heap.size w2 wr) := hbl
    have HBB : Hid (BB g x y wr) := hbb
    have HBX : Hid (Bst p i 0 x) := hbx
    have HBY : Hid (Bst p i 1 y) := hby
    by_cases hlt : i < N
    · have b5 : (i : Int) < (N : Int) := by omega
      have HI : Hid (i < N) := hlt
      obtain ⟨b, o, rfl, hc⟩ := HAT.out i hlt
      obtain ⟨l0, l1, l2⟩ := hc wr hbl
      have hsd := sender_in p (chk_valid HN.out.2.2).1 i
      have s1 := src_in p i
      have s2 := dst_in p i
      obtain ⟨f, hf⟩ : ∃ f, sender p i = f := ⟨_, rfl⟩
      obtain ⟨sr, hsr⟩ : ∃ sr, src p i = sr := ⟨_, rfl⟩
      obtain ⟨ds, hds⟩ : ∃ ds, dst p i = ds := ⟨_, rfl⟩
      rw [hf] at l0 hsd
      rw [hsr] at l1 s1
      rw [hds] at l2 s2
      have HSF : Hid (sender p i = f) := hf
      have HSD : Hid (src p i = sr ∧ dst p i = ds) := ⟨hsr, hds⟩
      clear hbl hbb hbx hby hi hlt hc hf hsr hds
      rcases hsd with rfl | rfl
      · have hle := HBX.out
        rw [← HSF.out] at hle
        have hle := hle.le
        rw [HSD.out.1, HSD.out.2] at hle
        have m0 : x.2.1 ≤ sr := hle.1
        have m1 : x.2.2 ≤ ds := hle.2
        have hth := HBB.out.there (o := 0) (by decide)
        have HTH : Hid (wr.there g 0 3) := hth
        have k0 : wr.cell? ⟨g, 0, none⟩ = some (.int .i64 x.1) := by rw [cell_of_row _ _ _ _ _ _ HBB.out]; rfl
        have k1 : wr.cell? ⟨g, 1, none⟩ = some (.int .i64 x.2.1) := by rw [cell_of_row _ _ _ _ _ _ HBB.out]; rfl
        have k2 : wr.cell? ⟨g, 2, none⟩ = some (.int .i64 x.2.2) := by rw [cell_of_row _ _ _ _ _ _ HBB.out]; rfl
        obtain ⟨e1, he1⟩ : ∃ e1, x.2.1 = e1 := ⟨_, rfl⟩
        obtain ⟨e2, he2⟩ : ∃ e2, x.2.2 = e2 := ⟨_, rfl⟩
        rw [he1] at k1 m0
        rw [he2] at k2 m1
        have n0' : ¬ sr < e1 := by omega
        have n1' : ¬ ds < e2 := by omega
        have n2' : ¬ 2 < sr := by omega
        have n3' : ¬ 5 < ds := by omega
        have d0 : decide (sr < e1) = false := decide_eq_false n0'
        have d1 : decide (ds < e2) = false := decide_eq_false n1'
        have d2 : decide (2 < sr) = false := decide_eq_false n2'
        have d3 : decide (5 < ds) = false := decide_eq_false n3'
        have HS9 := HBB.out.set0 (0, sr, ds)
        have H9 : Hid (BB g (0, sr, ds) y (wr.setCells g 0 [.int .i64 0, .int .i64 sr, .int .i64 ds])) := HS9
        have H9b : Hid (Below w2.heap.size w2 (wr.setCells g 0 [.int .i64 0, .int .i64 sr, .int .i64 ds])) := setCells3_below HBL.out _ _ _ _ _ HGG.out
        have H9d : Hid (∀ k : Nat, Below w2.heap.size w2 ((wr.drewN k).setCells g 0 [.int .i64 0, .int .i64 sr, .int .i64 ds])) := fun k => setCells3_below (drewN_below HBL.out k) _ _ _ _ _ HGG.out
        have H9e : Hid (∀ k : Nat, BB g (0, sr, ds) y ((wr.drewN k).setCells g 0 [.int .i64 0, .int .i64 sr, .int .i64 ds])) := fun k => BB.set0 (w := wr.drewN k) HBB.out (0, sr, ds)
        clear HS9 hth hle he1 he2 m0 m1 s1 s2
        go_upto_region 13 with (fail)
        go_quiet (fail)
        go_wp2_with (with_reducible refine at_list ?_; refine hold_store 35 (.tmp 100) (.tmp 99) rfl ?_)
        refine wpList_store_mid rfl 35 (.tmp 100) (.tmp 99) rfl g 0 #[.int .i64 0, .int .i64 sr, .int .i64 ds] rfl rfl (fun k hk => HTH.out k hk) (by kernel_rfl) (by simp [Value.oneCell']) ?_
        go_wp2
        refine ⟨⟨i + 1, _, _, HI.out, congrArg (Value.int .i64) (wrapS HI.out (by have := HN.out; omega)), H9d.out _, H9e.out _, ?_, ?_⟩, measS HI.out (by have := HN.out; omega)⟩
        · exact .inr ⟨i, Nat.lt_succ_self _, HSF.out, by unfold gd; rw [HSF.out, HSD.out.1, HSD.out.2]⟩
        · exact HBY.out.next
      · have hle := HBY.out
        rw [← HSF.out] at hle
        have hle := hle.le
        rw [HSD.out.1, HSD.out.2] at hle
        have m0 : y.2.1 ≤ sr := hle.1
        have m1 : y.2.2 ≤ ds := hle.2
        have hth := HBB.out.there (o := 3) (by decide)
        have HTH : Hid (wr.there g 3 3) := hth
        have k0 : wr.cell? ⟨g, 3, none⟩ = some (.int .i64 y.1) := by rw [cell_of_row _ _ _ _ _ _ HBB.out]; rfl
        have k1 : wr.cell? ⟨g, 4, none⟩ = some (.int .i64 y.2.1) := by rw [cell_of_row _ _ _ _ _ _ HBB.out]; rfl
        have k2 : wr.cell? ⟨g, 5, none⟩ = some (.int .i64 y.2.2) := by rw [cell_of_row _ _ _ _ _ _ HBB.out]; rfl
        obtain ⟨e1, he1⟩ : ∃ e1, y.2.1 = e1 := ⟨_, rfl⟩
        obtain ⟨e2, he2⟩ : ∃ e2, y.2.2 = e2 := ⟨_, rfl⟩
        rw [he1] at k1 m0
        rw [he2] at k2 m1
        have n0' : ¬ sr < e1 := by omega
        have n1' : ¬ ds < e2 := by omega
        have n2' : ¬ 2 < sr := by omega
        have n3' : ¬ 5 < ds := by omega
        have d0 : decide (sr < e1) = false := decide_eq_false n0'
        have d1 : decide (ds < e2) = false := decide_eq_false n1'
        have d2 : decide (2 < sr) = false := decide_eq_false n2'
        have d3 : decide (5 < ds) = false := decide_eq_false n3'
        have HS9 := HBB.out.set1 (1, sr, ds)
        have H9 : Hid (BB g x (1, sr, ds) (wr.setCells g 3 [.int .i64 1, .int .i64 sr, .int .i64 ds])) := HS9
        have H9b : Hid (Below w2.heap.size w2 (wr.setCells g 3 [.int .i64 1, .int .i64 sr, .int .i64 ds])) := setCells3_below HBL.out _ _ _ _ _ HGG.out
        have H9d : Hid (∀ k : Nat, Below w2.heap.size w2 ((wr.drewN k).setCells g 3 [.int .i64 1, .int .i64 sr, .int .i64 ds])) := fun k => setCells3_below (drewN_below HBL.out k) _ _ _ _ _ HGG.out
        have H9e : Hid (∀ k : Nat, BB g x (1, sr, ds) ((wr.drewN k).setCells g 3 [.int .i64 1, .int .i64 sr, .int .i64 ds])) := fun k => BB.set1 (w := wr.drewN k) HBB.out (1, sr, ds)
        clear HS9 hth hle he1 he2 m0 m1 s1 s2
        go_upto_region 13 with (fail)
        go_quiet (fail)
        go_wp2_with (with_reducible refine at_list ?_; refine hold_store 35 (.tmp 100) (.tmp 99) rfl ?_)
        refine wpList_store_mid rfl 35 (.tmp 100) (.tmp 99) rfl g 3 #[.int .i64 1, .int .i64 sr, .int .i64 ds] rfl rfl (fun k hk => HTH.out k hk) (by kernel_rfl) (by simp [Value.oneCell']) ?_
        go_wp2
        refine ⟨⟨i + 1, _, _, HI.out, congrArg (Value.int .i64) (wrapS HI.out (by have := HN.out; omega)), H9d.out _, H9e.out _, ?_, ?_⟩, measS HI.out (by have := HN.out; omega)⟩
        · exact HBX.out.next
        · exact .inr ⟨i, Nat.lt_succ_self _, HSF.out, by unfold gd; rw [HSF.out, HSD.out.1, HSD.out.2]⟩
    · obtain rfl : i = N := by omega
      have b5 : ¬ (i : Int) < (i : Int) := by omega
      have CG := HGR.out wr (HQW.out wr hbl)
      clear hbl hbb hbx hby hi hlt
      go_wp2_with (go_at_call 5; refine Calls.mono CG ?_; clear CG; rintro e w9 ⟨rfl, hb⟩; have HB9 : Hid (Below q W w9) := (HQW.out wr HBL.out).trans (hb.mono (by have := (HQW.out wr HBL.out).size; omega)); clear hb)
      go_ret
      exact ⟨rfl, HB9.out⟩
end Go.Proofs.YtffpfnecmabhpaaDoor
