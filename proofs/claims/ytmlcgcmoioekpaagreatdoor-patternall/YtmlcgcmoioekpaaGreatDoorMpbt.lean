import Derived.Deep.DeepCutAuto
import Derived.Test.YtmlcgcmoioekpaaGreatDoorMpbf
import Derived.Test.YtmlcgcmoioekpaaGreatDoorMpbo
import Derived.Test.YtmlcgcmoioekpaaGreatDoorMpay
import Derived.Test.YtmlcgcmoioekpaaGreatDoorMpax
namespace Go.Proofs.YtmlcgcmoioekpaaGreatDoor
set_option linter.unusedSimpArgs false
set_option linter.unusedVariables false
set_option maxRecDepth 100000
open Go.ChangeShapes Go.WideShapes Go.ChangeAt Go.RowKit Go.Pin Go.Pat Go.Deep
/-- the boxes of PatternAll -/
structure PA (q lim : Nat) (W0 : World) (gt gr gn gk : Nat) (m i r n : Int) (ok : Bool) (vw : Value) (w : World) : Prop where
  old : Below q W0 w
  hm : w.heap[q]? = some (.cells #[.int .i64 m] 3)
  hi : w.heap[q + 1]? = some (.cells #[.int .i64 i] 3)
  hw : w.heap[lim]? = some (.cells #[vw] 47)
  ht : w.heap[gt]? = some (.cells #[.func (.func 55) #[] #[]] 50)
  hr : w.heap[gr]? = some (.cells #[.int .i64 r] 3)
  hn : w.heap[gn]? = some (.cells #[.int .i64 n] 3)
  hk : w.heap[gk]? = some (.cells #[.bool ok] 4)
  o : q + 2 ≤ lim ∧ lim < gt ∧ gt < gr ∧ gr < gn ∧ gn < gk
  rq : FtQ (fun b => q + 2 ≤ b ∧ b < lim) w vw tab
section
variable {q lim gt gr gn gk : Nat} {W0 w w' : World} {m i r n : Int} {ok : Bool} {vw : Value}
theorem PA.lt (h : PA q lim W0 gt gr gn gk m i r n ok vw w) : gk < w.heap.size := (Array.getElem?_eq_some_iff.1 h.hk).1
theorem PA.below (h : PA q lim W0 gt gr gn gk m i r n ok vw w) (hb : Below w.heap.size w w') : PA q lim W0 gt gr gn gk m i r n ok vw w' := by
  have hl := h.lt
  have ho := h.o
  exact ⟨h.old.trans (hb.mono (by omega)), (hb.block _ (by omega)).trans h.hm, (hb.block _ (by omega)).trans h.hi, (hb.block _ (by omega)).trans h.hw, (hb.block _ (by omega)).trans h.ht, (hb.block _ (by omega)).trans h.hr, (hb.block _ (by omega)).trans h.hn, (hb.block _ (by omega)).trans h.hk, ho, h.rq.keep (fun b hb' => hb.block b (by omega))⟩
theorem PA.setN (h : PA q lim W0 gt gr gn gk m i r n ok vw w) (n' : Int) : PA q lim W0 gt gr gn gk m i r n' ok vw (w.setCell ⟨gn, 0, none⟩ (.int .i64 n')) := by
  have ho := h.o
  have hs : ∀ b, b ≠ gn → (w.setCell ⟨gn, 0, none⟩ (.int .i64 n')).heap[b]? = w.heap[b]? := fun b hb => heap_setCell_other _ _ _ _ hb
  exact ⟨h.old.setCell (p := ⟨gn, 0, none⟩) (by show q ≤ gn; omega) _, (hs _ (by omega)).trans h.hm, (hs _ (by omega)).trans h.hi, (hs _ (by omega)).trans h.hw, (hs _ (by omega)).trans h.ht, (hs _ (by omega)).trans h.hr, by rw [Go.heap_setCell_same _ _ _ _ _ _ h.hn]; rfl, (hs _ (by omega)).trans h.hk, ho, h.rq.keep (fun b hb => hs b (by omega))⟩
theorem PA.setK (h : PA q lim W0 gt gr gn gk m i r n ok vw w) (k' : Bool) : PA q lim W0 gt gr gn gk m i r n k' vw (w.setCell ⟨gk, 0, none⟩ (.bool k')) := by
  have ho := h.o
  have hs : ∀ b, b ≠ gk → (w.setCell ⟨gk, 0, none⟩ (.bool k')).heap[b]? = w.heap[b]? := fun b hb => heap_setCell_other _ _ _ _ hb
  exact ⟨h.old.setCell (p := ⟨gk, 0, none⟩) (by show q ≤ gk; omega) _, (hs _ (by omega)).trans h.hm, (hs _ (by omega)).trans h.hi, (hs _ (by omega)).trans h.hw, (hs _ (by omega)).trans h.ht, (hs _ (by omega)).trans h.hr, (hs _ (by omega)).trans h.hn, by rw [Go.heap_setCell_same _ _ _ _ _ _ h.hk]; rfl, ho, h.rq.keep (fun b hb => hs b (by omega))⟩
theorem PA.setO (h : PA q lim W0 gt gr gn gk m i r n ok vw w) {g : Nat} (hg : gk < g) (v : Value) : PA q lim W0 gt gr gn gk m i r n ok vw (w.setCell ⟨g, 0, none⟩ v) := by
  have ho := h.o
  have hs : ∀ b, b ≠ g → (w.setCell ⟨g, 0, none⟩ v).heap[b]? = w.heap[b]? := fun b hb => heap_setCell_other _ _ _ _ hb
  exact ⟨h.old.setCell (p := ⟨g, 0, none⟩) (by show q ≤ g; omega) _, (hs _ (by omega)).trans h.hm, (hs _ (by omega)).trans h.hi, (hs _ (by omega)).trans h.hw, (hs _ (by omega)).trans h.ht, (hs _ (by omega)).trans h.hr, (hs _ (by omega)).trans h.hn, (hs _ (by omega)).trans h.hk, ho, h.rq.keep (fun b hb => hs b (by omega))⟩
end
theorem one_cell {w : World} {g : Nat} {v : Value} {t : TypeId} (h : w.heap[g]? = some (.cells #[v] t)) : w.cell? ⟨g, 0, none⟩ = some v := by rw [cell_of_row _ _ _ _ _ _ h]; rfl
theorem one_froz {w : World} {g : Nat} {v : Value} {t : TypeId} (h : w.heap[g]? = some (.cells #[v] t)) : w.frozen? ⟨g, 0, none⟩ = false := frozen_of_row _ _ _ _ _ h
theorem wpSk {P : Program} {op : Oper} {a : Act} {w w' : World} {K : Act → World → Prop} {Q : Exit → Act → World → Prop} {d : Option Nat} (hd : op.dst = d) (h : (execOp a.eval op).run P w = .ok .skip w') (hk : K (a.put d undef) w') : Oper.wp P op a w K Q := by
  subst hd
  unfold Oper.wp
  rw [h]
  exact hk
theorem want_at {q lim gt gr gn gk : Nat} {W0 w : World} {m i r n : Int} {ok : Bool} {bw ow cw : Nat} (h : PA q lim W0 gt gr gn gk m i r n ok (.slice (some ⟨bw, ow, none⟩) 38 cw) w) (j : Nat) (hj : j < 38) {P : Pt} (hP : tab.getD j zPt = P) :
    ∃ v0 v1 vl, w.cell? ⟨bw, ow + j * 4, none⟩ = some (.string P.nm) ∧ w.cell? ⟨bw, ow + j * 4 + 1, none⟩ = some v0 ∧ w.cell? ⟨bw, ow + j * 4 + 2, none⟩ = some v1 ∧ w.cell? ⟨bw, ow + j * 4 + 3, none⟩ = some vl ∧ FtP (fun b => q + 2 ≤ b ∧ b < lim) w v0 v1 vl P := by
  subst hP
  obtain ⟨a, c, e, h3⟩ := h.rq
  obtain ⟨b, o, v0, v1, vl, _, ha, g0, g1, g2, g3, gf⟩ := h3 j hj
  injection e with e1 e2 e3
  rw [ha] at e1
  injection e1 with e1
  injection e1 with e1 e4
  subst e1 e4
  exact ⟨v0, v1, vl, g0, g1, g2, g3, gf⟩
def KP (gk gc : Nat) (W W' : World) : Prop := (∀ b, b ≠ gc → b ≠ gk → b < W.heap.size → W'.heap[b]? = W.heap[b]?) ∧ W.heap.size ≤ W'.heap.size
set_option maxHeartbeats 8000000 in
theorem pin_any {q lim gt gr gn gk gc j : Nat} {m i r n : Int} {bw ow cw : Nat} {W0 W : World} {v0 v1 vl : Value} {S : Nat → Prop} (h : PA q lim W0 gt gr gn gk m i r n true (.slice (some ⟨bw, ow, none⟩) 38 cw) W) (hc : W.heap[gc]? = some (.cells #[.int .i64 j] 3)) (hgc : gk < gc) (hj : j < 38) {P : Pt} (hP : tab.getD j zPt = P) (hf : FtP S W v0 v1 vl P) :
    Calls Tryz.prog 26 #[.agg #[.string P.nm, v0, v1, vl], .pointer (some ⟨gk, 0, none⟩), .pointer (some ⟨gc, 0, none⟩), .pointer (some ⟨lim, 0, none⟩), .pointer (some ⟨q + 1, 0, none⟩)] W fun e W' =>
      e = .returned (.bool (decide (¬ (j : Int) + 1 = i))) ∧ PA q lim W0 gt gr gn gk m i r n true (.slice (some ⟨bw, ow, none⟩) 38 cw) W' ∧ W'.heap[gc]? = some (.cells #[.int .i64 ((j : Int) + 1)] 3) ∧ KP gk gc W W' := by
  have hbx := bx_new W hf.rd
  have hal : Below W.heap.size W (W.alloc (.cells #[.string P.nm, v0, v1, vl] 26)) := (Below.refl _ _).alloc (Nat.le_refl _) _
  obtain ⟨p0, n0, x0, rfl⟩ := hf.1.sl3
  obtain ⟨p1, n1, x1, rfl⟩ := hf.2.1.sl3
  obtain ⟨p2, n2, x2, rfl⟩ := hf.2.2.sl3
  have h1 := h.below hal
  have hc1 := (hal.block _ (Array.getElem?_eq_some_iff.1 hc).1).trans hc
  obtain ⟨gp, hgp⟩ : ∃ gp, W.heap.size = gp := ⟨_, rfl⟩
  obtain ⟨w1, hw1⟩ : ∃ w1, W.alloc (.cells #[.string P.nm, .slice p0 n0 x0, .slice p1 n1 x1, .slice p2 n2 x2] 26) = w1 := ⟨_, rfl⟩
  rw [hw1] at hbx hal h1 hc1
  rw [hgp] at hbx hal
  obtain ⟨v0, hv0⟩ : ∃ v, Value.slice p0 n0 x0 = v := ⟨_, rfl⟩
  have H1 : Hid (PA q lim W0 gt gr gn gk m i r n true (.slice (some ⟨bw, ow, none⟩) 38 cw) w1 ∧ w1.heap[gc]? = some (.cells #[.int .i64 j] 3) ∧ BX gp (.slice p0 n0 x0) (.slice p1 n1 x1) (.slice p2 n2 x2) P w1) := ⟨h1, hc1, hbx⟩
  have HA : Hid (Below gp W w1 ∧ W.heap.size = gp) := ⟨hal, hgp⟩
  have HJ : Hid (j < 38) := hj
  have HG : Hid (gk < gc) := hgc
  have HP : Hid (tab.getD j zPt = P) := hP
  clear h hc hgc hj hP hf hbx hal h1 hc1 hv0
  go_enter Tryz.func26, Tryz.ntmps26
  go_upto_region 1 with (fail)
  try simp only [hgp, hw1]
  clear hw1
  refine Go.Pin.wp_region_L (fun Y => Below w1.drew.heap.size w1.drew Y) 15 16 (by rfl) (by kernel_rfl) (Below.refl _ _) ?_
  intro Sq fq hNq hRq hSq
  obtain ⟨wd, hwd⟩ : ∃ wd, w1.drew = wd := ⟨_, rfl⟩
  have HWD : Hid (w1.drew = wd) := hwd
  rw [hwd] at hRq hSq ⊢
  have hPd : PA q lim W0 gt gr gn gk m i r n true (.slice (some ⟨bw, ow, none⟩) 38 cw) wd := by rw [← hwd]; exact H1.out.1.below ((Below.refl _ _).drew)
  have hXd : wd.heap[gc]? = some (.cells #[.int .i64 j] 3) := by rw [← hwd]; exact H1.out.2.1
  have hBd : BX gp (.slice p0 n0 x0) (.slice p1 n1 x1) (.slice p2 n2 x2) P wd := by rw [← hwd]; exact H1.out.2.2.below ((Below.refl _ _).drew)
  have hgx : gc < wd.heap.size := (Array.getElem?_eq_some_iff.1 hXd).1
  have hgl : lim < wd.heap.size := (Array.getElem?_eq_some_iff.1 hPd.hw).1
  have c0 := fun x => one_cell (((hRq x).block _ hPd.lt).trans hPd.hk)
  have c1 := fun x => one_cell (((hRq x).block _ hgx).trans hXd)
  have c2 := fun x => one_cell (((hRq x).block _ hgl).trans hPd.hw)
  have k0 := fun x => (hBd.below (hRq x)).c0
  have k1 := fun x => (hBd.below (hRq x)).c1
  have k2 := fun x => (hBd.below (hRq x)).c2
  have k3 := fun x => (hBd.below (hRq x)).c3
  obtain ⟨u0, u1, ul, hq0, hq1, hq2, hq3, hqf⟩ := (want_at hPd j HJ.out HP.out)
  have y0 := fun x => cell_below (hRq x) hq0
  have y1 := fun x => cell_below (hRq x) hq1
  have y2 := fun x => cell_below (hRq x) hq2
  have y3 := fun x => cell_below (hRq x) hq3
  have st0 : Below wd.heap.size wd wd := Below.refl _ _
  have CS := same_true (W := wd) hBd.rd hqf.rd
  have bj : (j : Int) < 38 := by have := HJ.out; omega
  have bj0 : (0 : Int) ≤ (j : Int) := by omega
  have HPD : Hid (PA q lim W0 gt gr gn gk m i r n true (.slice (some ⟨bw, ow, none⟩) 38 cw) wd ∧ wd.heap[gc]? = some (.cells #[.int .i64 j] 3)) := ⟨hPd, hXd⟩
  clear hPd hXd hBd hq0 hq1 hq2 hq3 hqf hgx hgl hwd
  refine Go.Pin.takeL 0 (by simp only [List.getElem?_toArray, List.getElem?_cons_zero, List.getElem?_cons_succ]; exact rfl) (by simp only [List.getElem?_toArray, List.getElem?_cons_zero, List.getElem?_cons_succ]; exact rfl) (by kernel_rfl) (by kernel_rfl) (by kernel_rfl) (by kernel_rfl) (by rfl) (fun _ _ d _ _ h => by cases d <;> exact h) (st0) (hSq).out (by kernel_rfl) ?_
  intro Kq hKq
  go_big_quiet_op
  go_big_quiet_on
  refine Go.Pin.takeL 1 (by simp only [List.getElem?_toArray, List.getElem?_cons_zero, List.getElem?_cons_succ]; exact rfl) (by simp only [List.getElem?_toArray, List.getElem?_cons_zero, List.getElem?_cons_succ]; exact rfl) (by kernel_rfl) (by kernel_rfl) (by kernel_rfl) (by kernel_rfl) (by rfl) (fun _ _ d _ _ h => by cases d <;> exact h) (st0) (hSq).out (by kernel_rfl) ?_
  intro Kq hKq
  go_big_quiet_op
  go_big_quiet_on
  refine Go.Pin.takeL 2 (by simp only [List.getElem?_toArray, List.getElem?_cons_zero, List.getElem?_cons_succ]; exact rfl) (by simp only [List.getElem?_toArray, List.getElem?_cons_zero, List.getElem?_cons_succ]; exact rfl) (by kernel_rfl) (by kernel_rfl) (by kernel_rfl) (by kernel_rfl) (by rfl) (fun _ _ d _ _ h => by cases d <;> exact h) (st0) (hSq).out (by kernel_rfl) ?_
  intro Kq hKq
  go_big_quiet_op
  go_big_quiet_on
  refine Go.Pin.takeL 3 (by simp only [List.getElem?_toArray, List.getElem?_cons_zero, List.getElem?_cons_succ]; exact rfl) (by simp only [List.getElem?_toArray, List.getElem?_cons_zero, List.getElem?_cons_succ]; exact rfl) (by kernel_rfl) (by kernel_rfl) (by kernel_rfl) (by kernel_rfl) (by rfl) (fun _ _ d _ _ h => by cases d <;> exact h) (st0) (hSq).out (by kernel_rfl) ?_
  intro Kq hKq
  go_big_quiet_op
  go_big_quiet_on
  refine Go.Pin.takeL 4 (by simp only [List.getElem?_toArray, List.getElem?_cons_zero, List.getElem?_cons_succ]; exact rfl) (by simp only [List.getElem?_toArray, List.getElem?_cons_zero, List.getElem?_cons_succ]; exact rfl) (by kernel_rfl) (by kernel_rfl) (by kernel_rfl) (by kernel_rfl) (by rfl) (fun _ _ d _ _ h => by cases d <;> exact h) (st0) (hSq).out (by kernel_rfl) ?_
  intro Kq hKq
  go_big_quiet_op
  go_big_quiet_on
  refine Go.Pin.takeL 5 (by simp only [List.getElem?_toArray, List.getElem?_cons_zero, List.getElem?_cons_succ]; exact rfl) (by simp only [List.getElem?_toArray, List.getElem?_cons_zero, List.getElem?_cons_succ]; exact rfl) (by kernel_rfl) (by kernel_rfl) (by kernel_rfl) (by kernel_rfl) (by rfl) (fun _ _ d _ _ h => by cases d <;> exact h) (st0) (hSq).out (by kernel_rfl) ?_
  intro Kq hKq
  go_big_quiet_op
  go_big_quiet_on
  refine Go.Pin.takeL 6 (by simp only [List.getElem?_toArray, List.getElem?_cons_zero, List.getElem?_cons_succ]; exact rfl) (by simp only [List.getElem?_toArray, List.getElem?_cons_zero, List.getElem?_cons_succ]; exact rfl) (by kernel_rfl) (by kernel_rfl) (by kernel_rfl) (by kernel_rfl) (by rfl) (fun _ _ d _ _ h => by cases d <;> exact h) (st0) (hSq).out (by kernel_rfl) ?_
  intro Kq hKq
  go_big_quiet_op
  go_big_quiet_on
  refine Go.Pin.takeL 7 (by simp only [List.getElem?_toArray, List.getElem?_cons_zero, List.getElem?_cons_succ]; exact rfl) (by simp only [List.getElem?_toArray, List.getElem?_cons_zero, List.getElem?_cons_succ]; exact rfl) (by kernel_rfl) (by kernel_rfl) (by kernel_rfl) (by kernel_rfl) (by rfl) (fun _ _ d _ _ h => by cases d <;> exact h) (st0) (hSq).out (by kernel_rfl) ?_
  intro Kq hKq
  go_big_quiet_op
  go_big_quiet_on
  refine Go.Pin.takeL 8 (by simp only [List.getElem?_toArray, List.getElem?_cons_zero, List.getElem?_cons_succ]; exact rfl) (by simp only [List.getElem?_toArray, List.getElem?_cons_zero, List.getElem?_cons_succ]; exact rfl) (by kernel_rfl) (by kernel_rfl) (by kernel_rfl) (by kernel_rfl) (by rfl) (fun _ _ d _ _ h => by cases d <;> exact h) (st0) (hSq).out (by kernel_rfl) ?_
  intro Kq hKq
  go_big_quiet_op
  go_big_quiet_on
  refine Go.Pin.takeL 9 (by simp only [List.getElem?_toArray, List.getElem?_cons_zero, List.getElem?_cons_succ]; exact rfl) (by simp only [List.getElem?_toArray, List.getElem?_cons_zero, List.getElem?_cons_succ]; exact rfl) (by kernel_rfl) (by kernel_rfl) (by kernel_rfl) (by kernel_rfl) (by rfl) (fun _ _ d _ _ h => by cases d <;> exact h) (st0) (hSq).out (by kernel_rfl) ?_
  intro Kq hKq
  go_big_quiet_op
  go_big_quiet_on
  refine Go.Pin.takeL 10 (by simp only [List.getElem?_toArray, List.getElem?_cons_zero, List.getElem?_cons_succ]; exact rfl) (by simp only [List.getElem?_toArray, List.getElem?_cons_zero, List.getElem?_cons_succ]; exact rfl) (by kernel_rfl) (by kernel_rfl) (by kernel_rfl) (by kernel_rfl) (by rfl) (fun _ _ d _ _ h => by cases d <;> exact h) (st0) (hSq).out (by kernel_rfl) ?_
  intro Kq hKq
  go_big_quiet_op
  go_big_quiet_on
  refine Go.Pin.takeL 11 (by simp only [List.getElem?_toArray, List.getElem?_cons_zero, List.getElem?_cons_succ]; exact rfl) (by simp only [List.getElem?_toArray, List.getElem?_cons_zero, List.getElem?_cons_succ]; exact rfl) (by kernel_rfl) (by kernel_rfl) (by kernel_rfl) (by kernel_rfl) (by rfl) (fun _ _ d _ _ h => by cases d <;> exact h) (st0) (hSq).out (by kernel_rfl) ?_
  intro Kq hKq
  go_big_quiet_op
  go_big_quiet_on
  refine Go.Pin.takeL 12 (by simp only [List.getElem?_toArray, List.getElem?_cons_zero, List.getElem?_cons_succ]; exact rfl) (by simp only [List.getElem?_toArray, List.getElem?_cons_zero, List.getElem?_cons_succ]; exact rfl) (by kernel_rfl) (by kernel_rfl) (by kernel_rfl) (by kernel_rfl) (by rfl) (fun _ _ d _ _ h => by cases d <;> exact h) (st0) (hSq).out (by kernel_rfl) ?_
  intro Kq hKq
  go_big_quiet_op
  go_big_quiet_on
  refine Go.Pin.readyL 13 (by simp only [List.getElem?_toArray, List.getElem?_cons_zero, List.getElem?_cons_succ]; exact rfl) (by kernel_rfl) (by kernel_rfl) ?_
  intro K hK
  refine wpCall (d := some 20) (f := 20) (args := #[.agg #[.string P.nm, .slice p0 n0 x0, .slice p1 n1 x1, .slice p2 n2 x2], .agg #[.string P.nm, u0, u1, ul]]) (v := .bool true) (R := fun w' => Below wd.heap.size wd w') rfl rfl (by simp only [List.map_toArray, List.map_cons, List.map_nil]; rfl) (fun _ => rfl) CS ?_
  intro w6 hb6
  refine hK _ _ (.inr hb6) ?_
  simp only [Act.put, List.setIfInBounds_toArray, List.set_cons_zero, List.set_cons_succ]
  clear hK K
  refine Go.Pin.takeL 14 (by simp only [List.getElem?_toArray, List.getElem?_cons_zero, List.getElem?_cons_succ]; exact rfl) (by simp only [List.getElem?_toArray, List.getElem?_cons_zero, List.getElem?_cons_succ]; exact rfl) (by kernel_rfl) (by kernel_rfl) (by kernel_rfl) (by kernel_rfl) (by rfl) (fun _ _ d _ _ h => by cases d <;> exact h) (hb6) (hSq).out (by kernel_rfl) ?_
  intro Kq hKq
  go_big_quiet_op
  go_big_quiet_on
  have hp6 := HPD.out.1.below hb6
  have hx6 : w6.heap[gc]? = some (.cells #[.int .i64 j] 3) := (hb6.block _ (Array.getElem?_eq_some_iff.1 HPD.out.2).1).trans HPD.out.2
  have e0 := one_cell hp6.hk
  have e1 := one_froz hp6.hk
  refine Go.Pin.readyL 15 (by simp only [List.getElem?_toArray, List.getElem?_cons_zero, List.getElem?_cons_succ]; exact rfl) (by kernel_rfl) (by kernel_rfl) ?_
  intro K hK
  refine wpSk (d := none) (w' := w6.setCell ⟨gk, 0, none⟩ (.bool true)) rfl (by unfold execOp; go_simp) (hK _ _ (.inl rfl) ?_)
  simp only [Act.put, List.setIfInBounds_toArray, List.set_cons_zero, List.set_cons_succ]
  clear hK K
  refine Go.Pin.wpL_done (by kernel_rfl) ?_
  have hgn : gc ≠ gk := by have := HPD.out.1.o; have := HG.out; omega
  have hP7 := hp6.setK true
  have hx7 : (w6.setCell ⟨gk, 0, none⟩ (.bool true)).heap[gc]? = some (.cells #[.int .i64 j] 3) := (heap_setCell_other _ _ _ _ hgn).trans hx6
  have hK7 : ∀ b, b ≠ gk → b < W.heap.size → (w6.setCell ⟨gk, 0, none⟩ (.bool true)).heap[b]? = W.heap[b]? := fun b h1 h2 => by
    rw [heap_setCell_other _ _ _ _ h1]
    have h3 := HA.out.1
    rw [← HA.out.2] at h3
    have h4 : wd.heap = w1.heap := by rw [← HWD.out]; rfl
    have h5 := h3.block b h2
    have h6 : wd.heap[b]? = w1.heap[b]? := by rw [h4]
    exact (hb6.block b (by rw [h4]; exact Nat.lt_of_lt_of_le h2 h3.size)).trans (h6.trans h5)
  have hS7 : W.heap.size ≤ (w6.setCell ⟨gk, 0, none⟩ (.bool true)).heap.size := by
    rw [World.size_setCell]
    have h3 := HA.out.1.size
    have h4 : wd.heap = w1.heap := by rw [← HWD.out]; rfl
    have h5 := hb6.size
    rw [h4] at h5
    omega
  obtain ⟨w7, hw7⟩ : ∃ w7, w6.setCell ⟨gk, 0, none⟩ (.bool true) = w7 := ⟨_, rfl⟩
  rw [hw7] at hP7 hx7 hK7 hS7 ⊢
  have H7 : Hid (PA q lim W0 gt gr gn gk m i r n true (.slice (some ⟨bw, ow, none⟩) 38 cw) w7 ∧ w7.heap[gc]? = some (.cells #[.int .i64 j] 3)) := ⟨hP7, hx7⟩
  have HK7 : Hid ((∀ b, b ≠ gk → b < W.heap.size → w7.heap[b]? = W.heap[b]?) ∧ W.heap.size ≤ w7.heap.size) := ⟨hK7, hS7⟩
  have f0 := one_cell hx7
  have f1 := one_froz hx7
  clear hw7 hP7 hx7 hK7 hS7 hgn e0 e1 hp6 hx6 c0 c1 c2 k0 k1 k2 k3 y0 y1 y2 y3 CS st0 hRq hSq hNq
  go_upto_region 3 with (fail)
  have hP8 := H7.out.1.setO HG.out (.int .i64 ((j : Int) + 1))
  have hx8 : (w7.setCell ⟨gc, 0, none⟩ (.int .i64 ((j : Int) + 1))).heap[gc]? = some (.cells #[.int .i64 ((j : Int) + 1)] 3) := by rw [Go.heap_setCell_same _ _ _ _ _ _ H7.out.2]; rfl
  have hK8 : KP gk gc W (w7.setCell ⟨gc, 0, none⟩ (.int .i64 ((j : Int) + 1))) := ⟨fun b h1 h2 h3 => (heap_setCell_other _ _ _ _ h1).trans (HK7.out.1 b h2 h3), by rw [World.size_setCell]; exact HK7.out.2⟩
  obtain ⟨w8, hw8⟩ : ∃ w8, w7.setCell ⟨gc, 0, none⟩ (.int .i64 ((j : Int) + 1)) = w8 := ⟨_, rfl⟩
  rw [hw8] at hP8 hx8 hK8 ⊢
  clear hw8 f0 f1
  have H8 : Hid (PA q lim W0 gt gr gn gk m i r n true (.slice (some ⟨bw, ow, none⟩) 38 cw) w8 ∧ w8.heap[gc]? = some (.cells #[.int .i64 ((j : Int) + 1)] 3) ∧ KP gk gc W w8) := ⟨hP8, hx8, hK8⟩
  have f0 := one_cell hP8.hk
  have f1 := one_cell hx8
  have f2 := one_cell hP8.hi
  clear hP8 hx8 hK8
  by_cases hi : (j : Int) + 1 = i
  · have HI : Hid ((j : Int) + 1 = i) := hi
    have g1 : ((j : Int) + 1 == i) = true := by simpa using hi
    have g2 : decide ((j : Int) + 1 = i) = true := by simpa using hi
    have g3 : ((j : Int) + 1 != i) = false := by simpa using hi
    clear hi
    go_wp2
    go_ret
    exact ⟨by rw [show decide (¬ (j : Int) + 1 = i) = false by simpa using HI.out]; rfl, H8.out⟩
  · have HI : Hid (¬ (j : Int) + 1 = i) := hi
    have g1 : ((j : Int) + 1 == i) = false := by simpa using hi
    have g2 : decide ((j : Int) + 1 = i) = false := by simpa using hi
    have g3 : ((j : Int) + 1 != i) = true := by simpa using hi
    clear hi
    go_wp2
    go_ret
    exact ⟨by rw [show decide (¬ (j : Int) + 1 = i) = true by simpa using HI.out]; rfl, H8.out⟩
def KQ (gk : Nat) (W W' : World) : Prop := (∀ b, gk < b → b < W.heap.size → W'.heap[b]? = W.heap[b]?) ∧ W.heap.size ≤ W'.heap.size
set_option maxHeartbeats 8000000 in
theorem pout_any {ea : Int → Addr} {q lim gt gr gn gk j : Nat} {m i r : Int} {bw ow cw : Nat} {W0 W : World} {v0 v1 vl : Value} {S : Nat → Prop} (hE : ∀ y, Below q W0 y → Errs ea y) (h : PA q lim W0 gt gr gn gk m i r j true (.slice (some ⟨bw, ow, none⟩) 38 cw) W) (hj : j < 38) {P : Pt} (hP : tab.getD j zPt = P) (hf : FtP S W v0 v1 vl P) :
    Calls Tryz.prog 25 #[.agg #[.string P.nm, v0, v1, vl], .pointer (some ⟨gk, 0, none⟩), .pointer (some ⟨gn, 0, none⟩), .pointer (some ⟨lim, 0, none⟩), .pointer (some ⟨gr, 0, none⟩), .pointer (some ⟨gt, 0, none⟩), .pointer (some ⟨q + 1, 0, none⟩), .pointer (some ⟨q, 0, none⟩)] W fun e W' =>
      e = .returned (.bool (decide (r = 2 ∨ ¬ (j : Int) + 1 = m))) ∧ PA q lim W0 gt gr gn gk m i r ((j : Int) + 1) true (.slice (some ⟨bw, ow, none⟩) 38 cw) W' ∧ KQ gk W W' := by
  have hbx := bx_new W hf.rd
  have hal : Below W.heap.size W (W.alloc (.cells #[.string P.nm, v0, v1, vl] 26)) := (Below.refl _ _).alloc (Nat.le_refl _) _
  obtain ⟨p0, n0, x0, rfl⟩ := hf.1.sl3
  obtain ⟨p1, n1, x1, rfl⟩ := hf.2.1.sl3
  obtain ⟨p2, n2, x2, rfl⟩ := hf.2.2.sl3
  have h1 := h.below hal
  obtain ⟨gp, hgp⟩ : ∃ gp, W.heap.size = gp := ⟨_, rfl⟩
  obtain ⟨w1, hw1⟩ : ∃ w1, W.alloc (.cells #[.string P.nm, .slice p0 n0 x0, .slice p1 n1 x1, .slice p2 n2 x2] 26) = w1 := ⟨_, rfl⟩
  rw [hw1] at hbx hal h1
  rw [hgp] at hbx hal
  have H1 : Hid (PA q lim W0 gt gr gn gk m i r j true (.slice (some ⟨bw, ow, none⟩) 38 cw) w1 ∧ w1.heap[gn]? = some (.cells #[.int .i64 j] 3) ∧ BX gp (.slice p0 n0 x0) (.slice p1 n1 x1) (.slice p2 n2 x2) P w1) := ⟨h1, h1.hn, hbx⟩
  have HA : Hid (Below gp W w1 ∧ W.heap.size = gp) := ⟨hal, hgp⟩
  have HJ : Hid (j < 38) := hj
  have HG : Hid (gn < gk) := h.o.2.2.2.2
  have HP : Hid (tab.getD j zPt = P) := hP
  have HE : Hid (∀ y, Below q W0 y → Errs ea y) := hE
  have HLT : Hid (gk < W.heap.size) := h.lt
  clear h hj hP hf hbx hal h1 hE
  go_enter Tryz.func25, Tryz.ntmps25
  go_upto_region 1 with (fail)
  try simp only [hgp, hw1]
  clear hw1
  refine Go.Pin.wp_region_L (fun Y => Below w1.drew.heap.size w1.drew Y) 15 16 (by rfl) (by kernel_rfl) (Below.refl _ _) ?_
  intro Sq fq hNq hRq hSq
  obtain ⟨wd, hwd⟩ : ∃ wd, w1.drew = wd := ⟨_, rfl⟩
  have HWD : Hid (w1.drew = wd) := hwd
  rw [hwd] at hRq hSq ⊢
  have hPd : PA q lim W0 gt gr gn gk m i r j true (.slice (some ⟨bw, ow, none⟩) 38 cw) wd := by rw [← hwd]; exact H1.out.1.below ((Below.refl _ _).drew)
  have hXd : wd.heap[gn]? = some (.cells #[.int .i64 j] 3) := by rw [← hwd]; exact H1.out.2.1
  have hBd : BX gp (.slice p0 n0 x0) (.slice p1 n1 x1) (.slice p2 n2 x2) P wd := by rw [← hwd]; exact H1.out.2.2.below ((Below.refl _ _).drew)
  have hgx : gn < wd.heap.size := (Array.getElem?_eq_some_iff.1 hXd).1
  have hgl : lim < wd.heap.size := (Array.getElem?_eq_some_iff.1 hPd.hw).1
  have c0 := fun x => one_cell (((hRq x).block _ hPd.lt).trans hPd.hk)
  have c1 := fun x => one_cell (((hRq x).block _ hgx).trans hXd)
  have c2 := fun x => one_cell (((hRq x).block _ hgl).trans hPd.hw)
  have k0 := fun x => (hBd.below (hRq x)).c0
  have k1 := fun x => (hBd.below (hRq x)).c1
  have k2 := fun x => (hBd.below (hRq x)).c2
  have k3 := fun x => (hBd.below (hRq x)).c3
  obtain ⟨u0, u1, ul, hq0, hq1, hq2, hq3, hqf⟩ := (want_at hPd j HJ.out HP.out)
  have y0 := fun x => cell_below (hRq x) hq0
  have y1 := fun x => cell_below (hRq x) hq1
  have y2 := fun x => cell_below (hRq x) hq2
  have y3 := fun x => cell_below (hRq x) hq3
  have st0 : Below wd.heap.size wd wd := Below.refl _ _
  have CS := same_true (W := wd) hBd.rd hqf.rd
  have bj : (j : Int) < 38 := by have := HJ.out; omega
  have bj0 : (0 : Int) ≤ (j : Int) := by omega
  have HPD : Hid (PA q lim W0 gt gr gn gk m i r j true (.slice (some ⟨bw, ow, none⟩) 38 cw) wd ∧ wd.heap[gn]? = some (.cells #[.int .i64 j] 3)) := ⟨hPd, hXd⟩
  clear hPd hXd hBd hq0 hq1 hq2 hq3 hqf hgx hgl hwd
  refine Go.Pin.takeL 0 (by simp only [List.getElem?_toArray, List.getElem?_cons_zero, List.getElem?_cons_succ]; exact rfl) (by simp only [List.getElem?_toArray, List.getElem?_cons_zero, List.getElem?_cons_succ]; exact rfl) (by kernel_rfl) (by kernel_rfl) (by kernel_rfl) (by kernel_rfl) (by rfl) (fun _ _ d _ _ h => by cases d <;> exact h) (st0) (hSq).out (by kernel_rfl) ?_
  intro Kq hKq
  go_big_quiet_op
  go_big_quiet_on
  refine Go.Pin.takeL 1 (by simp only [List.getElem?_toArray, List.getElem?_cons_zero, List.getElem?_cons_succ]; exact rfl) (by simp only [List.getElem?_toArray, List.getElem?_cons_zero, List.getElem?_cons_succ]; exact rfl) (by kernel_rfl) (by kernel_rfl) (by kernel_rfl) (by kernel_rfl) (by rfl) (fun _ _ d _ _ h => by cases d <;> exact h) (st0) (hSq).out (by kernel_rfl) ?_
  intro Kq hKq
  go_big_quiet_op
  go_big_quiet_on
  refine Go.Pin.takeL 2 (by simp only [List.getElem?_toArray, List.getElem?_cons_zero, List.getElem?_cons_succ]; exact rfl) (by simp only [List.getElem?_toArray, List.getElem?_cons_zero, List.getElem?_cons_succ]; exact rfl) (by kernel_rfl) (by kernel_rfl) (by kernel_rfl) (by kernel_rfl) (by rfl) (fun _ _ d _ _ h => by cases d <;> exact h) (st0) (hSq).out (by kernel_rfl) ?_
  intro Kq hKq
  go_big_quiet_op
  go_big_quiet_on
  refine Go.Pin.takeL 3 (by simp only [List.getElem?_toArray, List.getElem?_cons_zero, List.getElem?_cons_succ]; exact rfl) (by simp only [List.getElem?_toArray, List.getElem?_cons_zero, List.getElem?_cons_succ]; exact rfl) (by kernel_rfl) (by kernel_rfl) (by kernel_rfl) (by kernel_rfl) (by rfl) (fun _ _ d _ _ h => by cases d <;> exact h) (st0) (hSq).out (by kernel_rfl) ?_
  intro Kq hKq
  go_big_quiet_op
  go_big_quiet_on
  refine Go.Pin.takeL 4 (by simp only [List.getElem?_toArray, List.getElem?_cons_zero, List.getElem?_cons_succ]; exact rfl) (by simp only [List.getElem?_toArray, List.getElem?_cons_zero, List.getElem?_cons_succ]; exact rfl) (by kernel_rfl) (by kernel_rfl) (by kernel_rfl) (by kernel_rfl) (by rfl) (fun _ _ d _ _ h => by cases d <;> exact h) (st0) (hSq).out (by kernel_rfl) ?_
  intro Kq hKq
  go_big_quiet_op
  go_big_quiet_on
  refine Go.Pin.takeL 5 (by simp only [List.getElem?_toArray, List.getElem?_cons_zero, List.getElem?_cons_succ]; exact rfl) (by simp only [List.getElem?_toArray, List.getElem?_cons_zero, List.getElem?_cons_succ]; exact rfl) (by kernel_rfl) (by kernel_rfl) (by kernel_rfl) (by kernel_rfl) (by rfl) (fun _ _ d _ _ h => by cases d <;> exact h) (st0) (hSq).out (by kernel_rfl) ?_
  intro Kq hKq
  go_big_quiet_op
  go_big_quiet_on
  refine Go.Pin.takeL 6 (by simp only [List.getElem?_toArray, List.getElem?_cons_zero, List.getElem?_cons_succ]; exact rfl) (by simp only [List.getElem?_toArray, List.getElem?_cons_zero, List.getElem?_cons_succ]; exact rfl) (by kernel_rfl) (by kernel_rfl) (by kernel_rfl) (by kernel_rfl) (by rfl) (fun _ _ d _ _ h => by cases d <;> exact h) (st0) (hSq).out (by kernel_rfl) ?_
  intro Kq hKq
  go_big_quiet_op
  go_big_quiet_on
  refine Go.Pin.takeL 7 (by simp only [List.getElem?_toArray, List.getElem?_cons_zero, List.getElem?_cons_succ]; exact rfl) (by simp only [List.getElem?_toArray, List.getElem?_cons_zero, List.getElem?_cons_succ]; exact rfl) (by kernel_rfl) (by kernel_rfl) (by kernel_rfl) (by kernel_rfl) (by rfl) (fun _ _ d _ _ h => by cases d <;> exact h) (st0) (hSq).out (by kernel_rfl) ?_
  intro Kq hKq
  go_big_quiet_op
  go_big_quiet_on
  refine Go.Pin.takeL 8 (by simp only [List.getElem?_toArray, List.getElem?_cons_zero, List.getElem?_cons_succ]; exact rfl) (by simp only [List.getElem?_toArray, List.getElem?_cons_zero, List.getElem?_cons_succ]; exact rfl) (by kernel_rfl) (by kernel_rfl) (by kernel_rfl) (by kernel_rfl) (by rfl) (fun _ _ d _ _ h => by cases d <;> exact h) (st0) (hSq).out (by kernel_rfl) ?_
  intro Kq hKq
  go_big_quiet_op
  go_big_quiet_on
  refine Go.Pin.takeL 9 (by simp only [List.getElem?_toArray, List.getElem?_cons_zero, List.getElem?_cons_succ]; exact rfl) (by simp only [List.getElem?_toArray, List.getElem?_cons_zero, List.getElem?_cons_succ]; exact rfl) (by kernel_rfl) (by kernel_rfl) (by kernel_rfl) (by kernel_rfl) (by rfl) (fun _ _ d _ _ h => by cases d <;> exact h) (st0) (hSq).out (by kernel_rfl) ?_
  intro Kq hKq
  go_big_quiet_op
  go_big_quiet_on
  refine Go.Pin.takeL 10 (by simp only [List.getElem?_toArray, List.getElem?_cons_zero, List.getElem?_cons_succ]; exact rfl) (by simp only [List.getElem?_toArray, List.getElem?_cons_zero, List.getElem?_cons_succ]; exact rfl) (by kernel_rfl) (by kernel_rfl) (by kernel_rfl) (by kernel_rfl) (by rfl) (fun _ _ d _ _ h => by cases d <;> exact h) (st0) (hSq).out (by kernel_rfl) ?_
  intro Kq hKq
  go_big_quiet_op
  go_big_quiet_on
  refine Go.Pin.takeL 11 (by simp only [List.getElem?_toArray, List.getElem?_cons_zero, List.getElem?_cons_succ]; exact rfl) (by simp only [List.getElem?_toArray, List.getElem?_cons_zero, List.getElem?_cons_succ]; exact rfl) (by kernel_rfl) (by kernel_rfl) (by kernel_rfl) (by kernel_rfl) (by rfl) (fun _ _ d _ _ h => by cases d <;> exact h) (st0) (hSq).out (by kernel_rfl) ?_
  intro Kq hKq
  go_big_quiet_op
  go_big_quiet_on
  refine Go.Pin.takeL 12 (by simp only [List.getElem?_toArray, List.getElem?_cons_zero, List.getElem?_cons_succ]; exact rfl) (by simp only [List.getElem?_toArray, List.getElem?_cons_zero, List.getElem?_cons_succ]; exact rfl) (by kernel_rfl) (by kernel_rfl) (by kernel_rfl) (by kernel_rfl) (by rfl) (fun _ _ d _ _ h => by cases d <;> exact h) (st0) (hSq).out (by kernel_rfl) ?_
  intro Kq hKq
  go_big_quiet_op
  go_big_quiet_on
  refine Go.Pin.readyL 13 (by simp only [List.getElem?_toArray, List.getElem?_cons_zero, List.getElem?_cons_succ]; exact rfl) (by kernel_rfl) (by kernel_rfl) ?_
  intro K hK
  refine wpCall (d := some 24) (f := 20) (args := #[.agg #[.string P.nm, .slice p0 n0 x0, .slice p1 n1 x1, .slice p2 n2 x2], .agg #[.string P.nm, u0, u1, ul]]) (v := .bool true) (R := fun w' => Below wd.heap.size wd w') rfl rfl (by simp only [List.map_toArray, List.map_cons, List.map_nil]; rfl) (fun _ => rfl) CS ?_
  intro w6 hb6
  refine hK _ _ (.inr hb6) ?_
  simp only [Act.put, List.setIfInBounds_toArray, List.set_cons_zero, List.set_cons_succ]
  clear hK K
  refine Go.Pin.takeL 14 (by simp only [List.getElem?_toArray, List.getElem?_cons_zero, List.getElem?_cons_succ]; exact rfl) (by simp only [List.getElem?_toArray, List.getElem?_cons_zero, List.getElem?_cons_succ]; exact rfl) (by kernel_rfl) (by kernel_rfl) (by kernel_rfl) (by kernel_rfl) (by rfl) (fun _ _ d _ _ h => by cases d <;> exact h) (hb6) (hSq).out (by kernel_rfl) ?_
  intro Kq hKq
  go_big_quiet_op
  go_big_quiet_on
  have hp6 := HPD.out.1.below hb6
  have hx6 : w6.heap[gn]? = some (.cells #[.int .i64 j] 3) := (hb6.block _ (Array.getElem?_eq_some_iff.1 HPD.out.2).1).trans HPD.out.2
  have e0 := one_cell hp6.hk
  have e1 := one_froz hp6.hk
  refine Go.Pin.readyL 15 (by simp only [List.getElem?_toArray, List.getElem?_cons_zero, List.getElem?_cons_succ]; exact rfl) (by kernel_rfl) (by kernel_rfl) ?_
  intro K hK
  refine wpSk (d := none) (w' := w6.setCell ⟨gk, 0, none⟩ (.bool true)) rfl (by unfold execOp; go_simp) (hK _ _ (.inl rfl) ?_)
  simp only [Act.put, List.setIfInBounds_toArray, List.set_cons_zero, List.set_cons_succ]
  clear hK K
  refine Go.Pin.wpL_done (by kernel_rfl) ?_
  have hgn : gn ≠ gk := by have := HPD.out.1.o; have := HG.out; omega
  have hP7 := hp6.setK true
  have hx7 : (w6.setCell ⟨gk, 0, none⟩ (.bool true)).heap[gn]? = some (.cells #[.int .i64 j] 3) := (heap_setCell_other _ _ _ _ hgn).trans hx6
  have hK7 : ∀ b, b ≠ gk → b < W.heap.size → (w6.setCell ⟨gk, 0, none⟩ (.bool true)).heap[b]? = W.heap[b]? := fun b h1 h2 => by
    rw [heap_setCell_other _ _ _ _ h1]
    have h3 := HA.out.1
    rw [← HA.out.2] at h3
    have h4 : wd.heap = w1.heap := by rw [← HWD.out]; rfl
    have h5 := h3.block b h2
    have h6 : wd.heap[b]? = w1.heap[b]? := by rw [h4]
    exact (hb6.block b (by rw [h4]; exact Nat.lt_of_lt_of_le h2 h3.size)).trans (h6.trans h5)
  have hS7 : W.heap.size ≤ (w6.setCell ⟨gk, 0, none⟩ (.bool true)).heap.size := by
    rw [World.size_setCell]
    have h3 := HA.out.1.size
    have h4 : wd.heap = w1.heap := by rw [← HWD.out]; rfl
    have h5 := hb6.size
    rw [h4] at h5
    omega
  obtain ⟨w7, hw7⟩ : ∃ w7, w6.setCell ⟨gk, 0, none⟩ (.bool true) = w7 := ⟨_, rfl⟩
  rw [hw7] at hP7 hx7 hK7 hS7 ⊢
  have H7 : Hid (PA q lim W0 gt gr gn gk m i r j true (.slice (some ⟨bw, ow, none⟩) 38 cw) w7 ∧ w7.heap[gn]? = some (.cells #[.int .i64 j] 3)) := ⟨hP7, hx7⟩
  have HK7 : Hid ((∀ b, b ≠ gk → b < W.heap.size → w7.heap[b]? = W.heap[b]?) ∧ W.heap.size ≤ w7.heap.size) := ⟨hK7, hS7⟩
  have f0 := one_cell hx7
  have f1 := one_froz hx7
  clear hw7 hP7 hx7 hK7 hS7 hgn e0 e1 hp6 hx6 c0 c1 c2 k0 k1 k2 k3 y0 y1 y2 y3 CS st0 hRq hSq hNq
  go_upto_region 3 with (fail)
  have hP8 := H7.out.1.setN ((j : Int) + 1)
  have hx8 : (w7.setCell ⟨gn, 0, none⟩ (.int .i64 ((j : Int) + 1))).heap[gn]? = some (.cells #[.int .i64 ((j : Int) + 1)] 3) := by rw [Go.heap_setCell_same _ _ _ _ _ _ H7.out.2]; rfl
  have hK8 : KP gk gn W (w7.setCell ⟨gn, 0, none⟩ (.int .i64 ((j : Int) + 1))) := ⟨fun b h1 h2 h3 => (heap_setCell_other _ _ _ _ h1).trans (HK7.out.1 b h2 h3), by rw [World.size_setCell]; exact HK7.out.2⟩
  obtain ⟨w8, hw8⟩ : ∃ w8, w7.setCell ⟨gn, 0, none⟩ (.int .i64 ((j : Int) + 1)) = w8 := ⟨_, rfl⟩
  rw [hw8] at hP8 hx8 hK8 ⊢
  clear hw8 f0 f1
  have H8 : Hid (PA q lim W0 gt gr gn gk m i r ((j : Int) + 1) true (.slice (some ⟨bw, ow, none⟩) 38 cw) w8 ∧ KQ gk W w8) := ⟨hP8, fun b h1 h2 => hK8.1 b (by have := HG.out; omega) (by omega) h2, hK8.2⟩
  clear hP8 hx8 hK8 H7 HK7
  have r1 := one_cell H8.out.1.hr
  have r2 := one_cell H8.out.1.hn
  by_cases h1 : r = 1
  case neg =>
    have a1 : (r == 1) = false := by simpa using h1
    have a2 : decide (r = 1) = false := by simpa using h1
    have HR1 : Hid (¬ r = 1) := h1
    clear h1
    go_upto_region 7 with (fail)
    clear r1 r2
    have f0 := one_cell H8.out.1.hk
    have f1 := one_cell H8.out.1.hr
    have f2 := one_cell H8.out.1.hn
    have f3 := one_cell H8.out.1.hm
    by_cases h2 : r = 2
    · have g2 : (r == 2) = true := by simpa using h2
      have g2' : decide (r = 2) = true := by simpa using h2
      have H2 : Hid (r = 2) := h2
      clear h2
      go_wp2
      go_ret
      exact ⟨by rw [show decide (r = 2 ∨ ¬ (j : Int) + 1 = m) = true from decide_eq_true (.inl H2.out)]; rfl, H8.out⟩
    have g2 : (r == 2) = false := by simpa using h2
    have g2' : decide (r = 2) = false := by simpa using h2
    have H2 : Hid (¬ r = 2) := h2
    clear h2
    by_cases hm : (j : Int) + 1 = m
    · have HM : Hid ((j : Int) + 1 = m) := hm
      have g3 : ((j : Int) + 1 == m) = true := by simpa using hm
      have g4 : decide ((j : Int) + 1 = m) = true := by simpa using hm
      have g5 : ((j : Int) + 1 != m) = false := by simpa using hm
      clear hm
      go_wp2
      go_ret
      exact ⟨by rw [show decide (r = 2 ∨ ¬ (j : Int) + 1 = m) = false from decide_eq_false (fun h => h.elim H2.out (fun h => h HM.out))]; rfl, H8.out⟩
    · have HM : Hid (¬ (j : Int) + 1 = m) := hm
      have g3 : ((j : Int) + 1 == m) = false := by simpa using hm
      have g4 : decide ((j : Int) + 1 = m) = false := by simpa using hm
      have g5 : ((j : Int) + 1 != m) = true := by simpa using hm
      clear hm
      go_wp2
      go_ret
      exact ⟨by rw [show decide (r = 2 ∨ ¬ (j : Int) + 1 = m) = true from decide_eq_true (.inr HM.out)]; rfl, H8.out⟩
  have a1 : (r == 1) = true := by simpa using h1
  have a2 : decide (r = 1) = true := by simpa using h1
  have HR1 : Hid (r = 1) := h1
  clear h1
  by_cases h4 : j + 1 < 4
  case neg =>
    have a3 : ¬ (j : Int) + 1 < 4 := by omega
    have HJ4 : Hid (¬ j + 1 < 4) := h4
    clear h4
    go_upto_region 7 with (fail)
    clear r1 r2 a3
    have f0 := one_cell H8.out.1.hk
    have f1 := one_cell H8.out.1.hr
    have f2 := one_cell H8.out.1.hn
    have f3 := one_cell H8.out.1.hm
    by_cases h2 : r = 2
    · have g2 : (r == 2) = true := by simpa using h2
      have g2' : decide (r = 2) = true := by simpa using h2
      have H2 : Hid (r = 2) := h2
      clear h2
      go_wp2
      go_ret
      exact ⟨by rw [show decide (r = 2 ∨ ¬ (j : Int) + 1 = m) = true from decide_eq_true (.inl H2.out)]; rfl, H8.out⟩
    have g2 : (r == 2) = false := by simpa using h2
    have g2' : decide (r = 2) = false := by simpa using h2
    have H2 : Hid (¬ r = 2) := h2
    clear h2
    by_cases hm : (j : Int) + 1 = m
    · have HM : Hid ((j : Int) + 1 = m) := hm
      have g3 : ((j : Int) + 1 == m) = true := by simpa using hm
      have g4 : decide ((j : Int) + 1 = m) = true := by simpa using hm
      have g5 : ((j : Int) + 1 != m) = false := by simpa using hm
      clear hm
      go_wp2
      go_ret
      exact ⟨by rw [show decide (r = 2 ∨ ¬ (j : Int) + 1 = m) = false from decide_eq_false (fun h => h.elim H2.out (fun h => h HM.out))]; rfl, H8.out⟩
    · have HM : Hid (¬ (j : Int) + 1 = m) := hm
      have g3 : ((j : Int) + 1 == m) = false := by simpa using hm
      have g4 : decide ((j : Int) + 1 = m) = false := by simpa using hm
      have g5 : ((j : Int) + 1 != m) = true := by simpa using hm
      clear hm
      go_wp2
      go_ret
      exact ⟨by rw [show decide (r = 2 ∨ ¬ (j : Int) + 1 = m) = true from decide_eq_true (.inr HM.out)]; rfl, H8.out⟩
  have a3 : (j : Int) + 1 < 4 := by omega
  have HJ4 : Hid (j + 1 < 4) := h4
  clear h4
  go_upto_region 5 with (fail)
  clear r1 r2 a3
  have hal : Below w8.heap.size w8 (w8.alloc (.cells #[.int .i64 0] 3)) := (Below.refl _ _).alloc (Nat.le_refl _) _
  have hP9 := H8.out.1.below hal
  have hc9 : (w8.alloc (.cells #[.int .i64 0] 3)).heap[w8.heap.size]? = some (.cells #[.int .i64 0] 3) := heap_alloc_new _ _
  have hK9 : KQ gk W (w8.alloc (.cells #[.int .i64 0] 3)) := ⟨fun b h1 h2 => (hal.block b (Nat.lt_of_lt_of_le h2 H8.out.2.2)).trans (H8.out.2.1 b h1 h2), Nat.le_trans H8.out.2.2 hal.size⟩
  have hgc : gk < w8.heap.size ∧ W.heap.size ≤ w8.heap.size := ⟨H8.out.1.lt, H8.out.2.2⟩
  obtain ⟨gc, hgcn⟩ : ∃ gc, w8.heap.size = gc := ⟨_, rfl⟩
  obtain ⟨w9, hw9⟩ : ∃ w9, w8.alloc (.cells #[.int .i64 0] 3) = w9 := ⟨_, rfl⟩
  simp only [hgcn, hw9] at hP9 hc9 hK9 hgc ⊢
  clear hgcn hw9 hal
  have f0 := one_cell hP9.ht
  have CI := all1_any (ea := ea) w9.heap.size 26 #[.pointer (some ⟨gk, 0, none⟩), .pointer (some ⟨gc, 0, none⟩), .pointer (some ⟨lim, 0, none⟩), .pointer (some ⟨q + 1, 0, none⟩)] (fun k y => PA q lim W0 gt gr gn gk m i r ((j : Int) + 1) true (.slice (some ⟨bw, ow, none⟩) 38 cw) y ∧ y.heap[gc]? = some (.cells #[.int .i64 k] 3) ∧ KQ gk W y) (fun y => PA q lim W0 gt gr gn gk m i r ((j : Int) + 1) true (.slice (some ⟨bw, ow, none⟩) 38 cw) y ∧ y.heap[gc]? = some (.cells #[.int .i64 i] 3) ∧ KQ gk W y) w9 rfl (fun _ _ => rfl) ?_ (fun k y hy => HE.out _ hy.1.old) ⟨hP9, hc9, hK9⟩
  rotate_left
  · intro k W1 Wk v0 v1 vl hk hI hb hft
    have hcl : gc < W1.heap.size := (Array.getElem?_eq_some_iff.1 hI.2.1).1
    have hlt : gc < w9.heap.size := (Array.getElem?_eq_some_iff.1 hc9).1
    have hKk : KQ gk W Wk := ⟨fun b h1 h2 => (hb.block b (Nat.lt_of_lt_of_le h2 hI.2.2.2)).trans (hI.2.2.1 b h1 h2), Nat.le_trans hI.2.2.2 hb.size⟩
    refine (pin_any (hI.1.below hb) ((hb.block _ hcl).trans hI.2.1) hgc.1 hk rfl hft).mono ?_
    rintro e W' ⟨rfl, hPA, hrow, hKP⟩
    have hKW : KQ gk W W' := ⟨fun b h1 h2 => (hKP.1 b (by omega) (by omega) (Nat.lt_of_lt_of_le h2 hKk.2)).trans (hKk.1 b h1 h2), Nat.le_trans hKk.2 hKP.2⟩
    refine ⟨_, rfl, fun b h1 h2 => hKP.1 b (by omega) (by omega) h2, hKP.2, ?_⟩
    by_cases hi : (k : Int) + 1 = i
    · rw [if_neg (by simpa using hi)]
      exact ⟨hPA, by rw [← hi]; exact hrow, hKW⟩
    · rw [if_pos (by simpa using hi)]
      exact ⟨hPA, hrow, hKW⟩
  have HGC : Hid (gk < gc ∧ W.heap.size ≤ gc) := hgc
  clear hP9 hc9 hK9 hgc
  go_upto_region 6 with (go_at_call 55; refine CI.mono ?_; rintro e w10 ⟨rfl, hd⟩; have HD : Hid _ := hd; clear hd CI f0)
  have hd := HD.out
  have hex : ∃ k : Int, (k = i ∨ k = 38) ∧ PA q lim W0 gt gr gn gk m i r ((j : Int) + 1) true (.slice (some ⟨bw, ow, none⟩) 38 cw) w10 ∧ w10.heap[gc]? = some (.cells #[.int .i64 k] 3) ∧ KQ gk W w10 := by
    rcases hd with hd | hd
    · exact ⟨i, .inl rfl, hd⟩
    · exact ⟨38, .inr rfl, hd⟩
  obtain ⟨k, hk, hP10, hc10, hK10⟩ := hex
  clear hd HD
  have f0 := one_cell hP10.hk
  have f1 := one_froz hP10.hk
  have f2 := one_cell hc10
  have f3 := one_cell hP10.hi
  have f4 := one_cell hP10.hw
  have H10 : Hid (PA q lim W0 gt gr gn gk m i r ((j : Int) + 1) true (.slice (some ⟨bw, ow, none⟩) 38 cw) w10 ∧ KQ gk W w10) := ⟨hP10, hK10⟩
  clear hP10 hc10 hK10
  by_cases hki : k = i
  · have g1 : (k == i) = true := by simpa using hki
    have g2 : decide (k = i) = true := by simpa using hki
    clear hki hk
    go_upto_region 7 with (fail)
    have h11 : PA q lim W0 gt gr gn gk m i r ((j : Int) + 1) true (.slice (some ⟨bw, ow, none⟩) 38 cw) (w10.setCell ⟨gk, 0, none⟩ (.bool true)) ∧ KQ gk W (w10.setCell ⟨gk, 0, none⟩ (.bool true)) := ⟨H10.out.1.setK true, fun b h1 h2 => (heap_setCell_other _ _ _ _ (by show b ≠ gk; omega)).trans (H10.out.2.1 b h1 h2), by rw [World.size_setCell]; exact H10.out.2.2⟩
    obtain ⟨w11, hw11⟩ : ∃ w11, w10.setCell ⟨gk, 0, none⟩ (.bool true) = w11 := ⟨_, rfl⟩
    rw [hw11] at h11 ⊢
    have H11 : Hid (PA q lim W0 gt gr gn gk m i r ((j : Int) + 1) true (.slice (some ⟨bw, ow, none⟩) 38 cw) w11 ∧ KQ gk W w11) := h11
    clear h11 hw11 f0 f1 f2 f3 f4
    have f0 := one_cell H11.out.1.hk
    have f1 := one_cell H11.out.1.hr
    have f2 := one_cell H11.out.1.hn
    have f3 := one_cell H11.out.1.hm
    by_cases h2 : r = 2
    · have g2 : (r == 2) = true := by simpa using h2
      have g2' : decide (r = 2) = true := by simpa using h2
      have H2 : Hid (r = 2) := h2
      clear h2
      go_wp2
      go_ret
      exact ⟨by rw [show decide (r = 2 ∨ ¬ (j : Int) + 1 = m) = true from decide_eq_true (.inl H2.out)]; rfl, H11.out⟩
    have g2 : (r == 2) = false := by simpa using h2
    have g2' : decide (r = 2) = false := by simpa using h2
    have H2 : Hid (¬ r = 2) := h2
    clear h2
    by_cases hm : (j : Int) + 1 = m
    · have HM : Hid ((j : Int) + 1 = m) := hm
      have g3 : ((j : Int) + 1 == m) = true := by simpa using hm
      have g4 : decide ((j : Int) + 1 = m) = true := by simpa using hm
      have g5 : ((j : Int) + 1 != m) = false := by simpa using hm
      clear hm
      go_wp2
      go_ret
      exact ⟨by rw [show decide (r = 2 ∨ ¬ (j : Int) + 1 = m) = false from decide_eq_false (fun h => h.elim H2.out (fun h => h HM.out))]; rfl, H11.out⟩
    · have HM : Hid (¬ (j : Int) + 1 = m) := hm
      have g3 : ((j : Int) + 1 == m) = false := by simpa using hm
      have g4 : decide ((j : Int) + 1 = m) = false := by simpa using hm
      have g5 : ((j : Int) + 1 != m) = true := by simpa using hm
      clear hm
      go_wp2
      go_ret
      exact ⟨by rw [show decide (r = 2 ∨ ¬ (j : Int) + 1 = m) = true from decide_eq_true (.inr HM.out)]; rfl, H11.out⟩
  · have g1 : (k == i) = false := by simpa using hki
    have g2 : decide (k = i) = false := by simpa using hki
    obtain rfl : k = 38 := hk.resolve_left hki
    clear hki hk
    go_upto_region 7 with (fail)
    have h11 : PA q lim W0 gt gr gn gk m i r ((j : Int) + 1) true (.slice (some ⟨bw, ow, none⟩) 38 cw) (w10.setCell ⟨gk, 0, none⟩ (.bool true)) ∧ KQ gk W (w10.setCell ⟨gk, 0, none⟩ (.bool true)) := ⟨H10.out.1.setK true, fun b h1 h2 => (heap_setCell_other _ _ _ _ (by show b ≠ gk; omega)).trans (H10.out.2.1 b h1 h2), by rw [World.size_setCell]; exact H10.out.2.2⟩
    obtain ⟨w11, hw11⟩ : ∃ w11, w10.setCell ⟨gk, 0, none⟩ (.bool true) = w11 := ⟨_, rfl⟩
    rw [hw11] at h11 ⊢
    have H11 : Hid (PA q lim W0 gt gr gn gk m i r ((j : Int) + 1) true (.slice (some ⟨bw, ow, none⟩) 38 cw) w11 ∧ KQ gk W w11) := h11
    clear h11 hw11 f0 f1 f2 f3 f4
    have f0 := one_cell H11.out.1.hk
    have f1 := one_cell H11.out.1.hr
    have f2 := one_cell H11.out.1.hn
    have f3 := one_cell H11.out.1.hm
    by_cases h2 : r = 2
    · have g2 : (r == 2) = true := by simpa using h2
      have g2' : decide (r = 2) = true := by simpa using h2
      have H2 : Hid (r = 2) := h2
      clear h2
      go_wp2
      go_ret
      exact ⟨by rw [show decide (r = 2 ∨ ¬ (j : Int) + 1 = m) = true from decide_eq_true (.inl H2.out)]; rfl, H11.out⟩
    have g2 : (r == 2) = false := by simpa using h2
    have g2' : decide (r = 2) = false := by simpa using h2
    have H2 : Hid (¬ r = 2) := h2
    clear h2
    by_cases hm : (j : Int) + 1 = m
    · have HM : Hid ((j : Int) + 1 = m) := hm
      have g3 : ((j : Int) + 1 == m) = true := by simpa using hm
      have g4 : decide ((j : Int) + 1 = m) = true := by simpa using hm
      have g5 : ((j : Int) + 1 != m) = false := by simpa using hm
      clear hm
      go_wp2
      go_ret
      exact ⟨by rw [show decide (r = 2 ∨ ¬ (j : Int) + 1 = m) = false from decide_eq_false (fun h => h.elim H2.out (fun h => h HM.out))]; rfl, H11.out⟩
    · have HM : Hid (¬ (j : Int) + 1 = m) := hm
      have g3 : ((j : Int) + 1 == m) = false := by simpa using hm
      have g4 : decide ((j : Int) + 1 = m) = false := by simpa using hm
      have g5 : ((j : Int) + 1 != m) = true := by simpa using hm
      clear hm
      go_wp2
      go_ret
      exact ⟨by rw [show decide (r = 2 ∨ ¬ (j : Int) + 1 = m) = true from decide_eq_true (.inr HM.out)]; rfl, H11.out⟩
end Go.Proofs.YtmlcgcmoioekpaaGreatDoor
