import Derived.Test.YtmlcgcmoioekpabGreatDoorMqbg
namespace Go.Proofs.YtmlcgcmoioekpabGreatDoor
set_option linter.unusedSimpArgs false
set_option linter.unusedVariables false
set_option maxRecDepth 100000
open Go.ChangeShapes Go.WideShapes Go.ChangeAt Go.RowKit Go.Pin Go.Pat Go.Deep
/-- the name ahead of the j-th -/
def lastN (j : Nat) : ByteArray := if j = 0 then ⟨#[]⟩ else (tab.getD (j - 1) zPt).nm
theorem name_up : ((List.range 38).all fun j => !Op.bytesLess (tab.getD j zPt).nm.toList (lastN j).toList && !((tab.getD j zPt).nm.toList == (lastN j).toList)) = true := by kernel_rfl
theorem name_gt {j : Nat} (hj : j < 38) : Op.bytesLess (tab.getD j zPt).nm.toList (lastN j).toList = false ∧ ((tab.getD j zPt).nm.toList == (lastN j).toList) = false := by
  have h := List.all_eq_true.1 name_up j (List.mem_range.2 hj)
  simpa using h
theorem tab_mem {j : Nat} (hj : j < 38) : tab.getD j zPt ∈ tab := by
  have hl : j < tab.length := hj
  rw [show tab.getD j zPt = tab[j] by simp [List.getD, hl]]
  exact List.getElem_mem _
theorem tab_find {j : Nat} (hj : j < 38) : tbI (tab.getD j zPt).nm = some (tab.getD j zPt) := by
  have h := tab_names
  rw [List.map_inj_left] at h
  exact h _ (tab_mem hj)
/-- the boxes of PatternTable -/
structure PTb (q : Nat) (W0 : World) (l : ByteArray) (n : Int) (ok : Bool) (w : World) : Prop where
  old : Below q W0 w
  hl : w.heap[q]? = some (.cells #[.string l] 9)
  hn : w.heap[q + 1]? = some (.cells #[.int .i64 n] 3)
  hk : w.heap[q + 2]? = some (.cells #[.bool ok] 4)
section
variable {q : Nat} {W0 w w' : World} {l : ByteArray} {n : Int} {ok : Bool}
theorem PTb.lt (h : PTb q W0 l n ok w) : q + 2 < w.heap.size := (Array.getElem?_eq_some_iff.1 h.hk).1
theorem PTb.below (h : PTb q W0 l n ok w) (hb : Below w.heap.size w w') : PTb q W0 l n ok w' := by
  have hl := h.lt
  exact ⟨h.old.trans (hb.mono (by omega)), (hb.block _ (by omega)).trans h.hl, (hb.block _ (by omega)).trans h.hn, (hb.block _ (by omega)).trans h.hk⟩
theorem PTb.setL (h : PTb q W0 l n ok w) (l' : ByteArray) : PTb q W0 l' n ok (w.setCell ⟨q, 0, none⟩ (.string l')) :=
  ⟨h.old.setCell (p := ⟨q, 0, none⟩) (Nat.le_refl _) _, by rw [Go.heap_setCell_same _ _ _ _ _ _ h.hl]; rfl, (heap_setCell_other _ _ _ _ (by show q + 1 ≠ q; omega)).trans h.hn, (heap_setCell_other _ _ _ _ (by show q + 2 ≠ q; omega)).trans h.hk⟩
theorem PTb.setN (h : PTb q W0 l n ok w) (n' : Int) : PTb q W0 l n' ok (w.setCell ⟨q + 1, 0, none⟩ (.int .i64 n')) :=
  ⟨h.old.setCell (p := ⟨q + 1, 0, none⟩) (by show q ≤ q + 1; omega) _, (heap_setCell_other _ _ _ _ (by show q ≠ q + 1; omega)).trans h.hl, by rw [Go.heap_setCell_same _ _ _ _ _ _ h.hn]; rfl, (heap_setCell_other _ _ _ _ (by show q + 2 ≠ q + 1; omega)).trans h.hk⟩
theorem PTb.setK (h : PTb q W0 l n ok w) (k' : Bool) : PTb q W0 l n k' (w.setCell ⟨q + 2, 0, none⟩ (.bool k')) :=
  ⟨h.old.setCell (p := ⟨q + 2, 0, none⟩) (by show q ≤ q + 2; omega) _, (heap_setCell_other _ _ _ _ (by show q ≠ q + 2; omega)).trans h.hl, (heap_setCell_other _ _ _ _ (by show q + 1 ≠ q + 2; omega)).trans h.hn, by rw [Go.heap_setCell_same _ _ _ _ _ _ h.hk]; rfl⟩
end
theorem one_cell {w : World} {g : Nat} {v : Value} {t : TypeId} (h : w.heap[g]? = some (.cells #[v] t)) : w.cell? ⟨g, 0, none⟩ = some v := by rw [cell_of_row _ _ _ _ _ _ h]; rfl
theorem one_froz {w : World} {g : Nat} {v : Value} {t : TypeId} (h : w.heap[g]? = some (.cells #[v] t)) : w.frozen? ⟨g, 0, none⟩ = false := frozen_of_row _ _ _ _ _ h
/-- what lies behind the three boxes stays -/
def KT3 (q : Nat) (W W' : World) : Prop := (∀ b, q + 2 < b → b < W.heap.size → W'.heap[b]? = W.heap[b]?) ∧ W.heap.size ≤ W'.heap.size
theorem KT3.on {q : Nat} {W y y' : World} (h : KT3 q W y) (hb : Below y.heap.size y y') : KT3 q W y' := ⟨fun b h1 h2 => (hb.block b (Nat.lt_of_lt_of_le h2 h.2)).trans (h.1 b h1 h2), Nat.le_trans h.2 hb.size⟩
theorem KT3.set {q : Nat} {W y : World} (h : KT3 q W y) {g : Nat} (hg : g ≤ q + 2) (v : Value) : KT3 q W (y.setCell ⟨g, 0, none⟩ v) := ⟨fun b h1 h2 => (heap_setCell_other _ _ _ _ (by show b ≠ g; omega)).trans (h.1 b h1 h2), by rw [World.size_setCell]; exact h.2⟩
theorem BX.set {b : Nat} {v0 v1 vl : Value} {p : Pt} {S : Nat → Prop} {w : World} {g : Nat} {v : Value} (hr : w.heap[b]? = some (.cells #[.string p.nm, v0, v1, vl] 26)) (hf : FtP S w v0 v1 vl p) (hS : ∀ k, S k → k ≠ g) (hb : b ≠ g) : BX b v0 v1 vl p (w.setCell ⟨g, 0, none⟩ v) :=
  ⟨(heap_setCell_other _ _ _ _ hb).trans hr, (hf.keep (fun k hk => heap_setCell_other _ _ _ _ (hS k hk))).rd⟩
set_option maxHeartbeats 8000000 in
theorem ptab_any {ea : Int → Addr} {q j : Nat} {W0 W W1 : World} {v0 v1 vl : Value} (hE : ∀ y, Below q W0 y → Errs ea y) (h : PTb q W0 (lastN j) j true W) (hj : j < 38) {P : Pt} (hP : tab.getD j zPt = P) (hS : q + 2 < W1.heap.size) (hf : FtP (fun b => W1.heap.size ≤ b ∧ b < W.heap.size) W v0 v1 vl P) :
    Calls Tryz.prog 16 #[.agg #[.string P.nm, v0, v1, vl], .pointer (some ⟨q + 1, 0, none⟩), .pointer (some ⟨q + 2, 0, none⟩), .pointer (some ⟨q, 0, none⟩)] W fun e W' =>
      e = .returned (.bool true) ∧ PTb q W0 (lastN (j + 1)) ((j + 1 : Nat) : Int) true W' ∧ KT3 q W W' := by
  have hbr := heap_alloc_new W (.cells #[.string P.nm, v0, v1, vl] 26)
  have hal : Below W.heap.size W (W.alloc (.cells #[.string P.nm, v0, v1, vl] 26)) := (Below.refl _ _).alloc (Nat.le_refl _) _
  have hf1 := hf.keep (fun b hb => hal.block b hb.2)
  obtain ⟨p0, n0, x0, rfl⟩ := hf.1.sl3
  obtain ⟨p1, n1, x1, rfl⟩ := hf.2.1.sl3
  obtain ⟨p2, n2, x2, rfl⟩ := hf.2.2.sl3
  have h1 := h.below hal
  have hK1 : KT3 q W (W.alloc (.cells #[.string P.nm, .slice p0 n0 x0, .slice p1 n1 x1, .slice p2 n2 x2] 26)) := ⟨fun b _ h2 => hal.block b h2, hal.size⟩
  have hlt := h.lt
  obtain ⟨gp, hgp⟩ : ∃ gp, W.heap.size = gp := ⟨_, rfl⟩
  obtain ⟨w1, hw1⟩ : ∃ w1, W.alloc (.cells #[.string P.nm, .slice p0 n0 x0, .slice p1 n1 x1, .slice p2 n2 x2] 26) = w1 := ⟨_, rfl⟩
  rw [hw1, hgp] at hbr
  rw [hw1] at hf1 h1 hK1
  have hgl : q + 2 < gp := by omega
  have HT : Hid (TbF P) := by show TbF P; rw [← hP]; exact tab_f (tab_mem hj)
  have HFD : Hid (tbI P.nm = some P) := by show tbI P.nm = some P; rw [← hP]; exact tab_find hj
  obtain ⟨hb1, hb2⟩ := name_gt hj
  rw [hP] at hb1 hb2
  have HLN : Hid (lastN (j + 1) = P.nm) := by show lastN (j + 1) = P.nm; unfold lastN; rw [if_neg (by omega), Nat.add_sub_cancel, hP]
  obtain ⟨l, hl⟩ : ∃ l, lastN j = l := ⟨_, rfl⟩
  rw [hl] at hb1 hb2 h1
  have HE : Hid (∀ y, Below q W0 y → Errs ea y) := hE
  have HJ : Hid (j < 38) := hj
  have c0 := one_cell h1.hn
  have c1 := one_froz h1.hn
  have bj : (j : Int) < 38 := by omega
  have H1 : Hid (PTb q W0 l j true w1 ∧ w1.heap[gp]? = some (.cells #[.string P.nm, .slice p0 n0 x0, .slice p1 n1 x1, .slice p2 n2 x2] 26) ∧ FtP (fun b => q + 2 < b ∧ b < gp) w1 (.slice p0 n0 x0) (.slice p1 n1 x1) (.slice p2 n2 x2) P ∧ KT3 q W w1 ∧ q + 2 < gp) := ⟨h1, hbr, hf1.mono (fun b hb => ⟨by omega, by omega⟩), hK1, hgl⟩
  clear h hj hP hS hf hbr hal hf1 h1 hK1 hlt hgl hl hE
  go_enter Tryz.func16, Tryz.ntmps16
  go_upto_region 1 with (fail)
  try simp only [hgp, hw1]
  clear hw1
  go_upto_region 2 with (fail)
  have hP2 := H1.out.1.setN ((j : Int) + 1)
  have hr2 : (w1.setCell ⟨q + 1, 0, none⟩ (.int .i64 ((j : Int) + 1))).heap[gp]? = some (.cells #[.string P.nm, .slice p0 n0 x0, .slice p1 n1 x1, .slice p2 n2 x2] 26) := (heap_setCell_other _ _ _ _ (by show gp ≠ q + 1; have := H1.out.2.2.2.2; omega)).trans H1.out.2.1
  have hf2 := H1.out.2.2.1.keep (w' := w1.setCell ⟨q + 1, 0, none⟩ (.int .i64 ((j : Int) + 1))) (fun b hb => heap_setCell_other _ _ _ _ (by show b ≠ q + 1; omega))
  have hK2 := H1.out.2.2.2.1.set (g := q + 1) (by omega) (.int .i64 ((j : Int) + 1))
  obtain ⟨w2, hw2⟩ : ∃ w2, w1.setCell ⟨q + 1, 0, none⟩ (.int .i64 ((j : Int) + 1)) = w2 := ⟨_, rfl⟩
  rw [hw2] at hP2 hr2 hf2 hK2 ⊢
  have H2 : Hid (PTb q W0 l ((j : Int) + 1) true w2 ∧ BX gp (.slice p0 n0 x0) (.slice p1 n1 x1) (.slice p2 n2 x2) P w2 ∧ KT3 q W w2) := ⟨hP2, ⟨hr2, hf2.rd⟩, hK2⟩
  have d0 := H2.out.2.1.c0
  have CF := find_any' (ea := ea) P.nm w2 (HE.out _ hP2.old)
  unfold FnP at CF
  rw [HFD.out] at CF
  simp only [Option.getD_some, Option.isSome_some] at CF
  clear hP2 hr2 hf2 hK2 hw2 c0 c1
  go_upto_region 3 with (go_at_call 17; refine CF.mono ?_; rintro e w3 ⟨hb, v0, v1, vl, rfl, hf⟩; obtain ⟨r0, z0, r1, z1, r2, z2, rfl, rfl, rfl⟩ := ft_sl hf; have H3 : Hid (PTb q W0 l ((j : Int) + 1) true w3 ∧ BX gp (.slice p0 n0 x0) (.slice p1 n1 x1) (.slice p2 n2 x2) P w3 ∧ KT3 q W w3 ∧ RdP w3 (.agg #[.string P.nm, .slice r0 P.b0.length z0, .slice r1 P.b1.length z1, .slice r2 P.ln.length z2]) P) := ⟨H2.out.1.below hb, H2.out.2.1.below hb, H2.out.2.2.on hb, hf.rd⟩; clear hb hf CF d0)
  have hal : Below w3.heap.size w3 (w3.alloc (.cells #[.string P.nm, .slice r0 P.b0.length z0, .slice r1 P.b1.length z1, .slice r2 P.ln.length z2] 26)) := (Below.refl _ _).alloc (Nat.le_refl _) _
  have hn := And.intro (H3.out.1.below hal) (And.intro (H3.out.2.1.below hal) (And.intro (bx_new w3 H3.out.2.2.2) (H3.out.2.2.1.on hal)))
  obtain ⟨gq, hgq⟩ : ∃ gq, w3.heap.size = gq := ⟨_, rfl⟩
  obtain ⟨W4, hW4⟩ : ∃ W4, w3.alloc (.cells #[.string P.nm, .slice r0 P.b0.length z0, .slice r1 P.b1.length z1, .slice r2 P.ln.length z2] 26) = W4 := ⟨_, rfl⟩
  simp only [hgq, hW4] at hn ⊢
  have TS : Hid (PTb q W0 l ((j : Int) + 1) true W4 ∧ BX gp (.slice p0 n0 x0) (.slice p1 n1 x1) (.slice p2 n2 x2) P W4 ∧ BX gq (.slice r0 P.b0.length z0) (.slice r1 P.b1.length z1) (.slice r2 P.ln.length z2) P W4 ∧ KT3 q W W4) := hn
  clear hn hal hgq hW4 H3 H2
  have d0 := TS.out.2.1.c0; have d1 := TS.out.2.1.c1; have d2 := TS.out.2.1.c2; have d3 := TS.out.2.1.c3; have e0 := TS.out.2.2.1.c0; have e1 := TS.out.2.2.1.c1; have e2 := TS.out.2.2.1.c2; have e3 := TS.out.2.2.1.c3; have o0 := one_cell TS.out.1.hk; have o1 := one_froz TS.out.1.hk; have l0 := one_cell TS.out.1.hl
  have CS := same_true TS.out.2.1.rd TS.out.2.2.1.rd
  go_upto_region 4 with (first
    | (go_at_call 11; refine CS.mono ?_; rintro e y ⟨rfl, hb⟩; have hn : PTb q W0 l ((j : Int) + 1) true y ∧ BX gp (.slice p0 n0 x0) (.slice p1 n1 x1) (.slice p2 n2 x2) P y ∧ BX gq (.slice r0 P.b0.length z0) (.slice r1 P.b1.length z1) (.slice r2 P.ln.length z2) P y ∧ KT3 q W y := ⟨TS.out.1.below hb, TS.out.2.1.below hb, TS.out.2.2.1.below hb, TS.out.2.2.2.on hb⟩; clear TS hb CS; clear d0 d1 d2 d3 e0 e1 e2 e3 o0 o1 l0; have TS : Hid (PTb q W0 l ((j : Int) + 1) true y ∧ BX gp (.slice p0 n0 x0) (.slice p1 n1 x1) (.slice p2 n2 x2) P y ∧ BX gq (.slice r0 P.b0.length z0) (.slice r1 P.b1.length z1) (.slice r2 P.ln.length z2) P y ∧ KT3 q W y) := hn; clear hn; have d0 := TS.out.2.1.c0; have d1 := TS.out.2.1.c1; have d2 := TS.out.2.1.c2; have d3 := TS.out.2.1.c3; have e0 := TS.out.2.2.1.c0; have e1 := TS.out.2.2.1.c1; have e2 := TS.out.2.2.1.c2; have e3 := TS.out.2.2.1.c3; have o0 := one_cell TS.out.1.hk; have o1 := one_froz TS.out.1.hk; have l0 := one_cell TS.out.1.hl; have CK := pcheck_any (ea := ea) _ P y (HE.out _ TS.out.1.old) TS.out.2.1.rd; rw [HT.out.ck, EV_0] at CK)
    | (go_at_call 12; refine CK.mono ?_; rintro e y ⟨rfl, hb⟩; have hn : PTb q W0 l ((j : Int) + 1) true y ∧ BX gp (.slice p0 n0 x0) (.slice p1 n1 x1) (.slice p2 n2 x2) P y ∧ BX gq (.slice r0 P.b0.length z0) (.slice r1 P.b1.length z1) (.slice r2 P.ln.length z2) P y ∧ KT3 q W y := ⟨TS.out.1.below hb, TS.out.2.1.below hb, TS.out.2.2.1.below hb, TS.out.2.2.2.on hb⟩; clear TS hb CK; clear d0 d1 d2 d3 e0 e1 e2 e3 o0 o1 l0; have TS : Hid (PTb q W0 l ((j : Int) + 1) true y ∧ BX gp (.slice p0 n0 x0) (.slice p1 n1 x1) (.slice p2 n2 x2) P y ∧ BX gq (.slice r0 P.b0.length z0) (.slice r1 P.b1.length z1) (.slice r2 P.ln.length z2) P y ∧ KT3 q W y) := hn; clear hn; have d0 := TS.out.2.1.c0; have d1 := TS.out.2.1.c1; have d2 := TS.out.2.1.c2; have d3 := TS.out.2.1.c3; have e0 := TS.out.2.2.1.c0; have e1 := TS.out.2.2.1.c1; have e2 := TS.out.2.2.1.c2; have e3 := TS.out.2.2.1.c3; have o0 := one_cell TS.out.1.hk; have o1 := one_froz TS.out.1.hk; have l0 := one_cell TS.out.1.hl; have CO := once_true _ P y TS.out.2.1.rd (on_chk HT.out.ck))
    | (go_at_call 14; refine CO.mono ?_; rintro e y ⟨rfl, hb⟩; have hn : PTb q W0 l ((j : Int) + 1) true y ∧ BX gp (.slice p0 n0 x0) (.slice p1 n1 x1) (.slice p2 n2 x2) P y ∧ BX gq (.slice r0 P.b0.length z0) (.slice r1 P.b1.length z1) (.slice r2 P.ln.length z2) P y ∧ KT3 q W y := ⟨TS.out.1.below hb, TS.out.2.1.below hb, TS.out.2.2.1.below hb, TS.out.2.2.2.on hb⟩; clear TS hb CO; clear d0 d1 d2 d3 e0 e1 e2 e3 o0 o1 l0; have TS : Hid (PTb q W0 l ((j : Int) + 1) true y ∧ BX gp (.slice p0 n0 x0) (.slice p1 n1 x1) (.slice p2 n2 x2) P y ∧ BX gq (.slice r0 P.b0.length z0) (.slice r1 P.b1.length z1) (.slice r2 P.ln.length z2) P y ∧ KT3 q W y) := hn; clear hn; have d0 := TS.out.2.1.c0; have d1 := TS.out.2.1.c1; have d2 := TS.out.2.1.c2; have d3 := TS.out.2.1.c3; have e0 := TS.out.2.2.1.c0; have e1 := TS.out.2.2.1.c1; have e2 := TS.out.2.2.1.c2; have e3 := TS.out.2.2.1.c3; have o0 := one_cell TS.out.1.hk; have o1 := one_froz TS.out.1.hk; have l0 := one_cell TS.out.1.hl; have CM := modified_true (ea := ea) _ P y (HE.out _ TS.out.1.old) TS.out.2.1.rd HT.out)
    | (go_at_call 18; refine CM.mono ?_; rintro e y ⟨rfl, hb⟩; have hn : PTb q W0 l ((j : Int) + 1) true y ∧ BX gp (.slice p0 n0 x0) (.slice p1 n1 x1) (.slice p2 n2 x2) P y ∧ BX gq (.slice r0 P.b0.length z0) (.slice r1 P.b1.length z1) (.slice r2 P.ln.length z2) P y ∧ KT3 q W y := ⟨TS.out.1.below hb, TS.out.2.1.below hb, TS.out.2.2.1.below hb, TS.out.2.2.2.on hb⟩; clear TS hb CM; clear d0 d1 d2 d3 e0 e1 e2 e3 o0 o1 l0; have TS : Hid (PTb q W0 l ((j : Int) + 1) true y ∧ BX gp (.slice p0 n0 x0) (.slice p1 n1 x1) (.slice p2 n2 x2) P y ∧ BX gq (.slice r0 P.b0.length z0) (.slice r1 P.b1.length z1) (.slice r2 P.ln.length z2) P y ∧ KT3 q W y) := hn; clear hn; have d0 := TS.out.2.1.c0; have d1 := TS.out.2.1.c1; have d2 := TS.out.2.1.c2; have d3 := TS.out.2.1.c3; have e0 := TS.out.2.2.1.c0; have e1 := TS.out.2.2.1.c1; have e2 := TS.out.2.2.1.c2; have e3 := TS.out.2.2.1.c3; have o0 := one_cell TS.out.1.hk; have o1 := one_froz TS.out.1.hk; have l0 := one_cell TS.out.1.hl))
  have hgq : gp ≠ q + 2 := by have := H1.out.2.2.2.2; omega
  have hP9 := TS.out.1.setK true
  have hr9 : (y.setCell ⟨q + 2, 0, none⟩ (.bool true)).heap[gp]? = some (.cells #[.string P.nm, .slice p0 n0 x0, .slice p1 n1 x1, .slice p2 n2 x2] 26) := (heap_setCell_other _ _ _ _ hgq).trans TS.out.2.1.row
  have hK9 := TS.out.2.2.2.set (g := q + 2) (Nat.le_refl _) (.bool true)
  obtain ⟨w9, hw9⟩ : ∃ w9, y.setCell ⟨q + 2, 0, none⟩ (.bool true) = w9 := ⟨_, rfl⟩
  rw [hw9] at hP9 hr9 hK9 ⊢
  have H9 : Hid (PTb q W0 l ((j : Int) + 1) true w9 ∧ KT3 q W w9) := ⟨hP9, hK9⟩
  have m0 := cell_of_row w9 gp 0 _ _ _ hr9
  simp only [List.getElem?_toArray, List.getElem?_cons_zero] at m0
  have m1 := one_cell hP9.hl
  have m2 := one_froz hP9.hl
  clear hgq hP9 hr9 hK9 hw9 d0 d1 d2 d3 e0 e1 e2 e3 o0 o1 l0 TS
  go_upto_region 5 with (fail)
  have hP10 := H9.out.1.setL P.nm
  have hK10 := H9.out.2.set (g := q) (by omega) (.string P.nm)
  obtain ⟨w10, hw10⟩ : ∃ w10, w9.setCell ⟨q, 0, none⟩ (.string P.nm) = w10 := ⟨_, rfl⟩
  rw [hw10] at hP10 hK10 ⊢
  have m3 := one_cell hP10.hk
  have H10 : Hid (PTb q W0 P.nm ((j : Int) + 1) true w10 ∧ KT3 q W w10) := ⟨hP10, hK10⟩
  clear hP10 hK10 hw10 m0 m1 m2
  go_wp2
  go_ret
  exact ⟨rfl, by rw [HLN.out, Int.natCast_succ]; exact H10.out.1, H10.out.2⟩
set_option maxHeartbeats 8000000 in
theorem table_walk {ea : Int → Addr} (W : World) (hE : Errs ea W) :
    Calls Tryz.prog 5 #[] W fun e w' => e = .returned (.bool true) ∧ Below W.heap.size W w' := by
  obtain ⟨q, hq⟩ : ∃ q, W.heap.size = q := ⟨_, rfl⟩
  rw [hq]
  have HE : Hid (∀ y, Below q W y → Errs ea y) := fun y hy => hE.below (by rw [hq]; exact hy)
  have CA := all0_any
  have hnf : ∀ (w : World), (binOp BinOp.eql 42 (.func (.func 41) #[] #[]) Value.nilFunc).run Tryz.prog w = .ok (.bool false) w := fun _ => rfl
  have ha1 : Below q W (W.alloc (.cells #[.string ⟨#[]⟩] 9)) := (Below.refl _ _).alloc (by omega) _
  have hs1 : (W.alloc (.cells #[.string ⟨#[]⟩] 9)).heap.size = q + 1 := by rw [size_alloc, hq]
  have ha2 : Below (q + 1) (W.alloc (.cells #[.string ⟨#[]⟩] 9)) ((W.alloc (.cells #[.string ⟨#[]⟩] 9)).alloc (.cells #[.int .i64 0] 3)) := (Below.refl _ _).alloc (by omega) _
  have hs2 : ((W.alloc (.cells #[.string ⟨#[]⟩] 9)).alloc (.cells #[.int .i64 0] 3)).heap.size = q + 2 := by rw [size_alloc, hs1]
  have ha3 : Below (q + 2) ((W.alloc (.cells #[.string ⟨#[]⟩] 9)).alloc (.cells #[.int .i64 0] 3)) (((W.alloc (.cells #[.string ⟨#[]⟩] 9)).alloc (.cells #[.int .i64 0] 3)).alloc (.cells #[.bool true] 4)) := (Below.refl _ _).alloc (by omega) _
  have hP3 : PTb q W (lastN 0) ((0 : Nat) : Int) true (((W.alloc (.cells #[.string ⟨#[]⟩] 9)).alloc (.cells #[.int .i64 0] 3)).alloc (.cells #[.bool true] 4)) := by
    refine ⟨(ha1.trans (ha2.mono (by omega))).trans (ha3.mono (by omega)), ?_, ?_, ?_⟩
    · rw [ha3.block q (by omega), ha2.block q (by omega)]
      have := heap_alloc_new W (.cells #[.string ⟨#[]⟩] 9)
      rw [hq] at this
      exact this
    · rw [ha3.block (q + 1) (by omega)]
      have := heap_alloc_new (W.alloc (.cells #[.string ⟨#[]⟩] 9)) (.cells #[.int .i64 0] 3)
      rw [hs1] at this
      exact this
    · have := heap_alloc_new ((W.alloc (.cells #[.string ⟨#[]⟩] 9)).alloc (.cells #[.int .i64 0] 3)) (.cells #[.bool true] 4)
      rw [hs2] at this
      exact this
  clear ha1 ha2 ha3 hE
  go_enter Tryz.func5, Tryz.ntmps5
  go_upto_region 4 with (fail)
  try simp only [hq, hs1, hs2]
  obtain ⟨W3, hW3⟩ : ∃ W3, ((W.alloc (.cells #[.string ⟨#[]⟩] 9)).alloc (.cells #[.int .i64 0] 3)).alloc (.cells #[.bool true] 4) = W3 := ⟨_, rfl⟩
  rw [hW3] at hP3 ⊢
  clear hW3 hs1 hs2
  have hlt := hP3.lt
  have CI := all1_any (ea := ea) W3.heap.size 16 #[.pointer (some ⟨q + 1, 0, none⟩), .pointer (some ⟨q + 2, 0, none⟩), .pointer (some ⟨q, 0, none⟩)] (fun k y => PTb q W (lastN k) (k : Int) true y) (fun _ => False) W3 rfl (fun _ _ => rfl) ?_ (fun k y hy => HE.out _ hy.old) hP3
  rotate_left
  · intro k W1 Wk v0 v1 vl hk hI hb hft
    refine (ptab_any (ea := ea) HE.out (hI.below hb) hk rfl hI.lt hft).mono ?_
    rintro e W' ⟨rfl, hPT, hKT⟩
    refine ⟨true, rfl, fun b h1 h2 => hKT.1 b (by omega) h2, hKT.2, ?_⟩
    rw [if_pos rfl]
    exact hPT
  clear hP3 hlt
  go_upto_region 8 with (first
    | (go_at_call 15; refine (CA _).mono ?_; rintro e wa ⟨rfl, hwa⟩; obtain rfl : W3 = wa := hwa.symm)
    | (go_at_call 41; refine CI.mono ?_; rintro e w4 ⟨rfl, hd⟩; have H4 : Hid (PTb q W (lastN 38) ((38 : Nat) : Int) true w4) := hd.resolve_left (fun h => h); clear hd CI))
  clear CA hnf
  have c0 := one_cell H4.out.hk
  have c1 := one_cell H4.out.hn
  have CK := known_any (ea := ea) w4 (HE.out _ H4.out.old)
  go_wp2_with (go_at_call 8; refine CK.mono ?_; rintro e w5 ⟨rfl, hb⟩; have H5 : Hid (Below q W w5) := H4.out.old.trans (hb.mono (by have := H4.out.lt; omega)); clear hb CK)
  go_ret
  exact ⟨rfl, H5.out⟩
end Go.Proofs.YtmlcgcmoioekpabGreatDoor
