import Derived.Test.YtfkbgodfcnmepabDoorDigG
import Derived.Test.YtfkbgodfcnmepabDoorDigEa
import Derived.Test.YtfkbgodfcnmepabDoorDigEb
import Derived.Test.YtfkbgodfcnmepabDoorTrB
import Derived.Laws.IdiomCopy
namespace Go.Proofs.YtfkbgodfcnmepabDoor
set_option linter.unusedSimpArgs false
set_option linter.unusedVariables false
open Go.ChangeShapes Go.WideShapes Go.ChangeAt Go.RowKit Go.Pin Go.Str Go.Dig
/-- the cells from o on are vs -/
def putl : List Nat → Nat → List Nat → List Nat
  | L, _, [] => L
  | L, o, v :: r => putl (L.set o v) (o + 1) r
theorem putl_len : ∀ (vs : List Nat) (L : List Nat) (o : Nat), (putl L o vs).length = L.length
  | [], _, _ => rfl
  | v :: r, L, o => by rw [putl, putl_len r]; simp
theorem putl_at : ∀ (vs : List Nat) (L : List Nat) (o j : Nat), o + vs.length ≤ L.length → (putl L o vs).getD j 0 = if o ≤ j ∧ j < o + vs.length then vs.getD (j - o) 0 else L.getD j 0
  | [], L, o, j, _ => by rw [putl, if_neg (by simp)]
  | v :: r, L, o, j, h => by
    simp only [List.length_cons] at h
    rw [putl, putl_at r (L.set o v) (o + 1) j (by simp; omega)]
    by_cases e : j = o
    · subst e
      rw [if_neg (by omega), if_pos (by simp), getD_set_eq _ _ _ (by omega)]; simp
    · rw [getD_set_ne _ _ _ _ (fun h => e h.symm)]
      by_cases h2 : o + 1 ≤ j ∧ j < o + 1 + r.length
      · rw [if_pos h2, if_pos (by simp; omega), show j - o = (j - (o + 1)) + 1 by omega]; simp
      · rw [if_neg h2, if_neg (by simp; omega)]
def cellsW (vs : List Nat) : List Value := vs.map fun n : Nat => Value.int .u32 (n : Int)
theorem RW.puts : ∀ (vs : List Nat) {w : World} {g : Nat} {L : List Nat} {T : TypeId} (o : Nat), RW w g L T → RW (w.setCells g o (cellsW vs)) g (putl L o vs) T
  | [], _, _, _, _, _, h => h
  | v :: r, w, g, L, T, o, h => RW.puts r (o + 1) (h.set o v)
theorem setCells_below {B : Nat} {a : World} : ∀ (cs : List Value) {w : World} {g o : Nat}, Below B a w → B ≤ g → Below B a (w.setCells g o cs)
  | [], _, _, _, h, _ => h
  | v :: r, w, g, o, h, hg => setCells_below r (h.setCell (p := ⟨g, o, none⟩) hg v) hg
/-- v while the beginning comes in -/
def vbl (h : List Nat) (i : Nat) : List Nat := (List.range 16).map fun j => if j < 8 then h.getD j 0 else if j < 8 + i then iv.getD (j - 8) 0 else 0
theorem vbl_len (h : List Nat) (i : Nat) : (vbl h i).length = 16 := by simp [vbl]
theorem vbl_at (h : List Nat) (i : Nat) {j : Nat} (hj : j < 16) : (vbl h i).getD j 0 = if j < 8 then h.getD j 0 else if j < 8 + i then iv.getD (j - 8) 0 else 0 := by
  simp only [vbl, List.getD, List.getElem?_map, List.getElem?_range hj, Option.map_some, Option.getD_some]
theorem vbl_zero {h : List Nat} (hh : h.length = 8) : putl z16n 0 h = vbl h 0 := by
  apply list_ext (by rw [putl_len, vbl_len]; rfl)
  intro j hj
  rw [putl_len] at hj
  have hj' : j < 16 := hj
  rw [putl_at _ _ _ _ (by rw [hh]; decide), vbl_at _ _ hj', hh]
  by_cases h8 : j < 8
  · rw [if_pos (by omega), if_pos h8]; rfl
  · rw [if_neg (by omega), if_neg h8, if_neg (by omega)]
    rw [show z16n = List.replicate 16 0 from rfl, List.getD_eq_getElem?_getD, List.getElem?_replicate]
    split <;> rfl
theorem vbl_set (h : List Nat) {i : Nat} (hi : i < 8) : (vbl h i).set (8 + i) (iv.getD i 0) = vbl h (i + 1) := by
  apply list_ext (by simp [vbl])
  intro j hj
  rw [List.length_set, vbl_len] at hj
  by_cases e : 8 + i = j
  · rw [← e, getD_set_eq _ _ _ (by rw [vbl_len]; omega), vbl_at _ _ (by omega), if_neg (by omega), if_pos (by omega), show 8 + i - 8 = i by omega]
  · rw [getD_set_ne _ _ _ _ e, vbl_at _ _ hj, vbl_at _ _ hj]
    by_cases h8 : j < 8
    · rw [if_pos h8, if_pos h8]
    · rw [if_neg h8, if_neg h8]
      by_cases h9 : j < 8 + i
      · rw [if_pos h9, if_pos (by omega)]
      · rw [if_neg h9, if_neg (by omega)]
theorem vbl_full {h : List Nat} (hh : h.length = 8) : vbl h 8 = h ++ iv := by
  apply list_ext (by rw [vbl_len, List.length_append, hh]; rfl)
  intro j hj
  rw [vbl_len] at hj
  rw [vbl_at _ _ hj]
  by_cases h8 : j < 8
  · rw [if_pos h8, List.getD_eq_getElem?_getD, List.getD_eq_getElem?_getD, List.getElem?_append_left (by omega)]
  · rw [if_neg h8, if_pos (by omega), List.getD_eq_getElem?_getD, List.getD_eq_getElem?_getD, List.getElem?_append_right (by omega), hh]
theorem vbl_pv {h : List Nat} (hh : h.length = 8) (count mark : Nat) : (((h ++ iv).set 12 (1359893119 ^^^ (count % 4294967296))).set 13 (2600822924 ^^^ (count / 4294967296 % 4294967296))).set 14 (528734635 ^^^ mark) = pv h count mark := by
  rw [List.set_append_right _ _ (by omega), List.set_append_right _ _ (by omega), List.set_append_right _ _ (by omega), hh]
  rfl
/-- the state while the words go in -/
def stl (h V : List Nat) (i : Nat) : List Nat := (List.range 8).map fun j => if j < i then h.getD j 0 ^^^ (V.getD j 0 ^^^ V.getD (j + 8) 0) else h.getD j 0
theorem stl_len (h V : List Nat) (i : Nat) : (stl h V i).length = 8 := by simp [stl]
theorem stl_at (h V : List Nat) (i : Nat) {j : Nat} (hj : j < 8) : (stl h V i).getD j 0 = if j < i then h.getD j 0 ^^^ (V.getD j 0 ^^^ V.getD (j + 8) 0) else h.getD j 0 := by
  simp only [stl, List.getD, List.getElem?_map, List.getElem?_range hj, Option.map_some, Option.getD_some]
theorem stl_zero {h : List Nat} (hh : h.length = 8) (V : List Nat) : stl h V 0 = h := by
  apply list_ext (by rw [stl_len, hh])
  intro j hj
  rw [stl_len] at hj
  rw [stl_at _ _ _ hj, if_neg (by omega)]
theorem stl_set (h V : List Nat) {i : Nat} (hi : i < 8) : (stl h V i).set i (h.getD i 0 ^^^ (V.getD i 0 ^^^ V.getD (i + 8) 0)) = stl h V (i + 1) := by
  apply list_ext (by simp [stl])
  intro j hj
  rw [List.length_set, stl_len] at hj
  by_cases e : i = j
  · rw [← e, getD_set_eq _ _ _ (by rw [stl_len]; omega), stl_at _ _ _ hi, if_pos (by omega)]
  · rw [getD_set_ne _ _ _ _ e, stl_at _ _ _ hj, stl_at _ _ _ hj]
    by_cases h9 : j < i
    · rw [if_pos h9, if_pos (by omega)]
    · rw [if_neg h9, if_neg (by omega)]
theorem stl_full (h : List Nat) (b : List Int) (count mark : Nat) : stl h (rds (wds b) (pv h count mark) 10) 8 = prs h b count mark := by
  apply list_ext (by rw [stl_len]; simp [prs])
  intro j hj
  rw [stl_len] at hj
  rw [stl_at _ _ _ hj, if_pos hj]
  simp only [prs, List.getD, List.getElem?_map, List.getElem?_range hj, Option.map_some, Option.getD_some]
/-- a state in a box of any kind -/
def RS (w : World) (g : Nat) (pre post : List Value) (h : List Nat) (T : TypeId) : Prop := w.heap[g]? = some (.cells (pre ++ (cellsW h ++ post)).toArray T (0, 0))
theorem cellsW_len (h : List Nat) : (cellsW h).length = h.length := List.length_map ..
theorem RS.cell {w : World} {g : Nat} {pre post : List Value} {h : List Nat} {T : TypeId} (hs : RS w g pre post h T) {o i : Nat} (ho : pre.length = o) (hi : i < h.length) : w.cell? ⟨g, o + i, none⟩ = some (.int .u32 ((h.getD i 0 : Nat) : Int)) := by
  rw [cell_of_row _ _ _ _ _ _ hs]
  simp only [List.getElem?_toArray]
  rw [List.getElem?_append_right (by omega), ho, Nat.add_sub_cancel_left, List.getElem?_append_left (by rw [cellsW_len]; exact hi)]
  simp [cellsW, List.getElem?_eq_getElem hi]
theorem RS.froz {w : World} {g : Nat} {pre post : List Value} {h : List Nat} {T : TypeId} (hs : RS w g pre post h T) (i : Nat) : w.frozen? ⟨g, i, none⟩ = false := frozen_of_row w _ _ _ _ hs
theorem RS.set {w : World} {g : Nat} {pre post : List Value} {h : List Nat} {T : TypeId} (hs : RS w g pre post h T) {o i : Nat} (ho : pre.length = o) (hi : i < h.length) (v : Nat) : RS (w.setCell ⟨g, o + i, none⟩ (.int .u32 (v : Int))) g pre post (h.set i v) T := by
  unfold RS at hs ⊢
  rw [heap_setCell_same w _ _ _ _ _ hs]
  congr 2
  rw [List.setIfInBounds_toArray]
  congr 1
  rw [List.set_append_right _ _ (by omega), ho, Nat.add_sub_cancel_left, List.set_append_left _ _ (by rw [cellsW_len]; exact hi)]
  simp [cellsW, List.map_set]
theorem RS.lt {w : World} {g : Nat} {pre post : List Value} {h : List Nat} {T : TypeId} (hs : RS w g pre post h T) : g < w.heap.size := (Array.getElem?_eq_some_iff.1 hs).1
theorem wp_as {P : Program} {c c' : Code} {Q : Exit → Act → World → Prop} {a : Act} {w : World} (h : c = c') (hc : Code.wp P c' Q a w) : Code.wp P c Q a w := by rw [h]; exact hc
def findReg (n : Nat) : Code → Option Code
  | .region i ops d => if i = n then some (.region i ops d) else none
  | .seq a b => match findReg n a with
    | some c => some c
    | none => findReg n b
  | .block _ c => findReg n c
  | .loop c => findReg n c
  | .scope c => findReg n c
  | .cond _ a b => match findReg n a with
    | some c => some c
    | none => findReg n b
  | _ => none
theorem size_u32 (w : World) : (sizeOf 46).run Tryd.prog w = .ok 1 w := by kernel_rfl
/-- the beginning of an array of words that a pointer shows -/
theorem run_uptoW (w : World) (t : TypeId) (N g o n : Nat) (hN : 0 < N) (hn : n ≤ N) (ht : Tryd.prog.underlying t = some (.array N 46)) : (Instr.sliceAt t (.pointer (some ⟨g, o, none⟩)) none (some (.int .i64 (n : Int))) none).run Tryd.prog w = .ok (.slice (some ⟨g, o, none⟩) n N) w := by
  have e1 : ¬ N = 0 := by omega
  have e2 : (⟨g, o, none⟩ : Addr).add 0 = ⟨g, o, none⟩ := add_mid g o 0
  have h2 : ((n : Nat) : Int) ≤ (N : Int) := by omega
  simp [Instr.sliceAt, Instr.sureAddr, run_underlying ht, Instr.sliceBounds, run_sliceBound, size_u32, e1, e2, h2, hn]
theorem run_allW (w : World) (t : TypeId) (N g o : Nat) (hN : 0 < N) (ht : Tryd.prog.underlying t = some (.array N 46)) : (Instr.sliceAt t (.pointer (some ⟨g, o, none⟩)) none none none).run Tryd.prog w = .ok (.slice (some ⟨g, o, none⟩) N N) w := by
  have e1 : ¬ N = 0 := by omega
  have e2 : (⟨g, o, none⟩ : Addr).add 0 = ⟨g, o, none⟩ := add_mid g o 0
  simp [Instr.sliceAt, Instr.sureAddr, run_underlying ht, Instr.sliceBounds, run_sliceBound, size_u32, e1, e2]
theorem run_copyW {w : World} {gd : Nat} {Ld : List Nat} {Td : TypeId} (hd : RW w gd Ld Td) (gs os dl dc sl sc : Nat) (h : List Nat) (hs : ∀ i, i < h.length → w.cell? ⟨gs, os + i, none⟩ = some (.int .u32 ((h.getD i 0 : Nat) : Int))) (ty : TypeId) (hn : h.length = Nat.min sl dl) (h1 : h.length ≤ Ld.length) :
    (Builtin.copy_ #[74, 74] ty #[.slice (some ⟨gd, 0, none⟩) dl dc, .slice (some ⟨gs, os, none⟩) sl sc]).run Tryd.prog w = .ok (goInt h.length) (w.setCells gd 0 (cellsW h)) := by
  have := run_copy_cells (P := Tryd.prog) w 74 74 ty 46 gd 0 dl dc ⟨gs, os, none⟩ sl sc (cellsW h) Tryd.underlying74 (by kernel_rfl) (by rw [cellsW_len, hn])
    (fun j v hv => by
      rw [add_mid]
      have hj : j < h.length := by rw [← cellsW_len]; exact (List.getElem?_eq_some_iff.1 hv).1
      rw [hs j hj, ← hv]
      simp [cellsW, List.getElem?_eq_getElem hj])
    (fun j hj => by rw [cellsW_len] at hj; rw [Nat.zero_add, hd.cell (by omega)]; rfl)
    (fun j hj => hd.froz _)
    (fun v hv => by
      simp only [cellsW, List.mem_map] at hv
      obtain ⟨x, _, rfl⟩ := hv
      rfl)
  rw [cellsW_len] at this
  exact this
theorem wpBuiltin {P : Program} {o : Oper} {a : Act} {w w' : World} {K : Act → World → Prop} {Q : Exit → Act → World → Prop} {x y : Operand} {t t' : TypeId} {v u z : Value} {d : Option Nat}
    (ho : o.op = .call { callee := .builtin .copy, args := #[x, y], argTypes := #[t, t'] }) (hd : o.dst = d) (hx : a.eval x = v) (hy : a.eval y = u) (hr : (Builtin.copy_ #[t, t'] o.type #[v, u]).run P w = .ok z w') (h : K (a.put d z) w') : Oper.wp P o a w K Q := by
  subst hd
  unfold Oper.wp execOp
  simp only [ho, resolve, invoke, builtin, Sem.run_bind, Sem.run_pure, Result.andThen_ok, List.map_toArray, List.map_cons, List.map_nil, hx, hy, hr]
  exact h
noncomputable def rgPr1 : Code := ((Tryd.f18.body.bind (findReg 1)).getD .skip)
noncomputable def opPr1 : Array Oper := opsOf rgPr1
theorem rgPr1_is : rgPr1 = .region 1 opPr1 true := by kernel_rfl
theorem opPr1_ns : Region.noSelect opPr1 = true := by kernel_rfl
theorem opPr1_0 : opIs opPr1 0 (.slice 73 (.tmp 8) none (some (.const (.int .i64 8))) none) (some 13) := by unfold opIs; kernel_rfl
theorem opPr1_1 : opIs opPr1 1 (.move (.tmp 0)) (some 14) := by unfold opIs; kernel_rfl
theorem opPr1_2 : opIs opPr1 2 (.nilCheck (.tmp 14)) (some 15) := by unfold opIs; kernel_rfl
theorem opPr1_3 : opIs opPr1 3 (.slice 47 (.tmp 15) none none none) (some 16) := by unfold opIs; kernel_rfl
theorem opPr1_4 : opIs opPr1 4 (.call { callee := .builtin .copy, args := #[.tmp 13, .tmp 16], argTypes := #[74, 74] }) (some 17) := by unfold opIs; kernel_rfl
set_option maxRecDepth 100000 in
set_option maxHeartbeats 4000000 in
theorem Pr1 {Q : Exit → Act → World → Prop} {a0 : Act} {n gs os : Nat} {h : List Nat} {w : World} (hh : h.length = 8) (hv : RW w n z16n 73) (hs : ∀ i, i < 8 → w.cell? ⟨gs, os + i, none⟩ = some (.int .u32 ((h.getD i 0 : Nat) : Int)))
    (sz0 : a0.tmps.size = 78) (e8 : a0.eval (.tmp 8) = .pointer (some ⟨n, 0, none⟩)) (e0 : a0.eval (.tmp 0) = .pointer (some ⟨gs, os, none⟩))
    (HPN : ∀ c (a : Act) d v w, Q (.panic c) (a.put d v) w → Q (.panic c) a w)
    (H : Q .normal (((((a0.put (some 13) (.slice (some ⟨n, 0, none⟩) 8 16)).put (some 14) (.pointer (some ⟨gs, os, none⟩))).put (some 15) (.pointer (some ⟨gs, os, none⟩))).put (some 16) (.slice (some ⟨gs, os, none⟩) 8 8)).put (some 17) (goInt 8)) (w.drew.setCells n 0 (cellsW h))) : Code.wp Tryd.prog rgPr1 Q a0 w := by
  rw [rgPr1_is]
  refine wp_region_held_drew (S := fun _ => True) (by kernel_rfl) trivial (fun hH => ?_)
  refine wpAnyH_as (l' := #[false, false, false, false, false]) (by kernel_rfl) ?_
  refine takeH (v := .slice (some ⟨n, 0, none⟩) 8 16) opPr1_0 opPr1_ns (by kernel_rfl) (by kernel_rfl) HPN (fun w hw o ho => ?_) hH ?_
  · have := run_uptoW w 73 16 n 0 8 (by decide) (by decide) Tryd.underlying73
    unfold execOp
    simp only [ho, e8]
    go_simp
  refine wpAnyH_as (l' := #[true, false, false, false, false]) (by kernel_rfl) ?_
  refine takeH (v := .pointer (some ⟨gs, os, none⟩)) opPr1_1 opPr1_ns (by kernel_rfl) (by kernel_rfl) HPN (fun w hw o ho => run_move ho (by rw [eval_put_ne _ _ _ _ (by decide)]; exact e0) w) hH ?_
  refine wpAnyH_as (l' := #[true, true, false, false, false]) (by kernel_rfl) ?_
  refine takeH (v := .pointer (some ⟨gs, os, none⟩)) opPr1_2 opPr1_ns (by kernel_rfl) (by kernel_rfl) HPN (fun w hw o ho => run_nilCheck ho (eval_put_eq _ _ _ (by simp only [size_put, sz0]; decide)) w) hH ?_
  refine wpAnyH_as (l' := #[true, true, true, false, false]) (by kernel_rfl) ?_
  refine takeH (v := .slice (some ⟨gs, os, none⟩) 8 8) opPr1_3 opPr1_ns (by kernel_rfl) (by kernel_rfl) HPN (fun w hw o ho => ?_) hH ?_
  · have e := eval_put_eq ((a0.put (some 13) (.slice (some ⟨n, 0, none⟩) 8 16)).put (some 14) (.pointer (some ⟨gs, os, none⟩))) 15 (.pointer (some ⟨gs, os, none⟩)) (by simp only [size_put, sz0]; decide)
    have := run_allW w 47 8 gs os (by decide) Tryd.underlying47
    unfold execOp
    simp only [ho, e]
    go_simp
  refine wpAnyH_as (l' := #[true, true, true, true, false]) (by kernel_rfl) ?_
  refine readyH opPr1_4 (by kernel_rfl) (fun o ho hd => ?_)
  refine wpBuiltin ho hd (v := .slice (some ⟨n, 0, none⟩) 8 16) (u := .slice (some ⟨gs, os, none⟩) 8 8) (by rw [eval_put_ne _ _ _ _ (by decide), eval_put_ne _ _ _ _ (by decide), eval_put_ne _ _ _ _ (by decide)]; exact eval_put_eq _ _ _ (by simp only [sz0]; decide)) (eval_put_eq _ _ _ (by simp only [size_put, sz0]; decide)) (run_copyW (w := w.drew) hv gs os 8 16 8 8 h (fun i hi => hs i (by omega)) _ (by rw [hh]; rfl) (by rw [hh]; decide)) ⟨trivial, ?_⟩
  refine wpAnyH_as (l' := #[true, true, true, true, true]) (by kernel_rfl) ?_
  rw [hh]
  exact wpAnyH_done (by kernel_rfl) H _
end Go.Proofs.YtfkbgodfcnmepabDoor
