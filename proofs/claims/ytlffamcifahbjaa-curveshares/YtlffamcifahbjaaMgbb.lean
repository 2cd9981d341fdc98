import Derived.Deep.RegionHeld3
import Derived.Test.YtlffamcifahbjaaMgba
namespace Go.Proofs.Ytlffamcifahbjaa
set_option linter.unusedSimpArgs false
set_option linter.unusedVariables false
open Go.ChangeShapes Go.WideShapes Go.ChangeAt Go.RowKit Go.Pin Go.Fld
def opsOf : Code → Array Oper
  | .region _ ops _ => ops
  | _ => #[]
theorem wanted_none {o : Oper} (h : o.guard = none) (y : Nat → Option Bool) : Region.wanted o y = true := by simp [Region.wanted, h]
theorem wpOp_ldN {ops : Array Oper} {Q : Exit → Act → World → Prop} {i : Nat} {K : Act → World → Prop} {a : Act} {w : World} {s : Nat} {d : Option Nat} {g : Nat} {X : List Int}
    (h : (ops[i]?).map (fun o => (o.guard, o.op, o.dst)) = some (none, .load 65 (.tmp s), d)) (hp : a.eval (.tmp s) = .pointer (some ⟨g, 0, none⟩)) (hg : w.heap[g]? = some (bxL X)) (hl : X.length = 16)
    (hK : K (a.put d (.agg (VI .i64 X))) w) : wpOp Try.prog ops Q i K a w := by
  obtain ⟨o, h1, h5⟩ := Option.map_eq_some_iff.1 h
  simp only [Prod.mk.injEq] at h5
  obtain ⟨h2, h3, h4⟩ := h5
  unfold wpOp
  simp only [h1]
  rw [if_pos (wanted_none h2 _)]
  exact .inl (wp_load_row _ _ h3 g hp _ _ _ _ hg Try.underlying65 rfl (infoNm hl) (by rw [h4]; exact hK))
theorem wpOp_stN {ops : Array Oper} {Q : Exit → Act → World → Prop} {i : Nat} {K : Act → World → Prop} {a : Act} {w : World} {s r : Nat} {g : Nat} {X Z : List Int}
    (h : (ops[i]?).map (fun o => (o.guard, o.op, o.dst)) = some (none, .store 65 (.tmp s) (.tmp r), none)) (hp : a.eval (.tmp s) = .pointer (some ⟨g, 0, none⟩)) (hv : a.eval (.tmp r) = .agg (VI .i64 X)) (hg : w.heap[g]? = some (bxL Z)) (hz : Z.length = 16) (hl : X.length = 16)
    (hK : K a (w.setCells g 0 (X.map (Value.int .i64)))) : wpOp Try.prog ops Q i K a w := by
  obtain ⟨o, h1, h5⟩ := Option.map_eq_some_iff.1 h
  simp only [Prod.mk.injEq] at h5
  obtain ⟨h2, h3, h4⟩ := h5
  unfold wpOp
  simp only [h1]
  rw [if_pos (wanted_none h2 _)]
  refine .inl (wp_store_mid _ _ _ h3 g 0 (VI .i64 X) hp hv ?_ (infoNm hl) (VI_one _ _) ?_)
  · rw [VI_size, hl]; exact there_mid hg 0 16 (by rw [VI_size, hz]; decide)
  · rw [h4]; exact hK
theorem wpAny_all {P : Program} {md : Region.Mode} {ops : Array Oper} {Q : Exit → Act → World → Prop} {rs : List Nat} {fuel : Nat} {listed : Array Bool} {a : Act} {w : World} (hr : Region.ready md ops listed = rs) (hne : rs ≠ [])
    (h : ∀ i ∈ rs, wpOp P ops Q i (wpAny P md ops Q fuel (listed.setIfInBounds i true)) a w) : wpAny P md ops Q (fuel + 1) listed a w := ⟨fun h0 => absurd (hr ▸ h0) hne, hr ▸ h⟩
theorem wpAny_as {P : Program} {md : Region.Mode} {ops : Array Oper} {Q : Exit → Act → World → Prop} {fuel : Nat} {l l' : Array Bool} {a a' : Act} {w : World} (hl : l = l') (ha : a = a') (h : wpAny P md ops Q fuel l' a' w) : wpAny P md ops Q fuel l a w := by rw [hl, ha]; exact h
theorem wpAny_fuel {P : Program} {md : Region.Mode} {ops : Array Oper} {Q : Exit → Act → World → Prop} {f f' : Nat} {l l' : Array Bool} {a : Act} {w : World} (hf : f = f') (hl : l = l') (h : wpAny P md ops Q f' l' a w) : wpAny P md ops Q f l a w := by rw [hf, hl]; exact h
noncomputable def rgW11 : Code := ((Try.f13.body.bind (findReg 11)).getD .skip)
noncomputable def opsW11 : Array Oper := opsOf rgW11
theorem rgW11_is : rgW11 = .region 11 opsW11 true := by kernel_rfl
theorem opsW11_0 : (opsW11[0]?).map (fun o => (o.guard, o.op, o.dst)) = some (none, .load 65 (.tmp 8), some 27) := by kernel_rfl
theorem opsW11_1 : (opsW11[1]?).map (fun o => (o.guard, o.op, o.dst)) = some (none, .load 65 (.tmp 9), some 28) := by kernel_rfl
theorem opsW11_2 : (opsW11[2]?).map (fun o => (o.guard, o.op, o.dst)) = some (none, .load 65 (.tmp 6), some 29) := by kernel_rfl
theorem opsW11_3 : (opsW11[3]?).map (fun o => (o.guard, o.op, o.dst)) = some (none, .load 65 (.tmp 7), some 30) := by kernel_rfl
theorem opsW11_4 : (opsW11[4]?).map (fun o => (o.guard, o.op, o.dst)) = some (none, .store 65 (.tmp 6) (.tmp 27), none) := by kernel_rfl
theorem opsW11_5 : (opsW11[5]?).map (fun o => (o.guard, o.op, o.dst)) = some (none, .store 65 (.tmp 7) (.tmp 28), none) := by kernel_rfl
theorem opsW11_6 : (opsW11[6]?).map (fun o => (o.guard, o.op, o.dst)) = some (none, .store 65 (.tmp 8) (.tmp 29), none) := by kernel_rfl
theorem opsW11_7 : (opsW11[7]?).map (fun o => (o.guard, o.op, o.dst)) = some (none, .store 65 (.tmp 9) (.tmp 30), none) := by kernel_rfl
set_option maxRecDepth 100000 in
set_option maxHeartbeats 8000000 in
theorem rsh_r11 {Q : Exit → Act → World → Prop} {B : Nat} {w W : World} {bx : List (Nat × Obj)} {ga gb gc gd : Nat} {A Bb C D : List Int} {c0 c1 c2 c3 c4 c5 c10 c11 c12 c13 c14 c15 c16 c17 c18 c19 c20 c21 c22 c23 c24 c25 c26 c27 c28 c29 c30 c31 c32 c33 c34 c35 c36 c37 c38 c39 c40 c41 c42 c43 c44 c45 c46 c47 c48 c49 c50 c51 c52 c53 c54 : Value}
    (l_A : Hid (A.length = 16)) (l_Bb : Hid (Bb.length = 16)) (l_C : Hid (C.length = 16)) (l_D : Hid (D.length = 16))
    (ND : Hid (ga ≠ gb ∧ ga ≠ gc ∧ ga ≠ gd ∧ gb ≠ gc ∧ gb ≠ gd ∧ gc ≠ gd)) (NB : Hid ((∀ p ∈ bx, p.1 ≠ ga) ∧ (∀ p ∈ bx, p.1 ≠ gb) ∧ (∀ p ∈ bx, p.1 ≠ gc) ∧ (∀ p ∈ bx, p.1 ≠ gd)))
    (XX : Ev B w (.pointer none) [] ((ga, bxL A) :: (gb, bxL Bb) :: (gc, bxL C) :: (gd, bxL D) :: bx) W)
    (H : ∀ W', Ev B w (.pointer none) [] ((ga, bxL C) :: (gb, bxL D) :: (gc, bxL A) :: (gd, bxL Bb) :: bx) W' → Q .normal ⟨#[c0, c1, c2, c3, c4, c5, .pointer (some ⟨ga, 0, none⟩), .pointer (some ⟨gb, 0, none⟩), .pointer (some ⟨gc, 0, none⟩), .pointer (some ⟨gd, 0, none⟩), c10, c11, c12, c13, c14, c15, c16, c17, c18, c19, c20, c21, c22, c23, c24, c25, c26, .agg (VI .i64 C), .agg (VI .i64 D), .agg (VI .i64 A), .agg (VI .i64 Bb), c31, c32, c33, c34, c35, c36, c37, c38, c39, c40, c41, c42, c43, c44, c45, c46, c47, c48, c49, c50, c51, c52, c53, c54], []⟩ W') :
    Code.wp Try.prog rgW11 Q ⟨#[c0, c1, c2, c3, c4, c5, .pointer (some ⟨ga, 0, none⟩), .pointer (some ⟨gb, 0, none⟩), .pointer (some ⟨gc, 0, none⟩), .pointer (some ⟨gd, 0, none⟩), c10, c11, c12, c13, c14, c15, c16, c17, c18, c19, c20, c21, c22, c23, c24, c25, c26, c27, c28, c29, c30, c31, c32, c33, c34, c35, c36, c37, c38, c39, c40, c41, c42, c43, c44, c45, c46, c47, c48, c49, c50, c51, c52, c53, c54], []⟩ W := by
  obtain ⟨nab, nac, nad, nbc, nbd, ncd⟩ := ND.out
  obtain ⟨ea, eb, ec, ed⟩ := NB.out
  have s255 : ∀ Y, Ev B w (.pointer none) [] ((ga, bxL C) :: (gb, bxL D) :: (gc, bxL A) :: (gd, bxL Bb) :: bx) Y → wpAny Try.prog .any opsW11 Q 0 #[true, true, true, true, true, true, true, true] ⟨#[c0, c1, c2, c3, c4, c5, .pointer (some ⟨ga, 0, none⟩), .pointer (some ⟨gb, 0, none⟩), .pointer (some ⟨gc, 0, none⟩), .pointer (some ⟨gd, 0, none⟩), c10, c11, c12, c13, c14, c15, c16, c17, c18, c19, c20, c21, c22, c23, c24, c25, c26, .agg (VI .i64 C), .agg (VI .i64 D), .agg (VI .i64 A), .agg (VI .i64 Bb), c31, c32, c33, c34, c35, c36, c37, c38, c39, c40, c41, c42, c43, c44, c45, c46, c47, c48, c49, c50, c51, c52, c53, c54], []⟩ Y := by
    intro Y hY
    exact ⟨by kernel_rfl, H Y hY⟩
  have s127 : ∀ Y, Ev B w (.pointer none) [] ((ga, bxL C) :: (gb, bxL D) :: (gc, bxL A) :: (gd, bxL D) :: bx) Y → wpAny Try.prog .any opsW11 Q 1 #[true, true, true, true, true, true, true, false] ⟨#[c0, c1, c2, c3, c4, c5, .pointer (some ⟨ga, 0, none⟩), .pointer (some ⟨gb, 0, none⟩), .pointer (some ⟨gc, 0, none⟩), .pointer (some ⟨gd, 0, none⟩), c10, c11, c12, c13, c14, c15, c16, c17, c18, c19, c20, c21, c22, c23, c24, c25, c26, .agg (VI .i64 C), .agg (VI .i64 D), .agg (VI .i64 A), .agg (VI .i64 Bb), c31, c32, c33, c34, c35, c36, c37, c38, c39, c40, c41, c42, c43, c44, c45, c46, c47, c48, c49, c50, c51, c52, c53, c54], []⟩ Y := by
    intro Y hY
    refine wpAny_all (rs := [7]) (by kernel_rfl) (by simp) ?_
    simp only [List.mem_cons, List.not_mem_nil, or_false, forall_eq_or_imp, forall_eq]
    exact wpOp_stN opsW11_7 (by kernel_rfl) (by kernel_rfl) (hY.row (g := gd) (x := bxL D) (by simp)) l_D.out l_Bb.out (wpAny_as (by kernel_rfl) (by kernel_rfl) (s255 _ (
      have hP : Ev B w (.pointer none) [] ((gd, bxL D) :: (ga, bxL C) :: (gb, bxL D) :: (gc, bxL A) :: bx) Y := hY.sub (fun p hp => by simp only [List.mem_cons] at hp ⊢; grind)
      have hE := hP.set rfl (by simp only [List.mem_cons, forall_eq_or_imp]; exact ⟨nad, nbd, ncd, ed⟩) (but_setCells gd (Bb.map (Value.int .i64)) 0 Y) (whole_setN (hP.row (g := gd) (x := bxL D) (by simp)) (by rw [l_D.out, l_Bb.out]))
      hE.sub (fun p hp => by simp only [List.mem_cons] at hp ⊢; grind))))
  have s63 : ∀ Y, Ev B w (.pointer none) [] ((ga, bxL C) :: (gb, bxL D) :: (gc, bxL C) :: (gd, bxL D) :: bx) Y → wpAny Try.prog .any opsW11 Q 2 #[true, true, true, true, true, true, false, false] ⟨#[c0, c1, c2, c3, c4, c5, .pointer (some ⟨ga, 0, none⟩), .pointer (some ⟨gb, 0, none⟩), .pointer (some ⟨gc, 0, none⟩), .pointer (some ⟨gd, 0, none⟩), c10, c11, c12, c13, c14, c15, c16, c17, c18, c19, c20, c21, c22, c23, c24, c25, c26, .agg (VI .i64 C), .agg (VI .i64 D), .agg (VI .i64 A), .agg (VI .i64 Bb), c31, c32, c33, c34, c35, c36, c37, c38, c39, c40, c41, c42, c43, c44, c45, c46, c47, c48, c49, c50, c51, c52, c53, c54], []⟩ Y := by
    intro Y hY
    refine wpAny_all (rs := [6]) (by kernel_rfl) (by simp) ?_
    simp only [List.mem_cons, List.not_mem_nil, or_false, forall_eq_or_imp, forall_eq]
    exact wpOp_stN opsW11_6 (by kernel_rfl) (by kernel_rfl) (hY.row (g := gc) (x := bxL C) (by simp)) l_C.out l_A.out (wpAny_as (by kernel_rfl) (by kernel_rfl) (s127 _ (
      have hP : Ev B w (.pointer none) [] ((gc, bxL C) :: (ga, bxL C) :: (gb, bxL D) :: (gd, bxL D) :: bx) Y := hY.sub (fun p hp => by simp only [List.mem_cons] at hp ⊢; grind)
      have hE := hP.set rfl (by simp only [List.mem_cons, forall_eq_or_imp]; exact ⟨nac, nbc, (Ne.symm ncd), ec⟩) (but_setCells gc (A.map (Value.int .i64)) 0 Y) (whole_setN (hP.row (g := gc) (x := bxL C) (by simp)) (by rw [l_C.out, l_A.out]))
      hE.sub (fun p hp => by simp only [List.mem_cons] at hp ⊢; grind))))
  have s31 : ∀ Y, Ev B w (.pointer none) [] ((ga, bxL C) :: (gb, bxL Bb) :: (gc, bxL C) :: (gd, bxL D) :: bx) Y → wpAny Try.prog .any opsW11 Q 3 #[true, true, true, true, true, false, false, false] ⟨#[c0, c1, c2, c3, c4, c5, .pointer (some ⟨ga, 0, none⟩), .pointer (some ⟨gb, 0, none⟩), .pointer (some ⟨gc, 0, none⟩), .pointer (some ⟨gd, 0, none⟩), c10, c11, c12, c13, c14, c15, c16, c17, c18, c19, c20, c21, c22, c23, c24, c25, c26, .agg (VI .i64 C), .agg (VI .i64 D), .agg (VI .i64 A), .agg (VI .i64 Bb), c31, c32, c33, c34, c35, c36, c37, c38, c39, c40, c41, c42, c43, c44, c45, c46, c47, c48, c49, c50, c51, c52, c53, c54], []⟩ Y := by
    intro Y hY
    refine wpAny_all (rs := [5]) (by kernel_rfl) (by simp) ?_
    simp only [List.mem_cons, List.not_mem_nil, or_false, forall_eq_or_imp, forall_eq]
    exact wpOp_stN opsW11_5 (by kernel_rfl) (by kernel_rfl) (hY.row (g := gb) (x := bxL Bb) (by simp)) l_Bb.out l_D.out (wpAny_as (by kernel_rfl) (by kernel_rfl) (s63 _ (
      have hP : Ev B w (.pointer none) [] ((gb, bxL Bb) :: (ga, bxL C) :: (gc, bxL C) :: (gd, bxL D) :: bx) Y := hY.sub (fun p hp => by simp only [List.mem_cons] at hp ⊢; grind)
      have hE := hP.set rfl (by simp only [List.mem_cons, forall_eq_or_imp]; exact ⟨nab, (Ne.symm nbc), (Ne.symm nbd), eb⟩) (but_setCells gb (D.map (Value.int .i64)) 0 Y) (whole_setN (hP.row (g := gb) (x := bxL Bb) (by simp)) (by rw [l_Bb.out, l_D.out]))
      hE.sub (fun p hp => by simp only [List.mem_cons] at hp ⊢; grind))))
  have s15 : ∀ Y, Ev B w (.pointer none) [] ((ga, bxL A) :: (gb, bxL Bb) :: (gc, bxL C) :: (gd, bxL D) :: bx) Y → wpAny Try.prog .any opsW11 Q 4 #[true, true, true, true, false, false, false, false] ⟨#[c0, c1, c2, c3, c4, c5, .pointer (some ⟨ga, 0, none⟩), .pointer (some ⟨gb, 0, none⟩), .pointer (some ⟨gc, 0, none⟩), .pointer (some ⟨gd, 0, none⟩), c10, c11, c12, c13, c14, c15, c16, c17, c18, c19, c20, c21, c22, c23, c24, c25, c26, .agg (VI .i64 C), .agg (VI .i64 D), .agg (VI .i64 A), .agg (VI .i64 Bb), c31, c32, c33, c34, c35, c36, c37, c38, c39, c40, c41, c42, c43, c44, c45, c46, c47, c48, c49, c50, c51, c52, c53, c54], []⟩ Y := by
    intro Y hY
    refine wpAny_all (rs := [4]) (by kernel_rfl) (by simp) ?_
    simp only [List.mem_cons, List.not_mem_nil, or_false, forall_eq_or_imp, forall_eq]
    exact wpOp_stN opsW11_4 (by kernel_rfl) (by kernel_rfl) (hY.row (g := ga) (x := bxL A) (by simp)) l_A.out l_C.out (wpAny_as (by kernel_rfl) (by kernel_rfl) (s31 _ (
      have hP : Ev B w (.pointer none) [] ((ga, bxL A) :: (gb, bxL Bb) :: (gc, bxL C) :: (gd, bxL D) :: bx) Y := hY.sub (fun p hp => by simp only [List.mem_cons] at hp ⊢; grind)
      have hE := hP.set rfl (by simp only [List.mem_cons, forall_eq_or_imp]; exact ⟨(Ne.symm nab), (Ne.symm nac), (Ne.symm nad), ea⟩) (but_setCells ga (C.map (Value.int .i64)) 0 Y) (whole_setN (hP.row (g := ga) (x := bxL A) (by simp)) (by rw [l_A.out, l_C.out]))
      hE.sub (fun p hp => by simp only [List.mem_cons] at hp ⊢; grind))))
  have s29 : ∀ Y, Ev B w (.pointer none) [] ((ga, bxL C) :: (gb, bxL Bb) :: (gc, bxL C) :: (gd, bxL D) :: bx) Y → wpAny Try.prog .any opsW11 Q 4 #[true, false, true, true, true, false, false, false] ⟨#[c0, c1, c2, c3, c4, c5, .pointer (some ⟨ga, 0, none⟩), .pointer (some ⟨gb, 0, none⟩), .pointer (some ⟨gc, 0, none⟩), .pointer (some ⟨gd, 0, none⟩), c10, c11, c12, c13, c14, c15, c16, c17, c18, c19, c20, c21, c22, c23, c24, c25, c26, .agg (VI .i64 C), c28, .agg (VI .i64 A), .agg (VI .i64 Bb), c31, c32, c33, c34, c35, c36, c37, c38, c39, c40, c41, c42, c43, c44, c45, c46, c47, c48, c49, c50, c51, c52, c53, c54], []⟩ Y := by
    intro Y hY
    refine wpAny_all (rs := [1]) (by kernel_rfl) (by simp) ?_
    simp only [List.mem_cons, List.not_mem_nil, or_false, forall_eq_or_imp, forall_eq]
    exact wpOp_ldN opsW11_1 (by kernel_rfl) (hY.row (g := gd) (x := bxL D) (by simp)) l_D.out (wpAny_as (by kernel_rfl) (by kernel_rfl) (s31 Y hY))
  have s14 : ∀ Y, Ev B w (.pointer none) [] ((ga, bxL A) :: (gb, bxL Bb) :: (gc, bxL C) :: (gd, bxL D) :: bx) Y → wpAny Try.prog .any opsW11 Q 5 #[false, true, true, true, false, false, false, false] ⟨#[c0, c1, c2, c3, c4, c5, .pointer (some ⟨ga, 0, none⟩), .pointer (some ⟨gb, 0, none⟩), .pointer (some ⟨gc, 0, none⟩), .pointer (some ⟨gd, 0, none⟩), c10, c11, c12, c13, c14, c15, c16, c17, c18, c19, c20, c21, c22, c23, c24, c25, c26, c27, .agg (VI .i64 D), .agg (VI .i64 A), .agg (VI .i64 Bb), c31, c32, c33, c34, c35, c36, c37, c38, c39, c40, c41, c42, c43, c44, c45, c46, c47, c48, c49, c50, c51, c52, c53, c54], []⟩ Y := by
    intro Y hY
    refine wpAny_all (rs := [0]) (by kernel_rfl) (by simp) ?_
    simp only [List.mem_cons, List.not_mem_nil, or_false, forall_eq_or_imp, forall_eq]
    exact wpOp_ldN opsW11_0 (by kernel_rfl) (hY.row (g := gc) (x := bxL C) (by simp)) l_C.out (wpAny_as (by kernel_rfl) (by kernel_rfl) (s15 Y hY))
  have s13 : ∀ Y, Ev B w (.pointer none) [] ((ga, bxL A) :: (gb, bxL Bb) :: (gc, bxL C) :: (gd, bxL D) :: bx) Y → wpAny Try.prog .any opsW11 Q 5 #[true, false, true, true, false, false, false, false] ⟨#[c0, c1, c2, c3, c4, c5, .pointer (some ⟨ga, 0, none⟩), .pointer (some ⟨gb, 0, none⟩), .pointer (some ⟨gc, 0, none⟩), .pointer (some ⟨gd, 0, none⟩), c10, c11, c12, c13, c14, c15, c16, c17, c18, c19, c20, c21, c22, c23, c24, c25, c26, .agg (VI .i64 C), c28, .agg (VI .i64 A), .agg (VI .i64 Bb), c31, c32, c33, c34, c35, c36, c37, c38, c39, c40, c41, c42, c43, c44, c45, c46, c47, c48, c49, c50, c51, c52, c53, c54], []⟩ Y := by
    intro Y hY
    refine wpAny_all (rs := [1, 4]) (by kernel_rfl) (by simp) ?_
    simp only [List.mem_cons, List.not_mem_nil, or_false, forall_eq_or_imp, forall_eq]
    exact ⟨wpOp_ldN opsW11_1 (by kernel_rfl) (hY.row (g := gd) (x := bxL D) (by simp)) l_D.out (wpAny_as (by kernel_rfl) (by kernel_rfl) (s15 Y hY)),
      wpOp_stN opsW11_4 (by kernel_rfl) (by kernel_rfl) (hY.row (g := ga) (x := bxL A) (by simp)) l_A.out l_C.out (wpAny_as (by kernel_rfl) (by kernel_rfl) (s29 _ (
      have hP : Ev B w (.pointer none) [] ((ga, bxL A) :: (gb, bxL Bb) :: (gc, bxL C) :: (gd, bxL D) :: bx) Y := hY.sub (fun p hp => by simp only [List.mem_cons] at hp ⊢; grind)
      have hE := hP.set rfl (by simp only [List.mem_cons, forall_eq_or_imp]; exact ⟨(Ne.symm nab), (Ne.symm nac), (Ne.symm nad), ea⟩) (but_setCells ga (C.map (Value.int .i64)) 0 Y) (whole_setN (hP.row (g := ga) (x := bxL A) (by simp)) (by rw [l_A.out, l_C.out]))
      hE.sub (fun p hp => by simp only [List.mem_cons] at hp ⊢; grind))))⟩
  have s11 : ∀ Y, Ev B w (.pointer none) [] ((ga, bxL A) :: (gb, bxL Bb) :: (gc, bxL C) :: (gd, bxL D) :: bx) Y → wpAny Try.prog .any opsW11 Q 5 #[true, true, false, true, false, false, false, false] ⟨#[c0, c1, c2, c3, c4, c5, .pointer (some ⟨ga, 0, none⟩), .pointer (some ⟨gb, 0, none⟩), .pointer (some ⟨gc, 0, none⟩), .pointer (some ⟨gd, 0, none⟩), c10, c11, c12, c13, c14, c15, c16, c17, c18, c19, c20, c21, c22, c23, c24, c25, c26, .agg (VI .i64 C), .agg (VI .i64 D), c29, .agg (VI .i64 Bb), c31, c32, c33, c34, c35, c36, c37, c38, c39, c40, c41, c42, c43, c44, c45, c46, c47, c48, c49, c50, c51, c52, c53, c54], []⟩ Y := by
    intro Y hY
    refine wpAny_all (rs := [2]) (by kernel_rfl) (by simp) ?_
    simp only [List.mem_cons, List.not_mem_nil, or_false, forall_eq_or_imp, forall_eq]
    exact wpOp_ldN opsW11_2 (by kernel_rfl) (hY.row (g := ga) (x := bxL A) (by simp)) l_A.out (wpAny_as (by kernel_rfl) (by kernel_rfl) (s15 Y hY))
  have s7 : ∀ Y, Ev B w (.pointer none) [] ((ga, bxL A) :: (gb, bxL Bb) :: (gc, bxL C) :: (gd, bxL D) :: bx) Y → wpAny Try.prog .any opsW11 Q 5 #[true, true, true, false, false, false, false, false] ⟨#[c0, c1, c2, c3, c4, c5, .pointer (some ⟨ga, 0, none⟩), .pointer (some ⟨gb, 0, none⟩), .pointer (some ⟨gc, 0, none⟩), .pointer (some ⟨gd, 0, none⟩), c10, c11, c12, c13, c14, c15, c16, c17, c18, c19, c20, c21, c22, c23, c24, c25, c26, .agg (VI .i64 C), .agg (VI .i64 D), .agg (VI .i64 A), c30, c31, c32, c33, c34, c35, c36, c37, c38, c39, c40, c41, c42, c43, c44, c45, c46, c47, c48, c49, c50, c51, c52, c53, c54], []⟩ Y := by
    intro Y hY
    refine wpAny_all (rs := [3]) (by kernel_rfl) (by simp) ?_
    simp only [List.mem_cons, List.not_mem_nil, or_false, forall_eq_or_imp, forall_eq]
    exact wpOp_ldN opsW11_3 (by kernel_rfl) (hY.row (g := gb) (x := bxL Bb) (by simp)) l_Bb.out (wpAny_as (by kernel_rfl) (by kernel_rfl) (s15 Y hY))
  have s12 : ∀ Y, Ev B w (.pointer none) [] ((ga, bxL A) :: (gb, bxL Bb) :: (gc, bxL C) :: (gd, bxL D) :: bx) Y → wpAny Try.prog .any opsW11 Q 6 #[false, false, true, true, false, false, false, false] ⟨#[c0, c1, c2, c3, c4, c5, .pointer (some ⟨ga, 0, none⟩), .pointer (some ⟨gb, 0, none⟩), .pointer (some ⟨gc, 0, none⟩), .pointer (some ⟨gd, 0, none⟩), c10, c11, c12, c13, c14, c15, c16, c17, c18, c19, c20, c21, c22, c23, c24, c25, c26, c27, c28, .agg (VI .i64 A), .agg (VI .i64 Bb), c31, c32, c33, c34, c35, c36, c37, c38, c39, c40, c41, c42, c43, c44, c45, c46, c47, c48, c49, c50, c51, c52, c53, c54], []⟩ Y := by
    intro Y hY
    refine wpAny_all (rs := [0, 1]) (by kernel_rfl) (by simp) ?_
    simp only [List.mem_cons, List.not_mem_nil, or_false, forall_eq_or_imp, forall_eq]
    exact ⟨wpOp_ldN opsW11_0 (by kernel_rfl) (hY.row (g := gc) (x := bxL C) (by simp)) l_C.out (wpAny_as (by kernel_rfl) (by kernel_rfl) (s13 Y hY)),
      wpOp_ldN opsW11_1 (by kernel_rfl) (hY.row (g := gd) (x := bxL D) (by simp)) l_D.out (wpAny_as (by kernel_rfl) (by kernel_rfl) (s14 Y hY))⟩
  have s10 : ∀ Y, Ev B w (.pointer none) [] ((ga, bxL A) :: (gb, bxL Bb) :: (gc, bxL C) :: (gd, bxL D) :: bx) Y → wpAny Try.prog .any opsW11 Q 6 #[false, true, false, true, false, false, false, false] ⟨#[c0, c1, c2, c3, c4, c5, .pointer (some ⟨ga, 0, none⟩), .pointer (some ⟨gb, 0, none⟩), .pointer (some ⟨gc, 0, none⟩), .pointer (some ⟨gd, 0, none⟩), c10, c11, c12, c13, c14, c15, c16, c17, c18, c19, c20, c21, c22, c23, c24, c25, c26, c27, .agg (VI .i64 D), c29, .agg (VI .i64 Bb), c31, c32, c33, c34, c35, c36, c37, c38, c39, c40, c41, c42, c43, c44, c45, c46, c47, c48, c49, c50, c51, c52, c53, c54], []⟩ Y := by
    intro Y hY
    refine wpAny_all (rs := [0, 2]) (by kernel_rfl) (by simp) ?_
    simp only [List.mem_cons, List.not_mem_nil, or_false, forall_eq_or_imp, forall_eq]
    exact ⟨wpOp_ldN opsW11_0 (by kernel_rfl) (hY.row (g := gc) (x := bxL C) (by simp)) l_C.out (wpAny_as (by kernel_rfl) (by kernel_rfl) (s11 Y hY)),
      wpOp_ldN opsW11_2 (by kernel_rfl) (hY.row (g := ga) (x := bxL A) (by simp)) l_A.out (wpAny_as (by kernel_rfl) (by kernel_rfl) (s14 Y hY))⟩
  have s9 : ∀ Y, Ev B w (.pointer none) [] ((ga, bxL A) :: (gb, bxL Bb) :: (gc, bxL C) :: (gd, bxL D) :: bx) Y → wpAny Try.prog .any opsW11 Q 6 #[true, false, false, true, false, false, false, false] ⟨#[c0, c1, c2, c3, c4, c5, .pointer (some ⟨ga, 0, none⟩), .pointer (some ⟨gb, 0, none⟩), .pointer (some ⟨gc, 0, none⟩), .pointer (some ⟨gd, 0, none⟩), c10, c11, c12, c13, c14, c15, c16, c17, c18, c19, c20, c21, c22, c23, c24, c25, c26, .agg (VI .i64 C), c28, c29, .agg (VI .i64 Bb), c31, c32, c33, c34, c35, c36, c37, c38, c39, c40, c41, c42, c43, c44, c45, c46, c47, c48, c49, c50, c51, c52, c53, c54], []⟩ Y := by
    intro Y hY
    refine wpAny_all (rs := [1, 2]) (by kernel_rfl) (by simp) ?_
    simp only [List.mem_cons, List.not_mem_nil, or_false, forall_eq_or_imp, forall_eq]
    exact ⟨wpOp_ldN opsW11_1 (by kernel_rfl) (hY.row (g := gd) (x := bxL D) (by simp)) l_D.out (wpAny_as (by kernel_rfl) (by kernel_rfl) (s11 Y hY)),
      wpOp_ldN opsW11_2 (by kernel_rfl) (hY.row (g := ga) (x := bxL A) (by simp)) l_A.out (wpAny_as (by kernel_rfl) (by kernel_rfl) (s13 Y hY))⟩
  have s6 : ∀ Y, Ev B w (.pointer none) [] ((ga, bxL A) :: (gb, bxL Bb) :: (gc, bxL C) :: (gd, bxL D) :: bx) Y → wpAny Try.prog .any opsW11 Q 6 #[false, true, true, false, false, false, false, false] ⟨#[c0, c1, c2, c3, c4, c5, .pointer (some ⟨ga, 0, none⟩), .pointer (some ⟨gb, 0, none⟩), .pointer (some ⟨gc, 0, none⟩), .pointer (some ⟨gd, 0, none⟩), c10, c11, c12, c13, c14, c15, c16, c17, c18, c19, c20, c21, c22, c23, c24, c25, c26, c27, .agg (VI .i64 D), .agg (VI .i64 A), c30, c31, c32, c33, c34, c35, c36, c37, c38, c39, c40, c41, c42, c43, c44, c45, c46, c47, c48, c49, c50, c51, c52, c53, c54], []⟩ Y := by
    intro Y hY
    refine wpAny_all (rs := [0, 3]) (by kernel_rfl) (by simp) ?_
    simp only [List.mem_cons, List.not_mem_nil, or_false, forall_eq_or_imp, forall_eq]
    exact ⟨wpOp_ldN opsW11_0 (by kernel_rfl) (hY.row (g := gc) (x := bxL C) (by simp)) l_C.out (wpAny_as (by kernel_rfl) (by kernel_rfl) (s7 Y hY)),
      wpOp_ldN opsW11_3 (by kernel_rfl) (hY.row (g := gb) (x := bxL Bb) (by simp)) l_Bb.out (wpAny_as (by kernel_rfl) (by kernel_rfl) (s14 Y hY))⟩
  have s5 : ∀ Y, Ev B w (.pointer none) [] ((ga, bxL A) :: (gb, bxL Bb) :: (gc, bxL C) :: (gd, bxL D) :: bx) Y → wpAny Try.prog .any opsW11 Q 6 #[true, false, true, false, false, false, false, false] ⟨#[c0, c1, c2, c3, c4, c5, .pointer (some ⟨ga, 0, none⟩), .pointer (some ⟨gb, 0, none⟩), .pointer (some ⟨gc, 0, none⟩), .pointer (some ⟨gd, 0, none⟩), c10, c11, c12, c13, c14, c15, c16, c17, c18, c19, c20, c21, c22, c23, c24, c25, c26, .agg (VI .i64 C), c28, .agg (VI .i64 A), c30, c31, c32, c33, c34, c35, c36, c37, c38, c39, c40, c41, c42, c43, c44, c45, c46, c47, c48, c49, c50, c51, c52, c53, c54], []⟩ Y := by
    intro Y hY
    refine wpAny_all (rs := [1, 3]) (by kernel_rfl) (by simp) ?_
    simp only [List.mem_cons, List.not_mem_nil, or_false, forall_eq_or_imp, forall_eq]
    exact ⟨wpOp_ldN opsW11_1 (by kernel_rfl) (hY.row (g := gd) (x := bxL D) (by simp)) l_D.out (wpAny_as (by kernel_rfl) (by kernel_rfl) (s7 Y hY)),
      wpOp_ldN opsW11_3 (by kernel_rfl) (hY.row (g := gb) (x := bxL Bb) (by simp)) l_Bb.out (wpAny_as (by kernel_rfl) (by kernel_rfl) (s13 Y hY))⟩
  have s3 : ∀ Y, Ev B w (.pointer none) [] ((ga, bxL A) :: (gb, bxL Bb) :: (gc, bxL C) :: (gd, bxL D) :: bx) Y → wpAny Try.prog .any opsW11 Q 6 #[true, true, false, false, false, false, false, false] ⟨#[c0, c1, c2, c3, c4, c5, .pointer (some ⟨ga, 0, none⟩), .pointer (some ⟨gb, 0, none⟩), .pointer (some ⟨gc, 0, none⟩), .pointer (some ⟨gd, 0, none⟩), c10, c11, c12, c13, c14, c15, c16, c17, c18, c19, c20, c21, c22, c23, c24, c25, c26, .agg (VI .i64 C), .agg (VI .i64 D), c29, c30, c31, c32, c33, c34, c35, c36, c37, c38, c39, c40, c41, c42, c43, c44, c45, c46, c47, c48, c49, c50, c51, c52, c53, c54], []⟩ Y := by
    intro Y hY
    refine wpAny_all (rs := [2, 3]) (by kernel_rfl) (by simp) ?_
    simp only [List.mem_cons, List.not_mem_nil, or_false, forall_eq_or_imp, forall_eq]
    exact ⟨wpOp_ldN opsW11_2 (by kernel_rfl) (hY.row (g := ga) (x := bxL A) (by simp)) l_A.out (wpAny_as (by kernel_rfl) (by kernel_rfl) (s7 Y hY)),
      wpOp_ldN opsW11_3 (by kernel_rfl) (hY.row (g := gb) (x := bxL Bb) (by simp)) l_Bb.out (wpAny_as (by kernel_rfl) (by kernel_rfl) (s11 Y hY))⟩
  have s8 : ∀ Y, Ev B w (.pointer none) [] ((ga, bxL A) :: (gb, bxL Bb) :: (gc, bxL C) :: (gd, bxL D) :: bx) Y → wpAny Try.prog .any opsW11 Q 7 #[false, false, false, true, false, false, false, false] ⟨#[c0, c1, c2, c3, c4, c5, .pointer (some ⟨ga, 0, none⟩), .pointer (some ⟨gb, 0, none⟩), .pointer (some ⟨gc, 0, none⟩), .pointer (some ⟨gd, 0, none⟩), c10, c11, c12, c13, c14, c15, c16, c17, c18, c19, c20, c21, c22, c23, c24, c25, c26, c27, c28, c29, .agg (VI .i64 Bb), c31, c32, c33, c34, c35, c36, c37, c38, c39, c40, c41, c42, c43, c44, c45, c46, c47, c48, c49, c50, c51, c52, c53, c54], []⟩ Y := by
    intro Y hY
    refine wpAny_all (rs := [0, 1, 2]) (by kernel_rfl) (by simp) ?_
    simp only [List.mem_cons, List.not_mem_nil, or_false, forall_eq_or_imp, forall_eq]
    exact ⟨wpOp_ldN opsW11_0 (by kernel_rfl) (hY.row (g := gc) (x := bxL C) (by simp)) l_C.out (wpAny_as (by kernel_rfl) (by kernel_rfl) (s9 Y hY)),
      wpOp_ldN opsW11_1 (by kernel_rfl) (hY.row (g := gd) (x := bxL D) (by simp)) l_D.out (wpAny_as (by kernel_rfl) (by kernel_rfl) (s10 Y hY)),
      wpOp_ldN opsW11_2 (by kernel_rfl) (hY.row (g := ga) (x := bxL A) (by simp)) l_A.out (wpAny_as (by kernel_rfl) (by kernel_rfl) (s12 Y hY))⟩
  have s4 : ∀ Y, Ev B w (.pointer none) [] ((ga, bxL A) :: (gb, bxL Bb) :: (gc, bxL C) :: (gd, bxL D) :: bx) Y → wpAny Try.prog .any opsW11 Q 7 #[false, false, true, false, false, false, false, false] ⟨#[c0, c1, c2, c3, c4, c5, .pointer (some ⟨ga, 0, none⟩), .pointer (some ⟨gb, 0, none⟩), .pointer (some ⟨gc, 0, none⟩), .pointer (some ⟨gd, 0, none⟩), c10, c11, c12, c13, c14, c15, c16, c17, c18, c19, c20, c21, c22, c23, c24, c25, c26, c27, c28, .agg (VI .i64 A), c30, c31, c32, c33, c34, c35, c36, c37, c38, c39, c40, c41, c42, c43, c44, c45, c46, c47, c48, c49, c50, c51, c52, c53, c54], []⟩ Y := by
    intro Y hY
    refine wpAny_all (rs := [0, 1, 3]) (by kernel_rfl) (by simp) ?_
    simp only [List.mem_cons, List.not_mem_nil, or_false, forall_eq_or_imp, forall_eq]
    exact ⟨wpOp_ldN opsW11_0 (by kernel_rfl) (hY.row (g := gc) (x := bxL C) (by simp)) l_C.out (wpAny_as (by kernel_rfl) (by kernel_rfl) (s5 Y hY)),
      wpOp_ldN opsW11_1 (by kernel_rfl) (hY.row (g := gd) (x := bxL D) (by simp)) l_D.out (wpAny_as (by kernel_rfl) (by kernel_rfl) (s6 Y hY)),
      wpOp_ldN opsW11_3 (by kernel_rfl) (hY.row (g := gb) (x := bxL Bb) (by simp)) l_Bb.out (wpAny_as (by kernel_rfl) (by kernel_rfl) (s12 Y hY))⟩
  have s2 : ∀ Y, Ev B w (.pointer none) [] ((ga, bxL A) :: (gb, bxL Bb) :: (gc, bxL C) :: (gd, bxL D) :: bx) Y → wpAny Try.prog .any opsW11 Q 7 #[false, true, false, false, false, false, false, false] ⟨#[c0, c1, c2, c3, c4, c5, .pointer (some ⟨ga, 0, none⟩), .pointer (some ⟨gb, 0, none⟩), .pointer (some ⟨gc, 0, none⟩), .pointer (some ⟨gd, 0, none⟩), c10, c11, c12, c13, c14, c15, c16, c17, c18, c19, c20, c21, c22, c23, c24, c25, c26, c27, .agg (VI .i64 D), c29, c30, c31, c32, c33, c34, c35, c36, c37, c38, c39, c40, c41, c42, c43, c44, c45, c46, c47, c48, c49, c50, c51, c52, c53, c54], []⟩ Y := by
    intro Y hY
    refine wpAny_all (rs := [0, 2, 3]) (by kernel_rfl) (by simp) ?_
    simp only [List.mem_cons, List.not_mem_nil, or_false, forall_eq_or_imp, forall_eq]
    exact ⟨wpOp_ldN opsW11_0 (by kernel_rfl) (hY.row (g := gc) (x := bxL C) (by simp)) l_C.out (wpAny_as (by kernel_rfl) (by kernel_rfl) (s3 Y hY)),
      wpOp_ldN opsW11_2 (by kernel_rfl) (hY.row (g := ga) (x := bxL A) (by simp)) l_A.out (wpAny_as (by kernel_rfl) (by kernel_rfl) (s6 Y hY)),
      wpOp_ldN opsW11_3 (by kernel_rfl) (hY.row (g := gb) (x := bxL Bb) (by simp)) l_Bb.out (wpAny_as (by kernel_rfl) (by kernel_rfl) (s10 Y hY))⟩
  have s1 : ∀ Y, Ev B w (.pointer none) [] ((ga, bxL A) :: (gb, bxL Bb) :: (gc, bxL C) :: (gd, bxL D) :: bx) Y → wpAny Try.prog .any opsW11 Q 7 #[true, false, false, false, false, false, false, false] ⟨#[c0, c1, c2, c3, c4, c5, .pointer (some ⟨ga, 0, none⟩), .pointer (some ⟨gb, 0, none⟩), .pointer (some ⟨gc, 0, none⟩), .pointer (some ⟨gd, 0, none⟩), c10, c11, c12, c13, c14, c15, c16, c17, c18, c19, c20, c21, c22, c23, c24, c25, c26, .agg (VI .i64 C), c28, c29, c30, c31, c32, c33, c34, c35, c36, c37, c38, c39, c40, c41, c42, c43, c44, c45, c46, c47, c48, c49, c50, c51, c52, c53, c54], []⟩ Y := by
    intro Y hY
    refine wpAny_all (rs := [1, 2, 3]) (by kernel_rfl) (by simp) ?_
    simp only [List.mem_cons, List.not_mem_nil, or_false, forall_eq_or_imp, forall_eq]
    exact ⟨wpOp_ldN opsW11_1 (by kernel_rfl) (hY.row (g := gd) (x := bxL D) (by simp)) l_D.out (wpAny_as (by kernel_rfl) (by kernel_rfl) (s3 Y hY)),
      wpOp_ldN opsW11_2 (by kernel_rfl) (hY.row (g := ga) (x := bxL A) (by simp)) l_A.out (wpAny_as (by kernel_rfl) (by kernel_rfl) (s5 Y hY)),
      wpOp_ldN opsW11_3 (by kernel_rfl) (hY.row (g := gb) (x := bxL Bb) (by simp)) l_Bb.out (wpAny_as (by kernel_rfl) (by kernel_rfl) (s9 Y hY))⟩
  have s0 : ∀ Y, Ev B w (.pointer none) [] ((ga, bxL A) :: (gb, bxL Bb) :: (gc, bxL C) :: (gd, bxL D) :: bx) Y → wpAny Try.prog .any opsW11 Q 8 #[false, false, false, false, false, false, false, false] ⟨#[c0, c1, c2, c3, c4, c5, .pointer (some ⟨ga, 0, none⟩), .pointer (some ⟨gb, 0, none⟩), .pointer (some ⟨gc, 0, none⟩), .pointer (some ⟨gd, 0, none⟩), c10, c11, c12, c13, c14, c15, c16, c17, c18, c19, c20, c21, c22, c23, c24, c25, c26, c27, c28, c29, c30, c31, c32, c33, c34, c35, c36, c37, c38, c39, c40, c41, c42, c43, c44, c45, c46, c47, c48, c49, c50, c51, c52, c53, c54], []⟩ Y := by
    intro Y hY
    refine wpAny_all (rs := [0, 1, 2, 3]) (by kernel_rfl) (by simp) ?_
    simp only [List.mem_cons, List.not_mem_nil, or_false, forall_eq_or_imp, forall_eq]
    exact ⟨wpOp_ldN opsW11_0 (by kernel_rfl) (hY.row (g := gc) (x := bxL C) (by simp)) l_C.out (wpAny_as (by kernel_rfl) (by kernel_rfl) (s1 Y hY)),
      wpOp_ldN opsW11_1 (by kernel_rfl) (hY.row (g := gd) (x := bxL D) (by simp)) l_D.out (wpAny_as (by kernel_rfl) (by kernel_rfl) (s2 Y hY)),
      wpOp_ldN opsW11_2 (by kernel_rfl) (hY.row (g := ga) (x := bxL A) (by simp)) l_A.out (wpAny_as (by kernel_rfl) (by kernel_rfl) (s4 Y hY)),
      wpOp_ldN opsW11_3 (by kernel_rfl) (hY.row (g := gb) (x := bxL Bb) (by simp)) l_Bb.out (wpAny_as (by kernel_rfl) (by kernel_rfl) (s8 Y hY))⟩
  rw [rgW11_is]
  exact wp_region_any (by kernel_rfl) (wpAny_fuel (by kernel_rfl) (by kernel_rfl) (s0 _ XX.drew))
noncomputable def rgW14 : Code := ((Try.f13.body.bind (findReg 14)).getD .skip)
noncomputable def opsW14 : Array Oper := opsOf rgW14
theorem rgW14_is : rgW14 = .region 14 opsW14 true := by kernel_rfl
theorem opsW14_0 : (opsW14[0]?).map (fun o => (o.guard, o.op, o.dst)) = some (none, .load 65 (.tmp 8), some 46) := by kernel_rfl
theorem opsW14_1 : (opsW14[1]?).map (fun o => (o.guard, o.op, o.dst)) = some (none, .load 65 (.tmp 9), some 47) := by kernel_rfl
theorem opsW14_2 : (opsW14[2]?).map (fun o => (o.guard, o.op, o.dst)) = some (none, .load 65 (.tmp 6), some 48) := by kernel_rfl
theorem opsW14_3 : (opsW14[3]?).map (fun o => (o.guard, o.op, o.dst)) = some (none, .load 65 (.tmp 7), some 49) := by kernel_rfl
theorem opsW14_4 : (opsW14[4]?).map (fun o => (o.guard, o.op, o.dst)) = some (none, .store 65 (.tmp 6) (.tmp 46), none) := by kernel_rfl
theorem opsW14_5 : (opsW14[5]?).map (fun o => (o.guard, o.op, o.dst)) = some (none, .store 65 (.tmp 7) (.tmp 47), none) := by kernel_rfl
theorem opsW14_6 : (opsW14[6]?).map (fun o => (o.guard, o.op, o.dst)) = some (none, .store 65 (.tmp 8) (.tmp 48), none) := by kernel_rfl
theorem opsW14_7 : (opsW14[7]?).map (fun o => (o.guard, o.op, o.dst)) = some (none, .store 65 (.tmp 9) (.tmp 49), none) := by kernel_rfl
set_option maxRecDepth 100000 in
set_option maxHeartbeats 8000000 in
theorem rsh_r14 {Q : Exit → Act → World → Prop} {B : Nat} {w W : World} {bx : List (Nat × Obj)} {ga gb gc gd : Nat} {A Bb C D : List Int} {c0 c1 c2 c3 c4 c5 c10 c11 c12 c13 c14 c15 c16 c17 c18 c19 c20 c21 c22 c23 c24 c25 c26 c27 c28 c29 c30 c31 c32 c33 c34 c35 c36 c37 c38 c39 c40 c41 c42 c43 c44 c45 c46 c47 c48 c49 c50 c51 c52 c53 c54 : Value}
    (l_A : Hid (A.length = 16)) (l_Bb : Hid (Bb.length = 16)) (l_C : Hid (C.length = 16)) (l_D : Hid (D.length = 16))
    (ND : Hid (ga ≠ gb ∧ ga ≠ gc ∧ ga ≠ gd ∧ gb ≠ gc ∧ gb ≠ gd ∧ gc ≠ gd)) (NB : Hid ((∀ p ∈ bx, p.1 ≠ ga) ∧ (∀ p ∈ bx, p.1 ≠ gb) ∧ (∀ p ∈ bx, p.1 ≠ gc) ∧ (∀ p ∈ bx, p.1 ≠ gd)))
    (XX : Ev B w (.pointer none) [] ((ga, bxL A) :: (gb, bxL Bb) :: (gc, bxL C) :: (gd, bxL D) :: bx) W)
    (H : ∀ W', Ev B w (.pointer none) [] ((ga, bxL C) :: (gb, bxL D) :: (gc, bxL A) :: (gd, bxL Bb) :: bx) W' → Q .normal ⟨#[c0, c1, c2, c3, c4, c5, .pointer (some ⟨ga, 0, none⟩), .pointer (some ⟨gb, 0, none⟩), .pointer (some ⟨gc, 0, none⟩), .pointer (some ⟨gd, 0, none⟩), c10, c11, c12, c13, c14, c15, c16, c17, c18, c19, c20, c21, c22, c23, c24, c25, c26, c27, c28, c29, c30, c31, c32, c33, c34, c35, c36, c37, c38, c39, c40, c41, c42, c43, c44, c45, .agg (VI .i64 C), .agg (VI .i64 D), .agg (VI .i64 A), .agg (VI .i64 Bb), c50, c51, c52, c53, c54], []⟩ W') :
    Code.wp Try.prog rgW14 Q ⟨#[c0, c1, c2, c3, c4, c5, .pointer (some ⟨ga, 0, none⟩), .pointer (some ⟨gb, 0, none⟩), .pointer (some ⟨gc, 0, none⟩), .pointer (some ⟨gd, 0, none⟩), c10, c11, c12, c13, c14, c15, c16, c17, c18, c19, c20, c21, c22, c23, c24, c25, c26, c27, c28, c29, c30, c31, c32, c33, c34, c35, c36, c37, c38, c39, c40, c41, c42, c43, c44, c45, c46, c47, c48, c49, c50, c51, c52, c53, c54], []⟩ W := by
  obtain ⟨nab, nac, nad, nbc, nbd, ncd⟩ := ND.out
  obtain ⟨ea, eb, ec, ed⟩ := NB.out
  have s255 : ∀ Y, Ev B w (.pointer none) [] ((ga, bxL C) :: (gb, bxL D) :: (gc, bxL A) :: (gd, bxL Bb) :: bx) Y → wpAny Try.prog .any opsW14 Q 0 #[true, true, true, true, true, true, true, true] ⟨#[c0, c1, c2, c3, c4, c5, .pointer (some ⟨ga, 0, none⟩), .pointer (some ⟨gb, 0, none⟩), .pointer (some ⟨gc, 0, none⟩), .pointer (some ⟨gd, 0, none⟩), c10, c11, c12, c13, c14, c15, c16, c17, c18, c19, c20, c21, c22, c23, c24, c25, c26, c27, c28, c29, c30, c31, c32, c33, c34, c35, c36, c37, c38, c39, c40, c41, c42, c43, c44, c45, .agg (VI .i64 C), .agg (VI .i64 D), .agg (VI .i64 A), .agg (VI .i64 Bb), c50, c51, c52, c53, c54], []⟩ Y := by
    intro Y hY
    exact ⟨by kernel_rfl, H Y hY⟩
  have s127 : ∀ Y, Ev B w (.pointer none) [] ((ga, bxL C) :: (gb, bxL D) :: (gc, bxL A) :: (gd, bxL D) :: bx) Y → wpAny Try.prog .any opsW14 Q 1 #[true, true, true, true, true, true, true, false] ⟨#[c0, c1, c2, c3, c4, c5, .pointer (some ⟨ga, 0, none⟩), .pointer (some ⟨gb, 0, none⟩), .pointer (some ⟨gc, 0, none⟩), .pointer (some ⟨gd, 0, none⟩), c10, c11, c12, c13, c14, c15, c16, c17, c18, c19, c20, c21, c22, c23, c24, c25, c26, c27, c28, c29, c30, c31, c32, c33, c34, c35, c36, c37, c38, c39, c40, c41, c42, c43, c44, c45, .agg (VI .i64 C), .agg (VI .i64 D), .agg (VI .i64 A), .agg (VI .i64 Bb), c50, c51, c52, c53, c54], []⟩ Y := by
    intro Y hY
    refine wpAny_all (rs := [7]) (by kernel_rfl) (by simp) ?_
    simp only [List.mem_cons, List.not_mem_nil, or_false, forall_eq_or_imp, forall_eq]
    exact wpOp_stN opsW14_7 (by kernel_rfl) (by kernel_rfl) (hY.row (g := gd) (x := bxL D) (by simp)) l_D.out l_Bb.out (wpAny_as (by kernel_rfl) (by kernel_rfl) (s255 _ (
      have hP : Ev B w (.pointer none) [] ((gd, bxL D) :: (ga, bxL C) :: (gb, bxL D) :: (gc, bxL A) :: bx) Y := hY.sub (fun p hp => by simp only [List.mem_cons] at hp ⊢; grind)
      have hE := hP.set rfl (by simp only [List.mem_cons, forall_eq_or_imp]; exact ⟨nad, nbd, ncd, ed⟩) (but_setCells gd (Bb.map (Value.int .i64)) 0 Y) (whole_setN (hP.row (g := gd) (x := bxL D) (by simp)) (by rw [l_D.out, l_Bb.out]))
      hE.sub (fun p hp => by simp only [List.mem_cons] at hp ⊢; grind))))
  have s63 : ∀ Y, Ev B w (.pointer none) [] ((ga, bxL C) :: (gb, bxL D) :: (gc, bxL C) :: (gd, bxL D) :: bx) Y → wpAny Try.prog .any opsW14 Q 2 #[true, true, true, true, true, true, false, false] ⟨#[c0, c1, c2, c3, c4, c5, .pointer (some ⟨ga, 0, none⟩), .pointer (some ⟨gb, 0, none⟩), .pointer (some ⟨gc, 0, none⟩), .pointer (some ⟨gd, 0, none⟩), c10, c11, c12, c13, c14, c15, c16, c17, c18, c19, c20, c21, c22, c23, c24, c25, c26, c27, c28, c29, c30, c31, c32, c33, c34, c35, c36, c37, c38, c39, c40, c41, c42, c43, c44, c45, .agg (VI .i64 C), .agg (VI .i64 D), .agg (VI .i64 A), .agg (VI .i64 Bb), c50, c51, c52, c53, c54], []⟩ Y := by
    intro Y hY
    refine wpAny_all (rs := [6]) (by kernel_rfl) (by simp) ?_
    simp only [List.mem_cons, List.not_mem_nil, or_false, forall_eq_or_imp, forall_eq]
    exact wpOp_stN opsW14_6 (by kernel_rfl) (by kernel_rfl) (hY.row (g := gc) (x := bxL C) (by simp)) l_C.out l_A.out (wpAny_as (by kernel_rfl) (by kernel_rfl) (s127 _ (
      have hP : Ev B w (.pointer none) [] ((gc, bxL C) :: (ga, bxL C) :: (gb, bxL D) :: (gd, bxL D) :: bx) Y := hY.sub (fun p hp => by simp only [List.mem_cons] at hp ⊢; grind)
      have hE := hP.set rfl (by simp only [List.mem_cons, forall_eq_or_imp]; exact ⟨nac, nbc, (Ne.symm ncd), ec⟩) (but_setCells gc (A.map (Value.int .i64)) 0 Y) (whole_setN (hP.row (g := gc) (x := bxL C) (by simp)) (by rw [l_C.out, l_A.out]))
      hE.sub (fun p hp => by simp only [List.mem_cons] at hp ⊢; grind))))
  have s31 : ∀ Y, Ev B w (.pointer none) [] ((ga, bxL C) :: (gb, bxL Bb) :: (gc, bxL C) :: (gd, bxL D) :: bx) Y → wpAny Try.prog .any opsW14 Q 3 #[true, true, true, true, true, false, false, false] ⟨#[c0, c1, c2, c3, c4, c5, .pointer (some ⟨ga, 0, none⟩), .pointer (some ⟨gb, 0, none⟩), .pointer (some ⟨gc, 0, none⟩), .pointer (some ⟨gd, 0, none⟩), c10, c11, c12, c13, c14, c15, c16, c17, c18, c19, c20, c21, c22, c23, c24, c25, c26, c27, c28, c29, c30, c31, c32, c33, c34, c35, c36, c37, c38, c39, c40, c41, c42, c43, c44, c45, .agg (VI .i64 C), .agg (VI .i64 D), .agg (VI .i64 A), .agg (VI .i64 Bb), c50, c51, c52, c53, c54], []⟩ Y := by
    intro Y hY
    refine wpAny_all (rs := [5]) (by kernel_rfl) (by simp) ?_
    simp only [List.mem_cons, List.not_mem_nil, or_false, forall_eq_or_imp, forall_eq]
    exact wpOp_stN opsW14_5 (by kernel_rfl) (by kernel_rfl) (hY.row (g := gb) (x := bxL Bb) (by simp)) l_Bb.out l_D.out (wpAny_as (by kernel_rfl) (by kernel_rfl) (s63 _ (
      have hP : Ev B w (.pointer none) [] ((gb, bxL Bb) :: (ga, bxL C) :: (gc, bxL C) :: (gd, bxL D) :: bx) Y := hY.sub (fun p hp => by simp only [List.mem_cons] at hp ⊢; grind)
      have hE := hP.set rfl (by simp only [List.mem_cons, forall_eq_or_imp]; exact ⟨nab, (Ne.symm nbc), (Ne.symm nbd), eb⟩) (but_setCells gb (D.map (Value.int .i64)) 0 Y) (whole_setN (hP.row (g := gb) (x := bxL Bb) (by simp)) (by rw [l_Bb.out, l_D.out]))
      hE.sub (fun p hp => by simp only [List.mem_cons] at hp ⊢; grind))))
  have s15 : ∀ Y, Ev B w (.pointer none) [] ((ga, bxL A) :: (gb, bxL Bb) :: (gc, bxL C) :: (gd, bxL D) :: bx) Y → wpAny Try.prog .any opsW14 Q 4 #[true, true, true, true, false, false, false, false] ⟨#[c0, c1, c2, c3, c4, c5, .pointer (some ⟨ga, 0, none⟩), .pointer (some ⟨gb, 0, none⟩), .pointer (some ⟨gc, 0, none⟩), .pointer (some ⟨gd, 0, none⟩), c10, c11, c12, c13, c14, c15, c16, c17, c18, c19, c20, c21, c22, c23, c24, c25, c26, c27, c28, c29, c30, c31, c32, c33, c34, c35, c36, c37, c38, c39, c40, c41, c42, c43, c44, c45, .agg (VI .i64 C), .agg (VI .i64 D), .agg (VI .i64 A), .agg (VI .i64 Bb), c50, c51, c52, c53, c54], []⟩ Y := by
    intro Y hY
    refine wpAny_all (rs := [4]) (by kernel_rfl) (by simp) ?_
    simp only [List.mem_cons, List.not_mem_nil, or_false, forall_eq_or_imp, forall_eq]
    exact wpOp_stN opsW14_4 (by kernel_rfl) (by kernel_rfl) (hY.row (g := ga) (x := bxL A) (by simp)) l_A.out l_C.out (wpAny_as (by kernel_rfl) (by kernel_rfl) (s31 _ (
      have hP : Ev B w (.pointer none) [] ((ga, bxL A) :: (gb, bxL Bb) :: (gc, bxL C) :: (gd, bxL D) :: bx) Y := hY.sub (fun p hp => by simp only [List.mem_cons] at hp ⊢; grind)
      have hE := hP.set rfl (by simp only [List.mem_cons, forall_eq_or_imp]; exact ⟨(Ne.symm nab), (Ne.symm nac), (Ne.symm nad), ea⟩) (but_setCells ga (C.map (Value.int .i64)) 0 Y) (whole_setN (hP.row (g := ga) (x := bxL A) (by simp)) (by rw [l_A.out, l_C.out]))
      hE.sub (fun p hp => by simp only [List.mem_cons] at hp ⊢; grind))))
  have s29 : ∀ Y, Ev B w (.pointer none) [] ((ga, bxL C) :: (gb, bxL Bb) :: (gc, bxL C) :: (gd, bxL D) :: bx) Y → wpAny Try.prog .any opsW14 Q 4 #[true, false, true, true, true, false, false, false] ⟨#[c0, c1, c2, c3, c4, c5, .pointer (some ⟨ga, 0, none⟩), .pointer (some ⟨gb, 0, none⟩), .pointer (some ⟨gc, 0, none⟩), .pointer (some ⟨gd, 0, none⟩), c10, c11, c12, c13, c14, c15, c16, c17, c18, c19, c20, c21, c22, c23, c24, c25, c26, c27, c28, c29, c30, c31, c32, c33, c34, c35, c36, c37, c38, c39, c40, c41, c42, c43, c44, c45, .agg (VI .i64 C), c47, .agg (VI .i64 A), .agg (VI .i64 Bb), c50, c51, c52, c53, c54], []⟩ Y := by
    intro Y hY
    refine wpAny_all (rs := [1]) (by kernel_rfl) (by simp) ?_
    simp only [List.mem_cons, List.not_mem_nil, or_false, forall_eq_or_imp, forall_eq]
    exact wpOp_ldN opsW14_1 (by kernel_rfl) (hY.row (g := gd) (x := bxL D) (by simp)) l_D.out (wpAny_as (by kernel_rfl) (by kernel_rfl) (s31 Y hY))
  have s14 : ∀ Y, Ev B w (.pointer none) [] ((ga, bxL A) :: (gb, bxL Bb) :: (gc, bxL C) :: (gd, bxL D) :: bx) Y → wpAny Try.prog .any opsW14 Q 5 #[false, true, true, true, false, false, false, false] ⟨#[c0, c1, c2, c3, c4, c5, .pointer (some ⟨ga, 0, none⟩), .pointer (some ⟨gb, 0, none⟩), .pointer (some ⟨gc, 0, none⟩), .pointer (some ⟨gd, 0, none⟩), c10, c11, c12, c13, c14, c15, c16, c17, c18, c19, c20, c21, c22, c23, c24, c25, c26, c27, c28, c29, c30, c31, c32, c33, c34, c35, c36, c37, c38, c39, c40, c41, c42, c43, c44, c45, c46, .agg (VI .i64 D), .agg (VI .i64 A), .agg (VI .i64 Bb), c50, c51, c52, c53, c54], []⟩ Y := by
    intro Y hY
    refine wpAny_all (rs := [0]) (by kernel_rfl) (by simp) ?_
    simp only [List.mem_cons, List.not_mem_nil, or_false, forall_eq_or_imp, forall_eq]
    exact wpOp_ldN opsW14_0 (by kernel_rfl) (hY.row (g := gc) (x := bxL C) (by simp)) l_C.out (wpAny_as (by kernel_rfl) (by kernel_rfl) (s15 Y hY))
  have s13 : ∀ Y, Ev B w (.pointer none) [] ((ga, bxL A) :: (gb, bxL Bb) :: (gc, bxL C) :: (gd, bxL D) :: bx) Y → wpAny Try.prog .any opsW14 Q 5 #[true, false, true, true, false, false, false, false] ⟨#[c0, c1, c2, c3, c4, c5, .pointer (some ⟨ga, 0, none⟩), .pointer (some ⟨gb, 0, none⟩), .pointer (some ⟨gc, 0, none⟩), .pointer (some ⟨gd, 0, none⟩), c10, c11, c12, c13, c14, c15, c16, c17, c18, c19, c20, c21, c22, c23, c24, c25, c26, c27, c28, c29, c30, c31, c32, c33, c34, c35, c36, c37, c38, c39, c40, c41, c42, c43, c44, c45, .agg (VI .i64 C), c47, .agg (VI .i64 A), .agg (VI .i64 Bb), c50, c51, c52, c53, c54], []⟩ Y := by
    intro Y hY
    refine wpAny_all (rs := [1, 4]) (by kernel_rfl) (by simp) ?_
    simp only [List.mem_cons, List.not_mem_nil, or_false, forall_eq_or_imp, forall_eq]
    exact ⟨wpOp_ldN opsW14_1 (by kernel_rfl) (hY.row (g := gd) (x := bxL D) (by simp)) l_D.out (wpAny_as (by kernel_rfl) (by kernel_rfl) (s15 Y hY)),
      wpOp_stN opsW14_4 (by kernel_rfl) (by kernel_rfl) (hY.row (g := ga) (x := bxL A) (by simp)) l_A.out l_C.out (wpAny_as (by kernel_rfl) (by kernel_rfl) (s29 _ (
      have hP : Ev B w (.pointer none) [] ((ga, bxL A) :: (gb, bxL Bb) :: (gc, bxL C) :: (gd, bxL D) :: bx) Y := hY.sub (fun p hp => by simp only [List.mem_cons] at hp ⊢; grind)
      have hE := hP.set rfl (by simp only [List.mem_cons, forall_eq_or_imp]; exact ⟨(Ne.symm nab), (Ne.symm nac), (Ne.symm nad), ea⟩) (but_setCells ga (C.map (Value.int .i64)) 0 Y) (whole_setN (hP.row (g := ga) (x := bxL A) (by simp)) (by rw [l_A.out, l_C.out]))
      hE.sub (fun p hp => by simp only [List.mem_cons] at hp ⊢; grind))))⟩
  have s11 : ∀ Y, Ev B w (.pointer none) [] ((ga, bxL A) :: (gb, bxL Bb) :: (gc, bxL C) :: (gd, bxL D) :: bx) Y → wpAny Try.prog .any opsW14 Q 5 #[true, true, false, true, false, false, false, false] ⟨#[c0, c1, c2, c3, c4, c5, .pointer (some ⟨ga, 0, none⟩), .pointer (some ⟨gb, 0, none⟩), .pointer (some ⟨gc, 0, none⟩), .pointer (some ⟨gd, 0, none⟩), c10, c11, c12, c13, c14, c15, c16, c17, c18, c19, c20, c21, c22, c23, c24, c25, c26, c27, c28, c29, c30, c31, c32, c33, c34, c35, c36, c37, c38, c39, c40, c41, c42, c43, c44, c45, .agg (VI .i64 C), .agg (VI .i64 D), c48, .agg (VI .i64 Bb), c50, c51, c52, c53, c54], []⟩ Y := by
    intro Y hY
    refine wpAny_all (rs := [2]) (by kernel_rfl) (by simp) ?_
    simp only [List.mem_cons, List.not_mem_nil, or_false, forall_eq_or_imp, forall_eq]
    exact wpOp_ldN opsW14_2 (by kernel_rfl) (hY.row (g := ga) (x := bxL A) (by simp)) l_A.out (wpAny_as (by kernel_rfl) (by kernel_rfl) (s15 Y hY))
  have s7 : ∀ Y, Ev B w (.pointer none) [] ((ga, bxL A) :: (gb, bxL Bb) :: (gc, bxL C) :: (gd, bxL D) :: bx) Y → wpAny Try.prog .any opsW14 Q 5 #[true, true, true, false, false, false, false, false] ⟨#[c0, c1, c2, c3, c4, c5, .pointer (some ⟨ga, 0, none⟩), .pointer (some ⟨gb, 0, none⟩), .pointer (some ⟨gc, 0, none⟩), .pointer (some ⟨gd, 0, none⟩), c10, c11, c12, c13, c14, c15, c16, c17, c18, c19, c20, c21, c22, c23, c24, c25, c26, c27, c28, c29, c30, c31, c32, c33, c34, c35, c36, c37, c38, c39, c40, c41, c42, c43, c44, c45, .agg (VI .i64 C), .agg (VI .i64 D), .agg (VI .i64 A), c49, c50, c51, c52, c53, c54], []⟩ Y := by
    intro Y hY
    refine wpAny_all (rs := [3]) (by kernel_rfl) (by simp) ?_
    simp only [List.mem_cons, List.not_mem_nil, or_false, forall_eq_or_imp, forall_eq]
    exact wpOp_ldN opsW14_3 (by kernel_rfl) (hY.row (g := gb) (x := bxL Bb) (by simp)) l_Bb.out (wpAny_as (by kernel_rfl) (by kernel_rfl) (s15 Y hY))
  have s12 : ∀ Y, Ev B w (.pointer none) [] ((ga, bxL A) :: (gb, bxL Bb) :: (gc, bxL C) :: (gd, bxL D) :: bx) Y → wpAny Try.prog .any opsW14 Q 6 #[false, false, true, true, false, false, false, false] ⟨#[c0, c1, c2, c3, c4, c5, .pointer (some ⟨ga, 0, none⟩), .pointer (some ⟨gb, 0, none⟩), .pointer (some ⟨gc, 0, none⟩), .pointer (some ⟨gd, 0, none⟩), c10, c11, c12, c13, c14, c15, c16, c17, c18, c19, c20, c21, c22, c23, c24, c25, c26, c27, c28, c29, c30, c31, c32, c33, c34, c35, c36, c37, c38, c39, c40, c41, c42, c43, c44, c45, c46, c47, .agg (VI .i64 A), .agg (VI .i64 Bb), c50, c51, c52, c53, c54], []⟩ Y := by
    intro Y hY
    refine wpAny_all (rs := [0, 1]) (by kernel_rfl) (by simp) ?_
    simp only [List.mem_cons, List.not_mem_nil, or_false, forall_eq_or_imp, forall_eq]
    exact ⟨wpOp_ldN opsW14_0 (by kernel_rfl) (hY.row (g := gc) (x := bxL C) (by simp)) l_C.out (wpAny_as (by kernel_rfl) (by kernel_rfl) (s13 Y hY)),
      wpOp_ldN opsW14_1 (by kernel_rfl) (hY.row (g := gd) (x := bxL D) (by simp)) l_D.out (wpAny_as (by kernel_rfl) (by kernel_rfl) (s14 Y hY))⟩
  have s10 : ∀ Y, Ev B w (.pointer none) [] ((ga, bxL A) :: (gb, bxL Bb) :: (gc, bxL C) :: (gd, bxL D) :: bx) Y → wpAny Try.prog .any opsW14 Q 6 #[false, true, false, true, false, false, false, false] ⟨#[c0, c1, c2, c3, c4, c5, .pointer (some ⟨ga, 0, none⟩), .pointer (some ⟨gb, 0, none⟩), .pointer (some ⟨gc, 0, none⟩), .pointer (some ⟨gd, 0, none⟩), c10, c11, c12, c13, c14, c15, c16, c17, c18, c19, c20, c21, c22, c23, c24, c25, c26, c27, c28, c29, c30, c31, c32, c33, c34, c35, c36, c37, c38, c39, c40, c41, c42, c43, c44, c45, c46, .agg (VI .i64 D), c48, .agg (VI .i64 Bb), c50, c51, c52, c53, c54], []⟩ Y := by
    intro Y hY
    refine wpAny_all (rs := [0, 2]) (by kernel_rfl) (by simp) ?_
    simp only [List.mem_cons, List.not_mem_nil, or_false, forall_eq_or_imp, forall_eq]
    exact ⟨wpOp_ldN opsW14_0 (by kernel_rfl) (hY.row (g := gc) (x := bxL C) (by simp)) l_C.out (wpAny_as (by kernel_rfl) (by kernel_rfl) (s11 Y hY)),
      wpOp_ldN opsW14_2 (by kernel_rfl) (hY.row (g := ga) (x := bxL A) (by simp)) l_A.out (wpAny_as (by kernel_rfl) (by kernel_rfl) (s14 Y hY))⟩
  have s9 : ∀ Y, Ev B w (.pointer none) [] ((ga, bxL A) :: (gb, bxL Bb) :: (gc, bxL C) :: (gd, bxL D) :: bx) Y → wpAny Try.prog .any opsW14 Q 6 #[true, false, false, true, false, false, false, false] ⟨#[c0, c1, c2, c3, c4, c5, .pointer (some ⟨ga, 0, none⟩), .pointer (some ⟨gb, 0, none⟩), .pointer (some ⟨gc, 0, none⟩), .pointer (some ⟨gd, 0, none⟩), c10, c11, c12, c13, c14, c15, c16, c17, c18, c19, c20, c21, c22, c23, c24, c25, c26, c27, c28, c29, c30, c31, c32, c33, c34, c35, c36, c37, c38, c39, c40, c41, c42, c43, c44, c45, .agg (VI .i64 C), c47, c48, .agg (VI .i64 Bb), c50, c51, c52, c53, c54], []⟩ Y := by
    intro Y hY
    refine wpAny_all (rs := [1, 2]) (by kernel_rfl) (by simp) ?_
    simp only [List.mem_cons, List.not_mem_nil, or_false, forall_eq_or_imp, forall_eq]
    exact ⟨wpOp_ldN opsW14_1 (by kernel_rfl) (hY.row (g := gd) (x := bxL D) (by simp)) l_D.out (wpAny_as (by kernel_rfl) (by kernel_rfl) (s11 Y hY)),
      wpOp_ldN opsW14_2 (by kernel_rfl) (hY.row (g := ga) (x := bxL A) (by simp)) l_A.out (wpAny_as (by kernel_rfl) (by kernel_rfl) (s13 Y hY))⟩
  have s6 : ∀ Y, Ev B w (.pointer none) [] ((ga, bxL A) :: (gb, bxL Bb) :: (gc, bxL C) :: (gd, bxL D) :: bx) Y → wpAny Try.prog .any opsW14 Q 6 #[false, true, true, false, false, false, false, false] ⟨#[c0, c1, c2, c3, c4, c5, .pointer (some ⟨ga, 0, none⟩), .pointer (some ⟨gb, 0, none⟩), .pointer (some ⟨gc, 0, none⟩), .pointer (some ⟨gd, 0, none⟩), c10, c11, c12, c13, c14, c15, c16, c17, c18, c19, c20, c21, c22, c23, c24, c25, c26, c27, c28, c29, c30, c31, c32, c33, c34, c35, c36, c37, c38, c39, c40, c41, c42, c43, c44, c45, c46, .agg (VI .i64 D), .agg (VI .i64 A), c49, c50, c51, c52, c53, c54], []⟩ Y := by
    intro Y hY
    refine wpAny_all (rs := [0, 3]) (by kernel_rfl) (by simp) ?_
    simp only [List.mem_cons, List.not_mem_nil, or_false, forall_eq_or_imp, forall_eq]
    exact ⟨wpOp_ldN opsW14_0 (by kernel_rfl) (hY.row (g := gc) (x := bxL C) (by simp)) l_C.out (wpAny_as (by kernel_rfl) (by kernel_rfl) (s7 Y hY)),
      wpOp_ldN opsW14_3 (by kernel_rfl) (hY.row (g := gb) (x := bxL Bb) (by simp)) l_Bb.out (wpAny_as (by kernel_rfl) (by kernel_rfl) (s14 Y hY))⟩
  have s5 : ∀ Y, Ev B w (.pointer none) [] ((ga, bxL A) :: (gb, bxL Bb) :: (gc, bxL C) :: (gd, bxL D) :: bx) Y → wpAny Try.prog .any opsW14 Q 6 #[true, false, true, false, false, false, false, false] ⟨#[c0, c1, c2, c3, c4, c5, .pointer (some ⟨ga, 0, none⟩), .pointer (some ⟨gb, 0, none⟩), .pointer (some ⟨gc, 0, none⟩), .pointer (some ⟨gd, 0, none⟩), c10, c11, c12, c13, c14, c15, c16, c17, c18, c19, c20, c21, c22, c23, c24, c25, c26, c27, c28, c29, c30, c31, c32, c33, c34, c35, c36, c37, c38, c39, c40, c41, c42, c43, c44, c45, .agg (VI .i64 C), c47, .agg (VI .i64 A), c49, c50, c51, c52, c53, c54], []⟩ Y := by
    intro Y hY
    refine wpAny_all (rs := [1, 3]) (by kernel_rfl) (by simp) ?_
    simp only [List.mem_cons, List.not_mem_nil, or_false, forall_eq_or_imp, forall_eq]
    exact ⟨wpOp_ldN opsW14_1 (by kernel_rfl) (hY.row (g := gd) (x := bxL D) (by simp)) l_D.out (wpAny_as (by kernel_rfl) (by kernel_rfl) (s7 Y hY)),
      wpOp_ldN opsW14_3 (by kernel_rfl) (hY.row (g := gb) (x := bxL Bb) (by simp)) l_Bb.out (wpAny_as (by kernel_rfl) (by kernel_rfl) (s13 Y hY))⟩
  have s3 : ∀ Y, Ev B w (.pointer none) [] ((ga, bxL A) :: (gb, bxL Bb) :: (gc, bxL C) :: (gd, bxL D) :: bx) Y → wpAny Try.prog .any opsW14 Q 6 #[true, true, false, false, false, false, false, false] ⟨#[c0, c1, c2, c3, c4, c5, .pointer (some ⟨ga, 0, none⟩), .pointer (some ⟨gb, 0, none⟩), .pointer (some ⟨gc, 0, none⟩), .pointer (some ⟨gd, 0, none⟩), c10, c11, c12, c13, c14, c15, c16, c17, c18, c19, c20, c21, c22, c23, c24, c25, c26, c27, c28, c29, c30, c31, c32, c33, c34, c35, c36, c37, c38, c39, c40, c41, c42, c43, c44, c45, .agg (VI .i64 C), .agg (VI .i64 D), c48, c49, c50, c51, c52, c53, c54], []⟩ Y := by
    intro Y hY
    refine wpAny_all (rs := [2, 3]) (by kernel_rfl) (by simp) ?_
    simp only [List.mem_cons, List.not_mem_nil, or_false, forall_eq_or_imp, forall_eq]
    exact ⟨wpOp_ldN opsW14_2 (by kernel_rfl) (hY.row (g := ga) (x := bxL A) (by simp)) l_A.out (wpAny_as (by kernel_rfl) (by kernel_rfl) (s7 Y hY)),
      wpOp_ldN opsW14_3 (by kernel_rfl) (hY.row (g := gb) (x := bxL Bb) (by simp)) l_Bb.out (wpAny_as (by kernel_rfl) (by kernel_rfl) (s11 Y hY))⟩
  have s8 : ∀ Y, Ev B w (.pointer none) [] ((ga, bxL A) :: (gb, bxL Bb) :: (gc, bxL C) :: (gd, bxL D) :: bx) Y → wpAny Try.prog .any opsW14 Q 7 #[false, false, false, true, false, false, false, false] ⟨#[c0, c1, c2, c3, c4, c5, .pointer (some ⟨ga, 0, none⟩), .pointer (some ⟨gb, 0, none⟩), .pointer (some ⟨gc, 0, none⟩), .pointer (some ⟨gd, 0, none⟩), c10, c11, c12, c13, c14, c15, c16, c17, c18, c19, c20, c21, c22, c23, c24, c25, c26, c27, c28, c29, c30, c31, c32, c33, c34, c35, c36, c37, c38, c39, c40, c41, c42, c43, c44, c45, c46, c47, c48, .agg (VI .i64 Bb), c50, c51, c52, c53, c54], []⟩ Y := by
    intro Y hY
    refine wpAny_all (rs := [0, 1, 2]) (by kernel_rfl) (by simp) ?_
    simp only [List.mem_cons, List.not_mem_nil, or_false, forall_eq_or_imp, forall_eq]
    exact ⟨wpOp_ldN opsW14_0 (by kernel_rfl) (hY.row (g := gc) (x := bxL C) (by simp)) l_C.out (wpAny_as (by kernel_rfl) (by kernel_rfl) (s9 Y hY)),
      wpOp_ldN opsW14_1 (by kernel_rfl) (hY.row (g := gd) (x := bxL D) (by simp)) l_D.out (wpAny_as (by kernel_rfl) (by kernel_rfl) (s10 Y hY)),
      wpOp_ldN opsW14_2 (by kernel_rfl) (hY.row (g := ga) (x := bxL A) (by simp)) l_A.out (wpAny_as (by kernel_rfl) (by kernel_rfl) (s12 Y hY))⟩
  have s4 : ∀ Y, Ev B w (.pointer none) [] ((ga, bxL A) :: (gb, bxL Bb) :: (gc, bxL C) :: (gd, bxL D) :: bx) Y → wpAny Try.prog .any opsW14 Q 7 #[false, false, true, false, false, false, false, false] ⟨#[c0, c1, c2, c3, c4, c5, .pointer (some ⟨ga, 0, none⟩), .pointer (some ⟨gb, 0, none⟩), .pointer (some ⟨gc, 0, none⟩), .pointer (some ⟨gd, 0, none⟩), c10, c11, c12, c13, c14, c15, c16, c17, c18, c19, c20, c21, c22, c23, c24, c25, c26, c27, c28, c29, c30, c31, c32, c33, c34, c35, c36, c37, c38, c39, c40, c41, c42, c43, c44, c45, c46, c47, .agg (VI .i64 A), c49, c50, c51, c52, c53, c54], []⟩ Y := by
    intro Y hY
    refine wpAny_all (rs := [0, 1, 3]) (by kernel_rfl) (by simp) ?_
    simp only [List.mem_cons, List.not_mem_nil, or_false, forall_eq_or_imp, forall_eq]
    exact ⟨wpOp_ldN opsW14_0 (by kernel_rfl) (hY.row (g := gc) (x := bxL C) (by simp)) l_C.out (wpAny_as (by kernel_rfl) (by kernel_rfl) (s5 Y hY)),
      wpOp_ldN opsW14_1 (by kernel_rfl) (hY.row (g := gd) (x := bxL D) (by simp)) l_D.out (wpAny_as (by kernel_rfl) (by kernel_rfl) (s6 Y hY)),
      wpOp_ldN opsW14_3 (by kernel_rfl) (hY.row (g := gb) (x := bxL Bb) (by simp)) l_Bb.out (wpAny_as (by kernel_rfl) (by kernel_rfl) (s12 Y hY))⟩
  have s2 : ∀ Y, Ev B w (.pointer none) [] ((ga, bxL A) :: (gb, bxL Bb) :: (gc, bxL C) :: (gd, bxL D) :: bx) Y → wpAny Try.prog .any opsW14 Q 7 #[false, true, false, false, false, false, false, false] ⟨#[c0, c1, c2, c3, c4, c5, .pointer (some ⟨ga, 0, none⟩), .pointer (some ⟨gb, 0, none⟩), .pointer (some ⟨gc, 0, none⟩), .pointer (some ⟨gd, 0, none⟩), c10, c11, c12, c13, c14, c15, c16, c17, c18, c19, c20, c21, c22, c23, c24, c25, c26, c27, c28, c29, c30, c31, c32, c33, c34, c35, c36, c37, c38, c39, c40, c41, c42, c43, c44, c45, c46, .agg (VI .i64 D), c48, c49, c50, c51, c52, c53, c54], []⟩ Y := by
    intro Y hY
    refine wpAny_all (rs := [0, 2, 3]) (by kernel_rfl) (by simp) ?_
    simp only [List.mem_cons, List.not_mem_nil, or_false, forall_eq_or_imp, forall_eq]
    exact ⟨wpOp_ldN opsW14_0 (by kernel_rfl) (hY.row (g := gc) (x := bxL C) (by simp)) l_C.out (wpAny_as (by kernel_rfl) (by kernel_rfl) (s3 Y hY)),
      wpOp_ldN opsW14_2 (by kernel_rfl) (hY.row (g := ga) (x := bxL A) (by simp)) l_A.out (wpAny_as (by kernel_rfl) (by kernel_rfl) (s6 Y hY)),
      wpOp_ldN opsW14_3 (by kernel_rfl) (hY.row (g := gb) (x := bxL Bb) (by simp)) l_Bb.out (wpAny_as (by kernel_rfl) (by kernel_rfl) (s10 Y hY))⟩
  have s1 : ∀ Y, Ev B w (.pointer none) [] ((ga, bxL A) :: (gb, bxL Bb) :: (gc, bxL C) :: (gd, bxL D) :: bx) Y → wpAny Try.prog .any opsW14 Q 7 #[true, false, false, false, false, false, false, false] ⟨#[c0, c1, c2, c3, c4, c5, .pointer (some ⟨ga, 0, none⟩), .pointer (some ⟨gb, 0, none⟩), .pointer (some ⟨gc, 0, none⟩), .pointer (some ⟨gd, 0, none⟩), c10, c11, c12, c13, c14, c15, c16, c17, c18, c19, c20, c21, c22, c23, c24, c25, c26, c27, c28, c29, c30, c31, c32, c33, c34, c35, c36, c37, c38, c39, c40, c41, c42, c43, c44, c45, .agg (VI .i64 C), c47, c48, c49, c50, c51, c52, c53, c54], []⟩ Y := by
    intro Y hY
    refine wpAny_all (rs := [1, 2, 3]) (by kernel_rfl) (by simp) ?_
    simp only [List.mem_cons, List.not_mem_nil, or_false, forall_eq_or_imp, forall_eq]
    exact ⟨wpOp_ldN opsW14_1 (by kernel_rfl) (hY.row (g := gd) (x := bxL D) (by simp)) l_D.out (wpAny_as (by kernel_rfl) (by kernel_rfl) (s3 Y hY)),
      wpOp_ldN opsW14_2 (by kernel_rfl) (hY.row (g := ga) (x := bxL A) (by simp)) l_A.out (wpAny_as (by kernel_rfl) (by kernel_rfl) (s5 Y hY)),
      wpOp_ldN opsW14_3 (by kernel_rfl) (hY.row (g := gb) (x := bxL Bb) (by simp)) l_Bb.out (wpAny_as (by kernel_rfl) (by kernel_rfl) (s9 Y hY))⟩
  have s0 : ∀ Y, Ev B w (.pointer none) [] ((ga, bxL A) :: (gb, bxL Bb) :: (gc, bxL C) :: (gd, bxL D) :: bx) Y → wpAny Try.prog .any opsW14 Q 8 #[false, false, false, false, false, false, false, false] ⟨#[c0, c1, c2, c3, c4, c5, .pointer (some ⟨ga, 0, none⟩), .pointer (some ⟨gb, 0, none⟩), .pointer (some ⟨gc, 0, none⟩), .pointer (some ⟨gd, 0, none⟩), c10, c11, c12, c13, c14, c15, c16, c17, c18, c19, c20, c21, c22, c23, c24, c25, c26, c27, c28, c29, c30, c31, c32, c33, c34, c35, c36, c37, c38, c39, c40, c41, c42, c43, c44, c45, c46, c47, c48, c49, c50, c51, c52, c53, c54], []⟩ Y := by
    intro Y hY
    refine wpAny_all (rs := [0, 1, 2, 3]) (by kernel_rfl) (by simp) ?_
    simp only [List.mem_cons, List.not_mem_nil, or_false, forall_eq_or_imp, forall_eq]
    exact ⟨wpOp_ldN opsW14_0 (by kernel_rfl) (hY.row (g := gc) (x := bxL C) (by simp)) l_C.out (wpAny_as (by kernel_rfl) (by kernel_rfl) (s1 Y hY)),
      wpOp_ldN opsW14_1 (by kernel_rfl) (hY.row (g := gd) (x := bxL D) (by simp)) l_D.out (wpAny_as (by kernel_rfl) (by kernel_rfl) (s2 Y hY)),
      wpOp_ldN opsW14_2 (by kernel_rfl) (hY.row (g := ga) (x := bxL A) (by simp)) l_A.out (wpAny_as (by kernel_rfl) (by kernel_rfl) (s4 Y hY)),
      wpOp_ldN opsW14_3 (by kernel_rfl) (hY.row (g := gb) (x := bxL Bb) (by simp)) l_Bb.out (wpAny_as (by kernel_rfl) (by kernel_rfl) (s8 Y hY))⟩
  rw [rgW14_is]
  exact wp_region_any (by kernel_rfl) (wpAny_fuel (by kernel_rfl) (by kernel_rfl) (s0 _ XX.drew))
end Go.Proofs.Ytlffamcifahbjaa
