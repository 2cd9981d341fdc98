import Derived.Deep.RegionHeld3
import Derived.Test.YtlffamcifahbjaaMgay
namespace Go.Proofs.Ytlffamcifahbjaa
set_option linter.unusedSimpArgs false
set_option linter.unusedVariables false
open Go.ChangeShapes Go.WideShapes Go.ChangeAt Go.RowKit Go.Pin Go.Fld
noncomputable def rgT11 : Code := ((Try.f33.body.bind (findReg 11)).getD .skip)
set_option maxRecDepth 100000 in
set_option maxHeartbeats 8000000 in
theorem step_r11 {Q : Exit → Act → World → Prop} {B : Nat} {w W : World} {bx : List (Nat × Obj)} {gdi ge gm gpp gqq gsu gx r0 r1 r2 r3 : Nat} {ad dd di e mo oa ob oc od pp qq su x : List Int}  {c0 c1 c2 c3 c4 c6 c7 c8 c9 c14 c15 c16 c17 c24 c25 c26 c27 c28 c29 c30 c31 c32 c33 c34 c35 c36 c37 c38 c39 c40 c41 c42 c43 c44 c45 c46 c47 c48 c49 c50 c51 c52 c53 c54 c55 c56 c57 c58 c59 c60 c61 c62 c63 c64 c65 c66 c67 c68 c69 c70 c71 c72 : Value}
    (l_di : Hid (di.length = 16)) (l_e : Hid (e.length = 16)) (l_mo : Hid (mo.length = 16)) (l_oa : Hid (oa.length = 16)) (l_ob : Hid (ob.length = 16)) (l_oc : Hid (oc.length = 16)) (l_od : Hid (od.length = 16)) (l_pp : Hid (pp.length = 16)) (l_qq : Hid (qq.length = 16)) (l_su : Hid (su.length = 16)) (l_x : Hid (x.length = 16))
    (HC_2 : Hid (∀ w, Calls Try.prog 35 #[.agg (VI .i64 pp), .agg (VI .i64 qq)] w fun e w' => e = .returned (.agg (VI .i64 oa)) ∧ Below w.heap.size w w'))
    (HC_6 : Hid (∀ w, Calls Try.prog 51 #[.agg (VI .i64 pp), .agg (VI .i64 mo)] w fun e w' => e = .returned (.agg (VI .i64 ad)) ∧ Below w.heap.size w w'))
    (HC_7 : Hid (∀ w, Calls Try.prog 35 #[.agg (VI .i64 e), .agg (VI .i64 ad)] w fun e w' => e = .returned (.agg (VI .i64 ob)) ∧ Below w.heap.size w w'))
    (HC_10 : Hid (∀ w, Calls Try.prog 35 #[.agg (VI .i64 su), .agg (VI .i64 su)] w fun e w' => e = .returned (.agg (VI .i64 oc)) ∧ Below w.heap.size w w'))
    (HC_14 : Hid (∀ w, Calls Try.prog 35 #[.agg (VI .i64 di), .agg (VI .i64 di)] w fun e w' => e = .returned (.agg (VI .i64 dd)) ∧ Below w.heap.size w w'))
    (HC_15 : Hid (∀ w, Calls Try.prog 35 #[.agg (VI .i64 x), .agg (VI .i64 dd)] w fun e w' => e = .returned (.agg (VI .i64 od)) ∧ Below w.heap.size w w'))
    (m_gdi : (gdi, bxL di) ∈ bx) (m_ge : (ge, bxL e) ∈ bx) (m_gm : (gm, bxL mo) ∈ bx) (m_gpp : (gpp, bxL pp) ∈ bx) (m_gqq : (gqq, bxL qq) ∈ bx) (m_gsu : (gsu, bxL su) ∈ bx) (m_gx : (gx, bxL x) ∈ bx)
    (NE : Hid (r0 ≠ r1 ∧ r0 ≠ r2 ∧ r0 ≠ r3 ∧ r1 ≠ r2 ∧ r1 ≠ r3 ∧ r2 ≠ r3 ∧ (∀ p ∈ bx, p.1 ≠ r0) ∧ (∀ p ∈ bx, p.1 ≠ r1) ∧ (∀ p ∈ bx, p.1 ≠ r2) ∧ (∀ p ∈ bx, p.1 ≠ r3)))
    (XX : Ev B w (.pointer none) [] ((r0, bxL (List.replicate 16 0)) :: (r1, bxL (List.replicate 16 0)) :: (r2, bxL (List.replicate 16 0)) :: (r3, bxL (List.replicate 16 0)) :: bx) W)
    (HPN : ∀ c (a : Act) d v w, Q (.panic c) (a.put d v) w → Q (.panic c) a w)
    (H : ∀ W', Ev B w (.pointer none) [] ((r0, bxL oa) :: (r1, bxL ob) :: (r2, bxL oc) :: (r3, bxL od) :: bx) W' → Q .normal ⟨#[c0, c1, c2, c3, c4, .pointer (some ⟨gx, 0, none⟩), c6, c7, c8, c9, .pointer (some ⟨r0, 0, none⟩), .pointer (some ⟨r1, 0, none⟩), .pointer (some ⟨r2, 0, none⟩), .pointer (some ⟨r3, 0, none⟩), c14, c15, c16, c17, .pointer (some ⟨gpp, 0, none⟩), .pointer (some ⟨gqq, 0, none⟩), .pointer (some ⟨ge, 0, none⟩), .pointer (some ⟨gsu, 0, none⟩), .pointer (some ⟨gdi, 0, none⟩), .pointer (some ⟨gm, 0, none⟩), c24, c25, c26, c27, c28, c29, c30, c31, c32, c33, c34, c35, c36, c37, c38, c39, c40, c41, c42, c43, c44, c45, c46, c47, c48, c49, c50, c51, c52, c53, c54, c55, c56, .agg (VI .i64 pp), .agg (VI .i64 qq), .agg (VI .i64 oa), .agg (VI .i64 e), .agg (VI .i64 pp), .agg (VI .i64 mo), .agg (VI .i64 ad), .agg (VI .i64 ob), .agg (VI .i64 su), .agg (VI .i64 su), .agg (VI .i64 oc), .agg (VI .i64 x), .agg (VI .i64 di), .agg (VI .i64 di), .agg (VI .i64 dd), .agg (VI .i64 od)], []⟩ W') :
    Code.wp Try.prog rgT11 Q ⟨#[c0, c1, c2, c3, c4, .pointer (some ⟨gx, 0, none⟩), c6, c7, c8, c9, .pointer (some ⟨r0, 0, none⟩), .pointer (some ⟨r1, 0, none⟩), .pointer (some ⟨r2, 0, none⟩), .pointer (some ⟨r3, 0, none⟩), c14, c15, c16, c17, .pointer (some ⟨gpp, 0, none⟩), .pointer (some ⟨gqq, 0, none⟩), .pointer (some ⟨ge, 0, none⟩), .pointer (some ⟨gsu, 0, none⟩), .pointer (some ⟨gdi, 0, none⟩), .pointer (some ⟨gm, 0, none⟩), c24, c25, c26, c27, c28, c29, c30, c31, c32, c33, c34, c35, c36, c37, c38, c39, c40, c41, c42, c43, c44, c45, c46, c47, c48, c49, c50, c51, c52, c53, c54, c55, c56, c57, c58, c59, c60, c61, c62, c63, c64, c65, c66, c67, c68, c69, c70, c71, c72], []⟩ W := by
  have HH : Hid (∀ W', Ev B w (.pointer none) [] ((r0, bxL oa) :: (r1, bxL ob) :: (r2, bxL oc) :: (r3, bxL od) :: bx) W' → Q .normal ⟨#[c0, c1, c2, c3, c4, .pointer (some ⟨gx, 0, none⟩), c6, c7, c8, c9, .pointer (some ⟨r0, 0, none⟩), .pointer (some ⟨r1, 0, none⟩), .pointer (some ⟨r2, 0, none⟩), .pointer (some ⟨r3, 0, none⟩), c14, c15, c16, c17, .pointer (some ⟨gpp, 0, none⟩), .pointer (some ⟨gqq, 0, none⟩), .pointer (some ⟨ge, 0, none⟩), .pointer (some ⟨gsu, 0, none⟩), .pointer (some ⟨gdi, 0, none⟩), .pointer (some ⟨gm, 0, none⟩), c24, c25, c26, c27, c28, c29, c30, c31, c32, c33, c34, c35, c36, c37, c38, c39, c40, c41, c42, c43, c44, c45, c46, c47, c48, c49, c50, c51, c52, c53, c54, c55, c56, .agg (VI .i64 pp), .agg (VI .i64 qq), .agg (VI .i64 oa), .agg (VI .i64 e), .agg (VI .i64 pp), .agg (VI .i64 mo), .agg (VI .i64 ad), .agg (VI .i64 ob), .agg (VI .i64 su), .agg (VI .i64 su), .agg (VI .i64 oc), .agg (VI .i64 x), .agg (VI .i64 di), .agg (VI .i64 di), .agg (VI .i64 dd), .agg (VI .i64 od)], []⟩ W') := H
  clear H
  conv => arg 2; whnf
  refine wp_region_held_drew (S := fun Y => ∃ o0 o1 o2 o3, Ev B w (.pointer none) [] ((r0, o0) :: (r1, o1) :: (r2, o2) :: (r3, o3) :: bx) Y) (by kernel_rfl) ⟨_, _, _, _, XX.drew⟩ (fun hH => ?_)
  have hV := XX.drew
  clear XX
  obtain ⟨V0, hV0⟩ : ∃ V, W.drew = V := ⟨_, rfl⟩
  rw [hV0] at hH hV ⊢
  clear hV0
  refine wpAnyH_take (i := 0) (v := .agg (VI .i64 pp)) rfl (by kernel_rfl) (by kernel_rfl) (by kernel_rfl) (fun _ _ _ h => HPN _ _ _ _ _ h) (yieldsIf_load_row (by kernel_rfl) 65 (.tmp 18) rfl gpp (by kernel_rfl) 65 (VI .i64 pp) (0, 0) _ (fun Y hY => (by obtain ⟨o0, o1, o2, o3, hY⟩ := hY; exact hY.row (g := gpp) (x := bxL pp) (by simp [m_gpp]))) Try.underlying65 rfl (infoNm l_pp.out)) hH ?_
  try simp only [Act.put, List.getElem_toArray, List.getElem_cons_succ, List.getElem_cons_zero, List.getElem?_toArray, List.getElem?_cons_succ, List.getElem?_cons_zero, List.setIfInBounds_toArray, List.set_cons_zero, List.set_cons_succ]
  refine wpAnyH_take (i := 1) (v := .agg (VI .i64 qq)) rfl (by kernel_rfl) (by kernel_rfl) (by kernel_rfl) (fun _ _ _ h => HPN _ _ _ _ _ h) (yieldsIf_load_row (by kernel_rfl) 65 (.tmp 19) rfl gqq (by kernel_rfl) 65 (VI .i64 qq) (0, 0) _ (fun Y hY => (by obtain ⟨o0, o1, o2, o3, hY⟩ := hY; exact hY.row (g := gqq) (x := bxL qq) (by simp [m_gqq]))) Try.underlying65 rfl (infoNm l_qq.out)) hH ?_
  try simp only [Act.put, List.getElem_toArray, List.getElem_cons_succ, List.getElem_cons_zero, List.getElem?_toArray, List.getElem?_cons_succ, List.getElem?_cons_zero, List.setIfInBounds_toArray, List.set_cons_zero, List.set_cons_succ]
  refine wpAnyH_take (i := 3) (v := .agg (VI .i64 e)) rfl (by kernel_rfl) (by kernel_rfl) (by kernel_rfl) (fun _ _ _ h => HPN _ _ _ _ _ h) (yieldsIf_load_row (by kernel_rfl) 65 (.tmp 20) rfl ge (by kernel_rfl) 65 (VI .i64 e) (0, 0) _ (fun Y hY => (by obtain ⟨o0, o1, o2, o3, hY⟩ := hY; exact hY.row (g := ge) (x := bxL e) (by simp [m_ge]))) Try.underlying65 rfl (infoNm l_e.out)) hH ?_
  try simp only [Act.put, List.getElem_toArray, List.getElem_cons_succ, List.getElem_cons_zero, List.getElem?_toArray, List.getElem?_cons_succ, List.getElem?_cons_zero, List.setIfInBounds_toArray, List.set_cons_zero, List.set_cons_succ]
  refine wpAnyH_take (i := 4) (v := .agg (VI .i64 pp)) rfl (by kernel_rfl) (by kernel_rfl) (by kernel_rfl) (fun _ _ _ h => HPN _ _ _ _ _ h) (yieldsIf_load_row (by kernel_rfl) 65 (.tmp 18) rfl gpp (by kernel_rfl) 65 (VI .i64 pp) (0, 0) _ (fun Y hY => (by obtain ⟨o0, o1, o2, o3, hY⟩ := hY; exact hY.row (g := gpp) (x := bxL pp) (by simp [m_gpp]))) Try.underlying65 rfl (infoNm l_pp.out)) hH ?_
  try simp only [Act.put, List.getElem_toArray, List.getElem_cons_succ, List.getElem_cons_zero, List.getElem?_toArray, List.getElem?_cons_succ, List.getElem?_cons_zero, List.setIfInBounds_toArray, List.set_cons_zero, List.set_cons_succ]
  refine wpAnyH_take (i := 5) (v := .agg (VI .i64 mo)) rfl (by kernel_rfl) (by kernel_rfl) (by kernel_rfl) (fun _ _ _ h => HPN _ _ _ _ _ h) (yieldsIf_load_row (by kernel_rfl) 65 (.tmp 23) rfl gm (by kernel_rfl) 65 (VI .i64 mo) (0, 0) _ (fun Y hY => (by obtain ⟨o0, o1, o2, o3, hY⟩ := hY; exact hY.row (g := gm) (x := bxL mo) (by simp [m_gm]))) Try.underlying65 rfl (infoNm l_mo.out)) hH ?_
  try simp only [Act.put, List.getElem_toArray, List.getElem_cons_succ, List.getElem_cons_zero, List.getElem?_toArray, List.getElem?_cons_succ, List.getElem?_cons_zero, List.setIfInBounds_toArray, List.set_cons_zero, List.set_cons_succ]
  refine wpAnyH_take (i := 8) (v := .agg (VI .i64 su)) rfl (by kernel_rfl) (by kernel_rfl) (by kernel_rfl) (fun _ _ _ h => HPN _ _ _ _ _ h) (yieldsIf_load_row (by kernel_rfl) 65 (.tmp 21) rfl gsu (by kernel_rfl) 65 (VI .i64 su) (0, 0) _ (fun Y hY => (by obtain ⟨o0, o1, o2, o3, hY⟩ := hY; exact hY.row (g := gsu) (x := bxL su) (by simp [m_gsu]))) Try.underlying65 rfl (infoNm l_su.out)) hH ?_
  try simp only [Act.put, List.getElem_toArray, List.getElem_cons_succ, List.getElem_cons_zero, List.getElem?_toArray, List.getElem?_cons_succ, List.getElem?_cons_zero, List.setIfInBounds_toArray, List.set_cons_zero, List.set_cons_succ]
  refine wpAnyH_take (i := 9) (v := .agg (VI .i64 su)) rfl (by kernel_rfl) (by kernel_rfl) (by kernel_rfl) (fun _ _ _ h => HPN _ _ _ _ _ h) (yieldsIf_load_row (by kernel_rfl) 65 (.tmp 21) rfl gsu (by kernel_rfl) 65 (VI .i64 su) (0, 0) _ (fun Y hY => (by obtain ⟨o0, o1, o2, o3, hY⟩ := hY; exact hY.row (g := gsu) (x := bxL su) (by simp [m_gsu]))) Try.underlying65 rfl (infoNm l_su.out)) hH ?_
  try simp only [Act.put, List.getElem_toArray, List.getElem_cons_succ, List.getElem_cons_zero, List.getElem?_toArray, List.getElem?_cons_succ, List.getElem?_cons_zero, List.setIfInBounds_toArray, List.set_cons_zero, List.set_cons_succ]
  refine wpAnyH_take (i := 11) (v := .agg (VI .i64 x)) rfl (by kernel_rfl) (by kernel_rfl) (by kernel_rfl) (fun _ _ _ h => HPN _ _ _ _ _ h) (yieldsIf_load_row (by kernel_rfl) 65 (.tmp 5) rfl gx (by kernel_rfl) 65 (VI .i64 x) (0, 0) _ (fun Y hY => (by obtain ⟨o0, o1, o2, o3, hY⟩ := hY; exact hY.row (g := gx) (x := bxL x) (by simp [m_gx]))) Try.underlying65 rfl (infoNm l_x.out)) hH ?_
  try simp only [Act.put, List.getElem_toArray, List.getElem_cons_succ, List.getElem_cons_zero, List.getElem?_toArray, List.getElem?_cons_succ, List.getElem?_cons_zero, List.setIfInBounds_toArray, List.set_cons_zero, List.set_cons_succ]
  refine wpAnyH_take (i := 12) (v := .agg (VI .i64 di)) rfl (by kernel_rfl) (by kernel_rfl) (by kernel_rfl) (fun _ _ _ h => HPN _ _ _ _ _ h) (yieldsIf_load_row (by kernel_rfl) 65 (.tmp 22) rfl gdi (by kernel_rfl) 65 (VI .i64 di) (0, 0) _ (fun Y hY => (by obtain ⟨o0, o1, o2, o3, hY⟩ := hY; exact hY.row (g := gdi) (x := bxL di) (by simp [m_gdi]))) Try.underlying65 rfl (infoNm l_di.out)) hH ?_
  try simp only [Act.put, List.getElem_toArray, List.getElem_cons_succ, List.getElem_cons_zero, List.getElem?_toArray, List.getElem?_cons_succ, List.getElem?_cons_zero, List.setIfInBounds_toArray, List.set_cons_zero, List.set_cons_succ]
  refine wpAnyH_take (i := 13) (v := .agg (VI .i64 di)) rfl (by kernel_rfl) (by kernel_rfl) (by kernel_rfl) (fun _ _ _ h => HPN _ _ _ _ _ h) (yieldsIf_load_row (by kernel_rfl) 65 (.tmp 22) rfl gdi (by kernel_rfl) 65 (VI .i64 di) (0, 0) _ (fun Y hY => (by obtain ⟨o0, o1, o2, o3, hY⟩ := hY; exact hY.row (g := gdi) (x := bxL di) (by simp [m_gdi]))) Try.underlying65 rfl (infoNm l_di.out)) hH ?_
  try simp only [Act.put, List.getElem_toArray, List.getElem_cons_succ, List.getElem_cons_zero, List.getElem?_toArray, List.getElem?_cons_succ, List.getElem?_cons_zero, List.setIfInBounds_toArray, List.set_cons_zero, List.set_cons_succ]
  refine wpAnyH_ready (rs := [2]) (by kernel_rfl) (by simp) (AllReadyH.cons rfl (fun K' hK => ?_) AllReadyH.nil)
  go_simp
  refine (HC_2.out _).mono ?_
  rintro e w0 ⟨rfl, hb⟩
  have hN := hV.below hb
  clear hb
  go_wp2_with fail
  refine hK.out _ _ ⟨_, _, _, _, hN⟩ (fun hH => ?_)
  clear hK K' hV
  have hV := hN
  clear hN
  try simp only [Act.put, List.getElem_toArray, List.getElem_cons_succ, List.getElem_cons_zero, List.getElem?_toArray, List.getElem?_cons_succ, List.getElem?_cons_zero, List.setIfInBounds_toArray, List.set_cons_zero, List.set_cons_succ]
  refine wpAnyH_ready (rs := [6]) (by kernel_rfl) (by simp) (AllReadyH.cons rfl (fun K' hK => ?_) AllReadyH.nil)
  go_simp
  refine (HC_6.out _).mono ?_
  rintro e w1 ⟨rfl, hb⟩
  have hN := hV.below hb
  clear hb
  go_wp2_with fail
  refine hK.out _ _ ⟨_, _, _, _, hN⟩ (fun hH => ?_)
  clear hK K' hV
  have hV := hN
  clear hN
  try simp only [Act.put, List.getElem_toArray, List.getElem_cons_succ, List.getElem_cons_zero, List.getElem?_toArray, List.getElem?_cons_succ, List.getElem?_cons_zero, List.setIfInBounds_toArray, List.set_cons_zero, List.set_cons_succ]
  refine wpAnyH_ready (rs := [7]) (by kernel_rfl) (by simp) (AllReadyH.cons rfl (fun K' hK => ?_) AllReadyH.nil)
  go_simp
  refine (HC_7.out _).mono ?_
  rintro e w2 ⟨rfl, hb⟩
  have hN := hV.below hb
  clear hb
  go_wp2_with fail
  refine hK.out _ _ ⟨_, _, _, _, hN⟩ (fun hH => ?_)
  clear hK K' hV
  have hV := hN
  clear hN
  try simp only [Act.put, List.getElem_toArray, List.getElem_cons_succ, List.getElem_cons_zero, List.getElem?_toArray, List.getElem?_cons_succ, List.getElem?_cons_zero, List.setIfInBounds_toArray, List.set_cons_zero, List.set_cons_succ]
  refine wpAnyH_ready (rs := [10]) (by kernel_rfl) (by simp) (AllReadyH.cons rfl (fun K' hK => ?_) AllReadyH.nil)
  go_simp
  refine (HC_10.out _).mono ?_
  rintro e w3 ⟨rfl, hb⟩
  have hN := hV.below hb
  clear hb
  go_wp2_with fail
  refine hK.out _ _ ⟨_, _, _, _, hN⟩ (fun hH => ?_)
  clear hK K' hV
  have hV := hN
  clear hN
  try simp only [Act.put, List.getElem_toArray, List.getElem_cons_succ, List.getElem_cons_zero, List.getElem?_toArray, List.getElem?_cons_succ, List.getElem?_cons_zero, List.setIfInBounds_toArray, List.set_cons_zero, List.set_cons_succ]
  refine wpAnyH_ready (rs := [14]) (by kernel_rfl) (by simp) (AllReadyH.cons rfl (fun K' hK => ?_) AllReadyH.nil)
  go_simp
  refine (HC_14.out _).mono ?_
  rintro e w4 ⟨rfl, hb⟩
  have hN := hV.below hb
  clear hb
  go_wp2_with fail
  refine hK.out _ _ ⟨_, _, _, _, hN⟩ (fun hH => ?_)
  clear hK K' hV
  have hV := hN
  clear hN
  try simp only [Act.put, List.getElem_toArray, List.getElem_cons_succ, List.getElem_cons_zero, List.getElem?_toArray, List.getElem?_cons_succ, List.getElem?_cons_zero, List.setIfInBounds_toArray, List.set_cons_zero, List.set_cons_succ]
  refine wpAnyH_ready (rs := [15]) (by kernel_rfl) (by simp) (AllReadyH.cons rfl (fun K' hK => ?_) AllReadyH.nil)
  go_simp
  refine (HC_15.out _).mono ?_
  rintro e w5 ⟨rfl, hb⟩
  have hN := hV.below hb
  clear hb
  go_wp2_with fail
  refine hK.out _ _ ⟨_, _, _, _, hN⟩ (fun hH => ?_)
  clear hK K' hV
  have hV := hN
  clear hN
  try simp only [Act.put, List.getElem_toArray, List.getElem_cons_succ, List.getElem_cons_zero, List.getElem?_toArray, List.getElem?_cons_succ, List.getElem?_cons_zero, List.setIfInBounds_toArray, List.set_cons_zero, List.set_cons_succ]
  obtain ⟨d0, d1, d2, d3, d4, d5, e0, e1, e2, e3⟩ := NE.out
  have ND : Hid (r0 ≠ r1 ∧ r0 ≠ r2 ∧ r0 ≠ r3 ∧ r1 ≠ r2 ∧ r1 ≠ r3 ∧ r2 ≠ r3 ∧ True) := ⟨d0, d1, d2, d3, d4, d5, trivial⟩
  refine wpAnyH_ready (rs := [16]) (by kernel_rfl) (by simp) (AllReadyH.cons rfl (fun K' hK => ?_) AllReadyH.nil)
  have hP : Ev B w (.pointer none) [] ((r0, bxL (List.replicate 16 0)) :: (r1, bxL (List.replicate 16 0)) :: (r2, bxL (List.replicate 16 0)) :: (r3, bxL (List.replicate 16 0)) :: bx) w5 := hV.sub (fun p hp => by simp only [List.mem_cons] at hp ⊢; grind)
  have ht := there_mid (hP.row (g := r0) (x := bxL (List.replicate 16 0)) (by simp)) 0 16 (by simp [VI])
  refine if_pos_mpr (by kernel_rfl) (wp_store_mid 65 (.tmp 10) (.tmp 59) rfl r0 0 (VI .i64 oa) (by kernel_rfl) (by kernel_rfl) (by rw [VI_size, l_oa.out]; exact ht) (infoNm l_oa.out) (VI_one _ _) ?_)
  have hE := hP.set rfl (by have := ND.out; simp only [List.mem_cons, forall_eq_or_imp]; exact ⟨(by omega), (by omega), (by omega), e0⟩) (but_setCells r0 (oa.map (Value.int .i64)) 0 w5) (whole_setN (hP.row (g := r0) (x := bxL (List.replicate 16 0)) (by simp)) (by rw [l_oa.out]; rfl))
  obtain ⟨v0, hv0⟩ : ∃ Z, w5.setCells r0 0 (oa.map (Value.int .i64)) = Z := ⟨_, rfl⟩
  rw [hv0] at hE
  rw [show w5.setCells r0 0 (VI .i64 oa).toList = v0 from hv0]
  have hQ : Ev B w (.pointer none) [] ((r0, bxL oa) :: (r1, bxL (List.replicate 16 0)) :: (r2, bxL (List.replicate 16 0)) :: (r3, bxL (List.replicate 16 0)) :: bx) v0 := hE.sub (fun p hp => by simp only [List.mem_cons] at hp ⊢; grind)
  refine hK.out _ _ ⟨_, _, _, _, hQ⟩ (fun hH => ?_)
  clear hK K' hP hE hV ht
  have hV := hQ
  clear hQ
  try simp only [Act.put, List.getElem_toArray, List.getElem_cons_succ, List.getElem_cons_zero, List.getElem?_toArray, List.getElem?_cons_succ, List.getElem?_cons_zero, List.setIfInBounds_toArray, List.set_cons_zero, List.set_cons_succ]
  refine wpAnyH_ready (rs := [17]) (by kernel_rfl) (by simp) (AllReadyH.cons rfl (fun K' hK => ?_) AllReadyH.nil)
  have hP : Ev B w (.pointer none) [] ((r1, bxL (List.replicate 16 0)) :: (r0, bxL oa) :: (r2, bxL (List.replicate 16 0)) :: (r3, bxL (List.replicate 16 0)) :: bx) v0 := hV.sub (fun p hp => by simp only [List.mem_cons] at hp ⊢; grind)
  have ht := there_mid (hP.row (g := r1) (x := bxL (List.replicate 16 0)) (by simp)) 0 16 (by simp [VI])
  refine if_pos_mpr (by kernel_rfl) (wp_store_mid 65 (.tmp 11) (.tmp 64) rfl r1 0 (VI .i64 ob) (by kernel_rfl) (by kernel_rfl) (by rw [VI_size, l_ob.out]; exact ht) (infoNm l_ob.out) (VI_one _ _) ?_)
  have hE := hP.set rfl (by have := ND.out; simp only [List.mem_cons, forall_eq_or_imp]; exact ⟨(by omega), (by omega), (by omega), e1⟩) (but_setCells r1 (ob.map (Value.int .i64)) 0 v0) (whole_setN (hP.row (g := r1) (x := bxL (List.replicate 16 0)) (by simp)) (by rw [l_ob.out]; rfl))
  obtain ⟨v1, hv1⟩ : ∃ Z, v0.setCells r1 0 (ob.map (Value.int .i64)) = Z := ⟨_, rfl⟩
  rw [hv1] at hE
  rw [show v0.setCells r1 0 (VI .i64 ob).toList = v1 from hv1]
  have hQ : Ev B w (.pointer none) [] ((r0, bxL oa) :: (r1, bxL ob) :: (r2, bxL (List.replicate 16 0)) :: (r3, bxL (List.replicate 16 0)) :: bx) v1 := hE.sub (fun p hp => by simp only [List.mem_cons] at hp ⊢; grind)
  refine hK.out _ _ ⟨_, _, _, _, hQ⟩ (fun hH => ?_)
  clear hK K' hP hE hV ht
  have hV := hQ
  clear hQ
  try simp only [Act.put, List.getElem_toArray, List.getElem_cons_succ, List.getElem_cons_zero, List.getElem?_toArray, List.getElem?_cons_succ, List.getElem?_cons_zero, List.setIfInBounds_toArray, List.set_cons_zero, List.set_cons_succ]
  refine wpAnyH_ready (rs := [18]) (by kernel_rfl) (by simp) (AllReadyH.cons rfl (fun K' hK => ?_) AllReadyH.nil)
  have hP : Ev B w (.pointer none) [] ((r2, bxL (List.replicate 16 0)) :: (r0, bxL oa) :: (r1, bxL ob) :: (r3, bxL (List.replicate 16 0)) :: bx) v1 := hV.sub (fun p hp => by simp only [List.mem_cons] at hp ⊢; grind)
  have ht := there_mid (hP.row (g := r2) (x := bxL (List.replicate 16 0)) (by simp)) 0 16 (by simp [VI])
  refine if_pos_mpr (by kernel_rfl) (wp_store_mid 65 (.tmp 12) (.tmp 67) rfl r2 0 (VI .i64 oc) (by kernel_rfl) (by kernel_rfl) (by rw [VI_size, l_oc.out]; exact ht) (infoNm l_oc.out) (VI_one _ _) ?_)
  have hE := hP.set rfl (by have := ND.out; simp only [List.mem_cons, forall_eq_or_imp]; exact ⟨(by omega), (by omega), (by omega), e2⟩) (but_setCells r2 (oc.map (Value.int .i64)) 0 v1) (whole_setN (hP.row (g := r2) (x := bxL (List.replicate 16 0)) (by simp)) (by rw [l_oc.out]; rfl))
  obtain ⟨v2, hv2⟩ : ∃ Z, v1.setCells r2 0 (oc.map (Value.int .i64)) = Z := ⟨_, rfl⟩
  rw [hv2] at hE
  rw [show v1.setCells r2 0 (VI .i64 oc).toList = v2 from hv2]
  have hQ : Ev B w (.pointer none) [] ((r0, bxL oa) :: (r1, bxL ob) :: (r2, bxL oc) :: (r3, bxL (List.replicate 16 0)) :: bx) v2 := hE.sub (fun p hp => by simp only [List.mem_cons] at hp ⊢; grind)
  refine hK.out _ _ ⟨_, _, _, _, hQ⟩ (fun hH => ?_)
  clear hK K' hP hE hV ht
  have hV := hQ
  clear hQ
  try simp only [Act.put, List.getElem_toArray, List.getElem_cons_succ, List.getElem_cons_zero, List.getElem?_toArray, List.getElem?_cons_succ, List.getElem?_cons_zero, List.setIfInBounds_toArray, List.set_cons_zero, List.set_cons_succ]
  refine wpAnyH_ready (rs := [19]) (by kernel_rfl) (by simp) (AllReadyH.cons rfl (fun K' hK => ?_) AllReadyH.nil)
  have hP : Ev B w (.pointer none) [] ((r3, bxL (List.replicate 16 0)) :: (r0, bxL oa) :: (r1, bxL ob) :: (r2, bxL oc) :: bx) v2 := hV.sub (fun p hp => by simp only [List.mem_cons] at hp ⊢; grind)
  have ht := there_mid (hP.row (g := r3) (x := bxL (List.replicate 16 0)) (by simp)) 0 16 (by simp [VI])
  refine if_pos_mpr (by kernel_rfl) (wp_store_mid 65 (.tmp 13) (.tmp 72) rfl r3 0 (VI .i64 od) (by kernel_rfl) (by kernel_rfl) (by rw [VI_size, l_od.out]; exact ht) (infoNm l_od.out) (VI_one _ _) ?_)
  have hE := hP.set rfl (by have := ND.out; simp only [List.mem_cons, forall_eq_or_imp]; exact ⟨(by omega), (by omega), (by omega), e3⟩) (but_setCells r3 (od.map (Value.int .i64)) 0 v2) (whole_setN (hP.row (g := r3) (x := bxL (List.replicate 16 0)) (by simp)) (by rw [l_od.out]; rfl))
  obtain ⟨v3, hv3⟩ : ∃ Z, v2.setCells r3 0 (od.map (Value.int .i64)) = Z := ⟨_, rfl⟩
  rw [hv3] at hE
  rw [show v2.setCells r3 0 (VI .i64 od).toList = v3 from hv3]
  have hQ : Ev B w (.pointer none) [] ((r0, bxL oa) :: (r1, bxL ob) :: (r2, bxL oc) :: (r3, bxL od) :: bx) v3 := hE.sub (fun p hp => by simp only [List.mem_cons] at hp ⊢; grind)
  refine hK.out _ _ ⟨_, _, _, _, hQ⟩ (fun hH => ?_)
  clear hK K' hP hE hV ht
  have hV := hQ
  clear hQ
  try simp only [Act.put, List.getElem_toArray, List.getElem_cons_succ, List.getElem_cons_zero, List.getElem?_toArray, List.getElem?_cons_succ, List.getElem?_cons_zero, List.setIfInBounds_toArray, List.set_cons_zero, List.set_cons_succ]
  refine wpAnyH_done (by kernel_rfl) ?_ _
  try simp only [Act.put, List.getElem_toArray, List.getElem_cons_succ, List.getElem_cons_zero, List.getElem?_toArray, List.getElem?_cons_succ, List.getElem?_cons_zero, List.setIfInBounds_toArray, List.set_cons_zero, List.set_cons_succ]
  exact HH.out _ hV
end Go.Proofs.Ytlffamcifahbjaa
