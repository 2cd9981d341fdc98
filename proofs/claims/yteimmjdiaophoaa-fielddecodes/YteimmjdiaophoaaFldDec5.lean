import Derived.Test.YteimmjdiaophoaaFldDc
namespace Go.Proofs.Yteimmjdiaophoaa
set_option linter.unusedSimpArgs false
set_option linter.unusedVariables false
open Go.ChangeShapes Go.WideShapes Go.ChangeAt Go.RowKit Go.Pin Go.Fld
def findRegD (n : Nat) : Code → Option Code
  | .region i ops d => if i = n then some (.region i ops d) else none
  | .seq a b => match findRegD n a with
    | some c => some c
    | none => findRegD n b
  | .block _ c => findRegD n c
  | .loop c => findRegD n c
  | .scope c => findRegD n c
  | .cond _ a b => match findRegD n a with
    | some c => some c
    | none => findRegD n b
  | _ => none
noncomputable def rgD5 : Code := ((Try.f5.body.bind (findRegD 5)).getD .skip)
theorem wp_asD {P : Program} {c c' : Code} {Q : Exit → Act → World → Prop} {a : Act} {w : World} (h : c = c') (hc : Code.wp P c' Q a w) : Code.wp P c Q a w := by rw [h]; exact hc
set_option maxRecDepth 100000 in
set_option maxHeartbeats 8000000 in
theorem dec_r5 {Q : Exit → Act → World → Prop} {W : World} {bm tx : List Int} {g3 g4 g5 : Nat} {v31 a0 a1 a2 a3 a4 b0 b1 b2 b3 b4 d0 d1 d2 d3 d4 : Int} {c0 c1 c2 c6 c7 c8 c9 c10 c11 c12 c13 c14 c15 c16 c17 c18 c19 c20 c21 c22 c23 c24 c25 c26 c27 c28 c29 c30 c31 c32 c33 c34 c35 c36 c37 c38 c39 c40 c41 c42 c43 c44 c45 c46 c47 c48 c49 c50 c51 c52 c53 c54 c55 c56 c57 c58 c59 c60 c61 c62 c63 c64 c65 c66 c67 c68 c69 : Value}
    (KM : Hid (Key32 bm))
    (KT : Hid (Key32 tx))
    (HV31 : Hid (bm.getD 31 0 = v31))
    (v0 : 0 ≤ v31)
    (v1 : v31 < 128)
    (qg : decide (128 ≤ v31) = false)
    (R3 : Hid (rowB W g3 bm 40))
    (R4 : Hid (rowAt W g4 [a0, a1, a2, a3, a4] 27))
    (R5 : Hid (rowB W g5 tx 40))
    (CEa : Hid (∀ w, Calls Try.prog 19 #[.agg #[.int .u64 a0, .int .u64 a1, .int .u64 a2, .int .u64 a3, .int .u64 a4]] w fun e w' => e = .returned (.agg (VI .u8 bm)) ∧ Below w.heap.size w w'))
    (CDt : Hid (∀ w, Calls Try.prog 18 #[.agg (VI .u8 tx)] w fun e w' => e = .returned (.agg #[.int .u64 b0, .int .u64 b1, .int .u64 b2, .int .u64 b3, .int .u64 b4]) ∧ Below w.heap.size w w'))
    (CEb : Hid (∀ w, Calls Try.prog 19 #[.agg #[.int .u64 b0, .int .u64 b1, .int .u64 b2, .int .u64 b3, .int .u64 b4]] w fun e w' => e = .returned (.agg (VI .u8 bm)) ∧ Below w.heap.size w w'))
    (CDm : Hid (∀ w, Calls Try.prog 18 #[.agg (VI .u8 bm)] w fun e w' => e = .returned (.agg #[.int .u64 d0, .int .u64 d1, .int .u64 d2, .int .u64 d3, .int .u64 d4]) ∧ Below w.heap.size w w'))
    (CEd : Hid (∀ w, Calls Try.prog 19 #[.agg #[.int .u64 d0, .int .u64 d1, .int .u64 d2, .int .u64 d3, .int .u64 d4]] w fun e w' => e = .returned (.agg (VI .u8 bm)) ∧ Below w.heap.size w w'))
    (qq : ∀ w, (Op.equalIn 10000 40 (.agg (VI .u8 bm)) (.agg (VI .u8 bm))).run Try.prog w = .ok true w)
    (H : ∀ W', Below W.heap.size W W' → Q .normal ⟨#[c0, c1, c2, .pointer (some ⟨g3, 0, none⟩), .pointer (some ⟨g4, 0, none⟩), .pointer (some ⟨g5, 0, none⟩), c6, c7, c8, c9, c10, c11, c12, c13, c14, c15, c16, c17, c18, .agg #[.int .u64 a0, .int .u64 a1, .int .u64 a2, .int .u64 a3, .int .u64 a4], .agg (VI .u8 bm), .agg (VI .u8 bm), .bool false, .bool false, .agg (VI .u8 tx), .agg #[.int .u64 b0, .int .u64 b1, .int .u64 b2, .int .u64 b3, .int .u64 b4], .agg (VI .u8 bm), .agg (VI .u8 bm), .bool false, .bool false, .bool false, .agg (VI .u8 bm), .agg #[.int .u64 d0, .int .u64 d1, .int .u64 d2, .int .u64 d3, .int .u64 d4], .agg (VI .u8 bm), .agg (VI .u8 bm), .bool false, .bool false, .bool false, .pointer (some ⟨g3, 31, none⟩), .int .u8 v31, .bool false, .bool false, .bool false, .agg #[.int .u64 a0, .int .u64 a1, .int .u64 a2, .int .u64 a3, .int .u64 a4], .agg (VI .u8 bm), .agg (VI .u8 bm), .bool false, .bool false, c48, c49, c50, c51, c52, c53, c54, c55, c56, c57, c58, c59, c60, c61, c62, c63, c64, c65, c66, c67, c68, c69], []⟩ W') :
    Code.wp Try.prog rgD5 Q ⟨#[c0, c1, c2, .pointer (some ⟨g3, 0, none⟩), .pointer (some ⟨g4, 0, none⟩), .pointer (some ⟨g5, 0, none⟩), c6, c7, c8, c9, c10, c11, c12, c13, c14, c15, c16, c17, c18, c19, c20, c21, c22, c23, c24, c25, c26, c27, c28, c29, c30, c31, c32, c33, c34, c35, c36, c37, c38, c39, c40, c41, c42, c43, c44, c45, c46, c47, c48, c49, c50, c51, c52, c53, c54, c55, c56, c57, c58, c59, c60, c61, c62, c63, c64, c65, c66, c67, c68, c69], []⟩ W := by
  have HH : Hid (∀ W', Below W.heap.size W W' → Q .normal ⟨#[c0, c1, c2, .pointer (some ⟨g3, 0, none⟩), .pointer (some ⟨g4, 0, none⟩), .pointer (some ⟨g5, 0, none⟩), c6, c7, c8, c9, c10, c11, c12, c13, c14, c15, c16, c17, c18, .agg #[.int .u64 a0, .int .u64 a1, .int .u64 a2, .int .u64 a3, .int .u64 a4], .agg (VI .u8 bm), .agg (VI .u8 bm), .bool false, .bool false, .agg (VI .u8 tx), .agg #[.int .u64 b0, .int .u64 b1, .int .u64 b2, .int .u64 b3, .int .u64 b4], .agg (VI .u8 bm), .agg (VI .u8 bm), .bool false, .bool false, .bool false, .agg (VI .u8 bm), .agg #[.int .u64 d0, .int .u64 d1, .int .u64 d2, .int .u64 d3, .int .u64 d4], .agg (VI .u8 bm), .agg (VI .u8 bm), .bool false, .bool false, .bool false, .pointer (some ⟨g3, 31, none⟩), .int .u8 v31, .bool false, .bool false, .bool false, .agg #[.int .u64 a0, .int .u64 a1, .int .u64 a2, .int .u64 a3, .int .u64 a4], .agg (VI .u8 bm), .agg (VI .u8 bm), .bool false, .bool false, c48, c49, c50, c51, c52, c53, c54, c55, c56, c57, c58, c59, c60, c61, c62, c63, c64, c65, c66, c67, c68, c69], []⟩ W') := H
  clear H
  conv => arg 2; whnf
  refine wp_region_quiet_in (C := fun Y => Below W.heap.size W Y) (by kernel_rfl) (by kernel_rfl) ((Below.refl _ _).drew) ?_
  refine wpQuiet_step (fun K hK => ?_)
  refine if_pos_mpr (by kernel_rfl) ⟨.agg #[.int .u64 a0, .int .u64 a1, .int .u64 a2, .int .u64 a3, .int .u64 a4], fun Y hY => ?_, hK _ ?_⟩
  · obtain ⟨d0, d1, d2, d3, d4⟩ := cells5 (row_below R4.out hY)
    go_simp
  clear hK K
  try simp only [Act.put, List.setIfInBounds_toArray, List.set_cons_zero, List.set_cons_succ]
  refine wpQuiet_step (fun K hK => ?_)
  refine if_pos_mpr (by kernel_rfl) ⟨.agg (VI .u8 bm), fun Y hY => ?_, hK _ ?_⟩
  · go_simp
    exact (CEa.out Y).mono fun e w' hh => ⟨hh.1, hY.trans (hh.2.mono hY.size)⟩
  clear hK K
  try simp only [Act.put, List.setIfInBounds_toArray, List.set_cons_zero, List.set_cons_succ]
  refine wpQuiet_step (fun K hK => ?_)
  refine if_pos_mpr (by kernel_rfl) ⟨.agg (VI .u8 bm), fun Y hY => quietAt_load_row 40 (.tmp 3) rfl (g3) rfl 40 (VI .u8 bm) (0, 0) _ ((hY.block _ (Array.getElem?_eq_some_iff.1 R3.out).1).trans R3.out) Try.underlying40 rfl (KM.out).info, hK _ ?_⟩
  clear hK K
  try simp only [Act.put, List.setIfInBounds_toArray, List.set_cons_zero, List.set_cons_succ]
  refine wpQuiet_step (fun K hK => ?_)
  go_simp
  first | refine hK _ ?_ | refine ⟨_, fun _ _ => rfl, hK _ ?_⟩
  clear hK K
  refine wpQuiet_step (fun K hK => ?_)
  go_simp
  first | refine hK _ ?_ | refine ⟨_, fun _ _ => rfl, hK _ ?_⟩
  clear hK K
  refine wpQuiet_step (fun K hK => ?_)
  refine if_pos_mpr (by kernel_rfl) ⟨.agg (VI .u8 tx), fun Y hY => quietAt_load_row 40 (.tmp 5) rfl (g5) rfl 40 (VI .u8 tx) (0, 0) _ ((hY.block _ (Array.getElem?_eq_some_iff.1 R5.out).1).trans R5.out) Try.underlying40 rfl (KT.out).info, hK _ ?_⟩
  clear hK K
  try simp only [Act.put, List.setIfInBounds_toArray, List.set_cons_zero, List.set_cons_succ]
  refine wpQuiet_step (fun K hK => ?_)
  refine if_pos_mpr (by kernel_rfl) ⟨.agg #[.int .u64 b0, .int .u64 b1, .int .u64 b2, .int .u64 b3, .int .u64 b4], fun Y hY => ?_, hK _ ?_⟩
  · go_simp
    exact (CDt.out Y).mono fun e w' hh => ⟨hh.1, hY.trans (hh.2.mono hY.size)⟩
  clear hK K
  try simp only [Act.put, List.setIfInBounds_toArray, List.set_cons_zero, List.set_cons_succ]
  refine wpQuiet_step (fun K hK => ?_)
  refine if_pos_mpr (by kernel_rfl) ⟨.agg (VI .u8 bm), fun Y hY => ?_, hK _ ?_⟩
  · go_simp
    exact (CEb.out Y).mono fun e w' hh => ⟨hh.1, hY.trans (hh.2.mono hY.size)⟩
  clear hK K
  try simp only [Act.put, List.setIfInBounds_toArray, List.set_cons_zero, List.set_cons_succ]
  refine wpQuiet_step (fun K hK => ?_)
  refine if_pos_mpr (by kernel_rfl) ⟨.agg (VI .u8 bm), fun Y hY => quietAt_load_row 40 (.tmp 3) rfl (g3) rfl 40 (VI .u8 bm) (0, 0) _ ((hY.block _ (Array.getElem?_eq_some_iff.1 R3.out).1).trans R3.out) Try.underlying40 rfl (KM.out).info, hK _ ?_⟩
  clear hK K
  try simp only [Act.put, List.setIfInBounds_toArray, List.set_cons_zero, List.set_cons_succ]
  refine wpQuiet_step (fun K hK => ?_)
  go_simp
  first | refine hK _ ?_ | refine ⟨_, fun _ _ => rfl, hK _ ?_⟩
  clear hK K
  refine wpQuiet_step (fun K hK => ?_)
  go_simp
  first | refine hK _ ?_ | refine ⟨_, fun _ _ => rfl, hK _ ?_⟩
  clear hK K
  refine wpQuiet_step (fun K hK => ?_)
  go_simp
  first | refine hK _ ?_ | refine ⟨_, fun _ _ => rfl, hK _ ?_⟩
  clear hK K
  refine wpQuiet_step (fun K hK => ?_)
  refine if_pos_mpr (by kernel_rfl) ⟨.agg (VI .u8 bm), fun Y hY => quietAt_load_row 40 (.tmp 3) rfl (g3) rfl 40 (VI .u8 bm) (0, 0) _ ((hY.block _ (Array.getElem?_eq_some_iff.1 R3.out).1).trans R3.out) Try.underlying40 rfl (KM.out).info, hK _ ?_⟩
  clear hK K
  try simp only [Act.put, List.setIfInBounds_toArray, List.set_cons_zero, List.set_cons_succ]
  refine wpQuiet_step (fun K hK => ?_)
  refine if_pos_mpr (by kernel_rfl) ⟨.agg #[.int .u64 d0, .int .u64 d1, .int .u64 d2, .int .u64 d3, .int .u64 d4], fun Y hY => ?_, hK _ ?_⟩
  · go_simp
    exact (CDm.out Y).mono fun e w' hh => ⟨hh.1, hY.trans (hh.2.mono hY.size)⟩
  clear hK K
  try simp only [Act.put, List.setIfInBounds_toArray, List.set_cons_zero, List.set_cons_succ]
  refine wpQuiet_step (fun K hK => ?_)
  refine if_pos_mpr (by kernel_rfl) ⟨.agg (VI .u8 bm), fun Y hY => ?_, hK _ ?_⟩
  · go_simp
    exact (CEd.out Y).mono fun e w' hh => ⟨hh.1, hY.trans (hh.2.mono hY.size)⟩
  clear hK K
  try simp only [Act.put, List.setIfInBounds_toArray, List.set_cons_zero, List.set_cons_succ]
  refine wpQuiet_step (fun K hK => ?_)
  refine if_pos_mpr (by kernel_rfl) ⟨.agg (VI .u8 bm), fun Y hY => quietAt_load_row 40 (.tmp 3) rfl (g3) rfl 40 (VI .u8 bm) (0, 0) _ ((hY.block _ (Array.getElem?_eq_some_iff.1 R3.out).1).trans R3.out) Try.underlying40 rfl (KM.out).info, hK _ ?_⟩
  clear hK K
  try simp only [Act.put, List.setIfInBounds_toArray, List.set_cons_zero, List.set_cons_succ]
  refine wpQuiet_step (fun K hK => ?_)
  go_simp
  first | refine hK _ ?_ | refine ⟨_, fun _ _ => rfl, hK _ ?_⟩
  clear hK K
  refine wpQuiet_step (fun K hK => ?_)
  go_simp
  first | refine hK _ ?_ | refine ⟨_, fun _ _ => rfl, hK _ ?_⟩
  clear hK K
  refine wpQuiet_step (fun K hK => ?_)
  go_simp
  first | refine hK _ ?_ | refine ⟨_, fun _ _ => rfl, hK _ ?_⟩
  clear hK K
  refine wpQuiet_step (fun K hK => ?_)
  go_simp
  first | refine hK _ ?_ | refine ⟨_, fun _ _ => rfl, hK _ ?_⟩
  clear hK K
  refine wpQuiet_step (fun K hK => ?_)
  refine if_pos_mpr (by kernel_rfl) ⟨.int .u8 v31, fun Y hY => ?_, hK _ ?_⟩
  · have hc := ((hY.cell (p := ⟨g3, 31, none⟩) (Array.getElem?_eq_some_iff.1 R3.out).1).trans (rowB_cell R3.out (i := 31) (by rw [KM.out.len]; decide)))
    rw [HV31.out] at hc
    go_simp
  clear hK K
  try simp only [Act.put, List.setIfInBounds_toArray, List.set_cons_zero, List.set_cons_succ]
  refine wpQuiet_step (fun K hK => ?_)
  go_simp
  first | refine hK _ ?_ | refine ⟨_, fun _ _ => rfl, hK _ ?_⟩
  clear hK K
  refine wpQuiet_step (fun K hK => ?_)
  go_simp
  first | refine hK _ ?_ | refine ⟨_, fun _ _ => rfl, hK _ ?_⟩
  clear hK K
  refine wpQuiet_step (fun K hK => ?_)
  go_simp
  first | refine hK _ ?_ | refine ⟨_, fun _ _ => rfl, hK _ ?_⟩
  clear hK K
  refine wpQuiet_step (fun K hK => ?_)
  refine if_pos_mpr (by kernel_rfl) ⟨.agg #[.int .u64 a0, .int .u64 a1, .int .u64 a2, .int .u64 a3, .int .u64 a4], fun Y hY => ?_, hK _ ?_⟩
  · obtain ⟨d0, d1, d2, d3, d4⟩ := cells5 (row_below R4.out hY)
    go_simp
  clear hK K
  try simp only [Act.put, List.setIfInBounds_toArray, List.set_cons_zero, List.set_cons_succ]
  refine wpQuiet_step (fun K hK => ?_)
  refine if_pos_mpr (by kernel_rfl) ⟨.agg (VI .u8 bm), fun Y hY => ?_, hK _ ?_⟩
  · go_simp
    exact (CEa.out Y).mono fun e w' hh => ⟨hh.1, hY.trans (hh.2.mono hY.size)⟩
  clear hK K
  try simp only [Act.put, List.setIfInBounds_toArray, List.set_cons_zero, List.set_cons_succ]
  refine wpQuiet_step (fun K hK => ?_)
  refine if_pos_mpr (by kernel_rfl) ⟨.agg (VI .u8 bm), fun Y hY => quietAt_load_row 40 (.tmp 3) rfl (g3) rfl 40 (VI .u8 bm) (0, 0) _ ((hY.block _ (Array.getElem?_eq_some_iff.1 R3.out).1).trans R3.out) Try.underlying40 rfl (KM.out).info, hK _ ?_⟩
  clear hK K
  try simp only [Act.put, List.setIfInBounds_toArray, List.set_cons_zero, List.set_cons_succ]
  refine wpQuiet_step (fun K hK => ?_)
  go_simp
  first | refine hK _ ?_ | refine ⟨_, fun _ _ => rfl, hK _ ?_⟩
  clear hK K
  refine wpQuiet_step (fun K hK => ?_)
  go_simp
  first | refine hK _ ?_ | refine ⟨_, fun _ _ => rfl, hK _ ?_⟩
  clear hK K
  refine wpQuiet_nil ?_
  exact fun W' hb => HH.out W' hb
end Go.Proofs.Yteimmjdiaophoaa
