import Derived.Test.YtfeoamkngnpcmaaPrmBy4
namespace Go.Proofs.Ytfeoamkngnpcmaa
set_option linter.unusedSimpArgs false
set_option linter.unusedVariables false
open Go.ChangeShapes Go.WideShapes Go.ChangeAt Go.RowKit Go.Pin Go.Prm
set_option maxRecDepth 100000 in
set_option maxHeartbeats 8000000 in
theorem byts_r5 {Q : Exit → Act → World → Prop} {W : World}  {ka : List Int} {g4 g5 g6 : Nat} {e12x0 e12x1 e12x2 e12x3 e12x4 e16x0 e16x1 e16x2 e16x3 e16x4 : Int} {c0 c1 c2 c3 c7 c8 c9 c10 c11 c12 c13 c14 c15 c16 c17 c18 c19 c20 c21 c22 c23 c24 c25 c26 c27 c28 c29 c30 c31 c32 c33 c34 c35 c36 c37 c38 c39 c40 c41 c42 : Value}
    (Kka : Hid (Key17 ka))
    (Rg4 : Hid (rowB W g4 ka 39))
    (C18 : Hid (∀ w, Calls Try.prog 18 #[.agg (VI .u8 ka)] w fun e w' => e = .returned (.bool true) ∧ Below w.heap.size w w'))
    (Rg5 : Hid (rowAt W g5 [e12x0, e12x1, e12x2, e12x3, e12x4] 29))
    (C22 : Hid (∀ w, Calls Try.prog 13 #[.agg #[.int .u64 e12x0, .int .u64 e12x1, .int .u64 e12x2, .int .u64 e12x3, .int .u64 e12x4]] w fun e w' => e = .returned (.agg (VI .u8 ka)) ∧ Below w.heap.size w w'))
    (Q1 : ∀ w, (Op.equalIn 10000 39 (.agg (VI .u8 ka)) (.agg (VI .u8 ka))).run Try.prog w = .ok true w)
    (Rg6 : Hid (rowAt W g6 [e16x0, e16x1, e16x2, e16x3, e16x4] 29))
    (C28 : Hid (∀ w, Calls Try.prog 13 #[.agg #[.int .u64 e16x0, .int .u64 e16x1, .int .u64 e16x2, .int .u64 e16x3, .int .u64 e16x4]] w fun e w' => e = .returned (.agg (VI .u8 ka)) ∧ Below w.heap.size w w'))
    (H : ∀ W', Below W.heap.size W W' → Q .normal ⟨#[c0, c1, c2, c3, .pointer (some ⟨g4, 0, none⟩), .pointer (some ⟨g5, 0, none⟩), .pointer (some ⟨g6, 0, none⟩), c7, c8, c9, c10, c11, c12, c13, c14, c15, c16, .agg (VI .u8 ka), .bool true, .bool false, .bool false, .agg #[.int .u64 e12x0, .int .u64 e12x1, .int .u64 e12x2, .int .u64 e12x3, .int .u64 e12x4], .agg (VI .u8 ka), .agg (VI .u8 ka), .bool false, .bool false, .bool false, .agg #[.int .u64 e16x0, .int .u64 e16x1, .int .u64 e16x2, .int .u64 e16x3, .int .u64 e16x4], .agg (VI .u8 ka), .agg (VI .u8 ka), .bool false, .bool false, c32, c33, c34, c35, c36, c37, c38, c39, c40, c41, c42], []⟩ W') :
    Code.wp Try.prog rgB5 Q ⟨#[c0, c1, c2, c3, .pointer (some ⟨g4, 0, none⟩), .pointer (some ⟨g5, 0, none⟩), .pointer (some ⟨g6, 0, none⟩), c7, c8, c9, c10, c11, c12, c13, c14, c15, c16, c17, c18, c19, c20, c21, c22, c23, c24, c25, c26, c27, c28, c29, c30, c31, c32, c33, c34, c35, c36, c37, c38, c39, c40, c41, c42], []⟩ W := by
  have HH : Hid (∀ W', Below W.heap.size W W' → Q .normal ⟨#[c0, c1, c2, c3, .pointer (some ⟨g4, 0, none⟩), .pointer (some ⟨g5, 0, none⟩), .pointer (some ⟨g6, 0, none⟩), c7, c8, c9, c10, c11, c12, c13, c14, c15, c16, .agg (VI .u8 ka), .bool true, .bool false, .bool false, .agg #[.int .u64 e12x0, .int .u64 e12x1, .int .u64 e12x2, .int .u64 e12x3, .int .u64 e12x4], .agg (VI .u8 ka), .agg (VI .u8 ka), .bool false, .bool false, .bool false, .agg #[.int .u64 e16x0, .int .u64 e16x1, .int .u64 e16x2, .int .u64 e16x3, .int .u64 e16x4], .agg (VI .u8 ka), .agg (VI .u8 ka), .bool false, .bool false, c32, c33, c34, c35, c36, c37, c38, c39, c40, c41, c42], []⟩ W') := H
  clear H
  conv => arg 2; whnf
  refine wp_region_quiet_in (C := fun Y => Below W.heap.size W Y) (by kernel_rfl) (by kernel_rfl) ((Below.refl _ _).drew) ?_
  refine wpQuiet_step (fun K hK => ?_)
  refine if_pos_mpr (by kernel_rfl) ⟨.agg (VI .u8 ka), fun Y hY => quietAt_load_row 39 (.tmp 4) rfl (g4) rfl 39 (VI .u8 ka) (0, 0) _ ((hY.block _ (Array.getElem?_eq_some_iff.1 Rg4.out).1).trans Rg4.out) Try.underlying39 rfl (Kka.out).info, hK _ ?_⟩
  clear hK K
  try simp only [Act.put, List.setIfInBounds_toArray, List.set_cons_zero, List.set_cons_succ]
  refine wpQuiet_step (fun K hK => ?_)
  refine if_pos_mpr (by kernel_rfl) ⟨.bool true, fun Y hY => ?_, hK _ ?_⟩
  · go_simp
    exact (C18.out Y).mono fun e w' hh => ⟨hh.1, hY.trans (hh.2.mono hY.size)⟩
  clear hK K
  try simp only [Act.put, List.setIfInBounds_toArray, List.set_cons_zero, List.set_cons_succ]
  refine wpQuiet_step (fun K hK => ?_)
  go_simp
  first | refine hK _ ?_ | refine ⟨_, fun _ _ => rfl, hK _ ?_⟩
  clear hK K
  refine wpQuiet_step (fun K hK => ?_)
  go_simp
  first | refine hK _ ?_ | refine ⟨_, fun _ _ => rfl, hK _ ?_⟩
  clear hK K
  refine wpQuiet_step (fun K hK => ?_)
  refine if_pos_mpr (by kernel_rfl) ⟨.agg #[.int .u64 e12x0, .int .u64 e12x1, .int .u64 e12x2, .int .u64 e12x3, .int .u64 e12x4], fun Y hY => ?_, hK _ ?_⟩
  · obtain ⟨d0, d1, d2, d3, d4⟩ := cells5 (row_below Rg5.out hY)
    go_simp
  clear hK K
  try simp only [Act.put, List.setIfInBounds_toArray, List.set_cons_zero, List.set_cons_succ]
  refine wpQuiet_step (fun K hK => ?_)
  refine if_pos_mpr (by kernel_rfl) ⟨.agg (VI .u8 ka), fun Y hY => ?_, hK _ ?_⟩
  · go_simp
    exact (C22.out Y).mono fun e w' hh => ⟨hh.1, hY.trans (hh.2.mono hY.size)⟩
  clear hK K
  try simp only [Act.put, List.setIfInBounds_toArray, List.set_cons_zero, List.set_cons_succ]
  refine wpQuiet_step (fun K hK => ?_)
  refine if_pos_mpr (by kernel_rfl) ⟨.agg (VI .u8 ka), fun Y hY => quietAt_load_row 39 (.tmp 4) rfl (g4) rfl 39 (VI .u8 ka) (0, 0) _ ((hY.block _ (Array.getElem?_eq_some_iff.1 Rg4.out).1).trans Rg4.out) Try.underlying39 rfl (Kka.out).info, hK _ ?_⟩
  clear hK K
  try simp only [Act.put, List.setIfInBounds_toArray, List.set_cons_zero, List.set_cons_succ]
  refine wpQuiet_step (fun K hK => ?_)
  go_simp
  first | refine hK _ ?_ | refine ⟨_, fun _ _ => rfl, hK _ ?_⟩
  clear hK K
  refine wpQuiet_step (fun K hK => ?_)
  go_simp
  first | refine hK _ ?_ | refine ⟨_, fun _ _ => rfl, hK _ ?_⟩
  clear hK K
  refine wpQuiet_step (fun K hK => ?_)
  go_simp
  first | refine hK _ ?_ | refine ⟨_, fun _ _ => rfl, hK _ ?_⟩
  clear hK K
  refine wpQuiet_step (fun K hK => ?_)
  refine if_pos_mpr (by kernel_rfl) ⟨.agg #[.int .u64 e16x0, .int .u64 e16x1, .int .u64 e16x2, .int .u64 e16x3, .int .u64 e16x4], fun Y hY => ?_, hK _ ?_⟩
  · obtain ⟨d0, d1, d2, d3, d4⟩ := cells5 (row_below Rg6.out hY)
    go_simp
  clear hK K
  try simp only [Act.put, List.setIfInBounds_toArray, List.set_cons_zero, List.set_cons_succ]
  refine wpQuiet_step (fun K hK => ?_)
  refine if_pos_mpr (by kernel_rfl) ⟨.agg (VI .u8 ka), fun Y hY => ?_, hK _ ?_⟩
  · go_simp
    exact (C28.out Y).mono fun e w' hh => ⟨hh.1, hY.trans (hh.2.mono hY.size)⟩
  clear hK K
  try simp only [Act.put, List.setIfInBounds_toArray, List.set_cons_zero, List.set_cons_succ]
  refine wpQuiet_step (fun K hK => ?_)
  refine if_pos_mpr (by kernel_rfl) ⟨.agg (VI .u8 ka), fun Y hY => quietAt_load_row 39 (.tmp 4) rfl (g4) rfl 39 (VI .u8 ka) (0, 0) _ ((hY.block _ (Array.getElem?_eq_some_iff.1 Rg4.out).1).trans Rg4.out) Try.underlying39 rfl (Kka.out).info, hK _ ?_⟩
  clear hK K
  try simp only [Act.put, List.setIfInBounds_toArray, List.set_cons_zero, List.set_cons_succ]
  refine wpQuiet_step (fun K hK => ?_)
  go_simp
  first | refine hK _ ?_ | refine ⟨_, fun _ _ => rfl, hK _ ?_⟩
  clear hK K
  refine wpQuiet_step (fun K hK => ?_)
  go_simp
  first | refine hK _ ?_ | refine ⟨_, fun _ _ => rfl, hK _ ?_⟩
  clear hK K
  refine wpQuiet_nil ?_
  exact fun W' hb => HH.out W' hb
end Go.Proofs.Ytfeoamkngnpcmaa
