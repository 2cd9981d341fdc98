import Derived.Test.YtlffamcifahbjaaCrvN
import Derived.Test.YtlffamcifahbjaaFldH
namespace Go.Proofs.Ytlffamcifahbjaa
set_option linter.unusedSimpArgs false
set_option linter.unusedVariables false
open Go.ChangeShapes Go.WideShapes Go.ChangeAt Go.RowKit Go.Pin Go.Fld
theorem eqK {x : List Int} (h : x.length = 32) (w : World) : (Op.equalIn 10000 23 (.agg (VI .u8 x)) (.agg (VI .u8 x))).run Try.prog w = .ok true w :=
  (run_equalIn_row w 9998 23 5 .u8 32 x x h h Try.underlying23 Try.underlying5 size5).trans (by rw [beq_self_eq_true])
noncomputable def rgCommutes1 : Code := ((Try.f7.body.bind (findReg 1)).getD .skip)
set_option maxRecDepth 100000 in
set_option maxHeartbeats 8000000 in
theorem commutes_r1 {Q : Exit → Act → World → Prop} {W : World} {ga gb gu : Nat} {a b r u za zb : List Int}  {c0 c1 c2 c6 c7 c8 c9 c10 c11 c12 c13 c14 c15 c16 c17 c18 c19 c20 : Value}
    (L_a : Hid (a.length = 32))
    (L_b : Hid (b.length = 32))
    (L_u : Hid (u.length = 32))
    (R_ga : Hid (W.heap[(ga : Nat)]? = some (bxK a)))
    (R_gb : Hid (W.heap[(gb : Nat)]? = some (bxK b)))
    (R_gu : Hid (W.heap[(gu : Nat)]? = some (bxK u)))
    (HC_3 : Hid (∀ w, Calls Try.prog 11 #[.pointer none, .agg (VI .u8 b), .agg (VI .u8 u)] w fun e w' => e = .returned (.agg (VI .u8 zb)) ∧ Below w.heap.size w w'))
    (HC_4 : Hid (∀ w, Calls Try.prog 11 #[.pointer none, .agg (VI .u8 a), .agg (VI .u8 zb)] w fun e w' => e = .returned (.agg (VI .u8 r)) ∧ Below w.heap.size w w'))
    (HC_8 : Hid (∀ w, Calls Try.prog 11 #[.pointer none, .agg (VI .u8 a), .agg (VI .u8 u)] w fun e w' => e = .returned (.agg (VI .u8 za)) ∧ Below w.heap.size w w'))
    (HC_9 : Hid (∀ w, Calls Try.prog 11 #[.pointer none, .agg (VI .u8 b), .agg (VI .u8 za)] w fun e w' => e = .returned (.agg (VI .u8 r)) ∧ Below w.heap.size w w'))
    (EQ_10 : ∀ w, (Op.equalIn 10000 23 (.agg (VI .u8 r)) (.agg (VI .u8 r))).run Try.prog w = .ok true w)
    (HC_12 : Hid (∀ w, Calls Try.prog 16 #[] w fun e w' => e = .returned (.bool true) ∧ Below w.heap.size w w'))
    (H : ∀ W', Below W.heap.size W W' → Q .normal ⟨#[c0, c1, c2, .pointer (some ⟨ga, 0, none⟩), .pointer (some ⟨gb, 0, none⟩), .pointer (some ⟨gu, 0, none⟩), .bool true, .agg (VI .u8 a), .agg (VI .u8 b), .agg (VI .u8 u), .agg (VI .u8 zb), .agg (VI .u8 r), .agg (VI .u8 b), .agg (VI .u8 a), .agg (VI .u8 u), .agg (VI .u8 za), .agg (VI .u8 r), .bool true, .bool true, .bool true, .bool true], []⟩ W') :
    Code.wp Try.prog rgCommutes1 Q ⟨#[c0, c1, c2, .pointer (some ⟨ga, 0, none⟩), .pointer (some ⟨gb, 0, none⟩), .pointer (some ⟨gu, 0, none⟩), c6, c7, c8, c9, c10, c11, c12, c13, c14, c15, c16, c17, c18, c19, c20], []⟩ W := by
  have HH : Hid (∀ W', Below W.heap.size W W' → Q .normal ⟨#[c0, c1, c2, .pointer (some ⟨ga, 0, none⟩), .pointer (some ⟨gb, 0, none⟩), .pointer (some ⟨gu, 0, none⟩), .bool true, .agg (VI .u8 a), .agg (VI .u8 b), .agg (VI .u8 u), .agg (VI .u8 zb), .agg (VI .u8 r), .agg (VI .u8 b), .agg (VI .u8 a), .agg (VI .u8 u), .agg (VI .u8 za), .agg (VI .u8 r), .bool true, .bool true, .bool true, .bool true], []⟩ W') := H
  clear H
  conv => arg 2; whnf
  refine wp_region_quiet_in (C := fun Y => Below W.heap.size W Y) (by kernel_rfl) (by kernel_rfl) ((Below.refl _ _).drew) ?_
  refine wpQuiet_step (fun K hK => ?_)
  refine if_pos_mpr (by kernel_rfl) ⟨.agg (VI .u8 a), fun Y hY => quietAt_load_row 23 (.tmp 3) rfl (ga) rfl 23 (VI .u8 a) (0, 0) _ ((hY.block _ (Array.getElem?_eq_some_iff.1 R_ga.out).1).trans R_ga.out) Try.underlying23 rfl (infoK L_a.out), hK _ ?_⟩
  clear hK K
  try simp only [Act.put, List.getElem_toArray, List.getElem_cons_succ, List.getElem_cons_zero, List.getElem?_toArray, List.getElem?_cons_succ, List.getElem?_cons_zero, List.setIfInBounds_toArray, List.set_cons_zero, List.set_cons_succ]
  refine wpQuiet_step (fun K hK => ?_)
  refine if_pos_mpr (by kernel_rfl) ⟨.agg (VI .u8 b), fun Y hY => quietAt_load_row 23 (.tmp 4) rfl (gb) rfl 23 (VI .u8 b) (0, 0) _ ((hY.block _ (Array.getElem?_eq_some_iff.1 R_gb.out).1).trans R_gb.out) Try.underlying23 rfl (infoK L_b.out), hK _ ?_⟩
  clear hK K
  try simp only [Act.put, List.getElem_toArray, List.getElem_cons_succ, List.getElem_cons_zero, List.getElem?_toArray, List.getElem?_cons_succ, List.getElem?_cons_zero, List.setIfInBounds_toArray, List.set_cons_zero, List.set_cons_succ]
  refine wpQuiet_step (fun K hK => ?_)
  refine if_pos_mpr (by kernel_rfl) ⟨.agg (VI .u8 u), fun Y hY => quietAt_load_row 23 (.tmp 5) rfl (gu) rfl 23 (VI .u8 u) (0, 0) _ ((hY.block _ (Array.getElem?_eq_some_iff.1 R_gu.out).1).trans R_gu.out) Try.underlying23 rfl (infoK L_u.out), hK _ ?_⟩
  clear hK K
  try simp only [Act.put, List.getElem_toArray, List.getElem_cons_succ, List.getElem_cons_zero, List.getElem?_toArray, List.getElem?_cons_succ, List.getElem?_cons_zero, List.setIfInBounds_toArray, List.set_cons_zero, List.set_cons_succ]
  refine wpQuiet_step (fun K hK => ?_)
  refine if_pos_mpr (by kernel_rfl) ⟨.agg (VI .u8 zb), fun Y hY => ?_, hK _ ?_⟩
  · go_simp
    exact (HC_3.out Y).mono fun e w' hh => ⟨hh.1, hY.trans (hh.2.mono hY.size)⟩
  clear hK K
  try simp only [Act.put, List.getElem_toArray, List.getElem_cons_succ, List.getElem_cons_zero, List.getElem?_toArray, List.getElem?_cons_succ, List.getElem?_cons_zero, List.setIfInBounds_toArray, List.set_cons_zero, List.set_cons_succ]
  refine wpQuiet_step (fun K hK => ?_)
  refine if_pos_mpr (by kernel_rfl) ⟨.agg (VI .u8 r), fun Y hY => ?_, hK _ ?_⟩
  · go_simp
    exact (HC_4.out Y).mono fun e w' hh => ⟨hh.1, hY.trans (hh.2.mono hY.size)⟩
  clear hK K
  try simp only [Act.put, List.getElem_toArray, List.getElem_cons_succ, List.getElem_cons_zero, List.getElem?_toArray, List.getElem?_cons_succ, List.getElem?_cons_zero, List.setIfInBounds_toArray, List.set_cons_zero, List.set_cons_succ]
  refine wpQuiet_step (fun K hK => ?_)
  refine if_pos_mpr (by kernel_rfl) ⟨.agg (VI .u8 b), fun Y hY => quietAt_load_row 23 (.tmp 4) rfl (gb) rfl 23 (VI .u8 b) (0, 0) _ ((hY.block _ (Array.getElem?_eq_some_iff.1 R_gb.out).1).trans R_gb.out) Try.underlying23 rfl (infoK L_b.out), hK _ ?_⟩
  clear hK K
  try simp only [Act.put, List.getElem_toArray, List.getElem_cons_succ, List.getElem_cons_zero, List.getElem?_toArray, List.getElem?_cons_succ, List.getElem?_cons_zero, List.setIfInBounds_toArray, List.set_cons_zero, List.set_cons_succ]
  refine wpQuiet_step (fun K hK => ?_)
  refine if_pos_mpr (by kernel_rfl) ⟨.agg (VI .u8 a), fun Y hY => quietAt_load_row 23 (.tmp 3) rfl (ga) rfl 23 (VI .u8 a) (0, 0) _ ((hY.block _ (Array.getElem?_eq_some_iff.1 R_ga.out).1).trans R_ga.out) Try.underlying23 rfl (infoK L_a.out), hK _ ?_⟩
  clear hK K
  try simp only [Act.put, List.getElem_toArray, List.getElem_cons_succ, List.getElem_cons_zero, List.getElem?_toArray, List.getElem?_cons_succ, List.getElem?_cons_zero, List.setIfInBounds_toArray, List.set_cons_zero, List.set_cons_succ]
  refine wpQuiet_step (fun K hK => ?_)
  refine if_pos_mpr (by kernel_rfl) ⟨.agg (VI .u8 u), fun Y hY => quietAt_load_row 23 (.tmp 5) rfl (gu) rfl 23 (VI .u8 u) (0, 0) _ ((hY.block _ (Array.getElem?_eq_some_iff.1 R_gu.out).1).trans R_gu.out) Try.underlying23 rfl (infoK L_u.out), hK _ ?_⟩
  clear hK K
  try simp only [Act.put, List.getElem_toArray, List.getElem_cons_succ, List.getElem_cons_zero, List.getElem?_toArray, List.getElem?_cons_succ, List.getElem?_cons_zero, List.setIfInBounds_toArray, List.set_cons_zero, List.set_cons_succ]
  refine wpQuiet_step (fun K hK => ?_)
  refine if_pos_mpr (by kernel_rfl) ⟨.agg (VI .u8 za), fun Y hY => ?_, hK _ ?_⟩
  · go_simp
    exact (HC_8.out Y).mono fun e w' hh => ⟨hh.1, hY.trans (hh.2.mono hY.size)⟩
  clear hK K
  try simp only [Act.put, List.getElem_toArray, List.getElem_cons_succ, List.getElem_cons_zero, List.getElem?_toArray, List.getElem?_cons_succ, List.getElem?_cons_zero, List.setIfInBounds_toArray, List.set_cons_zero, List.set_cons_succ]
  refine wpQuiet_step (fun K hK => ?_)
  refine if_pos_mpr (by kernel_rfl) ⟨.agg (VI .u8 r), fun Y hY => ?_, hK _ ?_⟩
  · go_simp
    exact (HC_9.out Y).mono fun e w' hh => ⟨hh.1, hY.trans (hh.2.mono hY.size)⟩
  clear hK K
  try simp only [Act.put, List.getElem_toArray, List.getElem_cons_succ, List.getElem_cons_zero, List.getElem?_toArray, List.getElem?_cons_succ, List.getElem?_cons_zero, List.setIfInBounds_toArray, List.set_cons_zero, List.set_cons_succ]
  refine wpQuiet_step (fun K hK => ?_)
  go_simp
  first | refine hK _ ?_ | refine ⟨_, fun _ _ => rfl, hK _ ?_⟩
  clear hK K
  refine wpQuiet_step (fun K hK => ?_)
  go_simp
  first | refine hK _ ?_ | refine ⟨_, fun _ _ => rfl, hK _ ?_⟩
  clear hK K
  refine wpQuiet_step (fun K hK => ?_)
  refine if_pos_mpr (by kernel_rfl) ⟨.bool true, fun Y hY => ?_, hK _ ?_⟩
  · go_simp
    exact (HC_12.out Y).mono fun e w' hh => ⟨hh.1, hY.trans (hh.2.mono hY.size)⟩
  clear hK K
  try simp only [Act.put, List.getElem_toArray, List.getElem_cons_succ, List.getElem_cons_zero, List.getElem?_toArray, List.getElem?_cons_succ, List.getElem?_cons_zero, List.setIfInBounds_toArray, List.set_cons_zero, List.set_cons_succ]
  refine wpQuiet_step (fun K hK => ?_)
  go_simp
  first | refine hK _ ?_ | refine ⟨_, fun _ _ => rfl, hK _ ?_⟩
  clear hK K
  refine wpQuiet_step (fun K hK => ?_)
  go_simp
  first | refine hK _ ?_ | refine ⟨_, fun _ _ => rfl, hK _ ?_⟩
  clear hK K
  refine wpQuiet_nil ?_
  intro W' hW'
  exact HH.out W' hW'
noncomputable def rgAgrees1 : Code := ((Try.f6.body.bind (findReg 1)).getD .skip)
set_option maxRecDepth 100000 in
set_option maxHeartbeats 8000000 in
theorem agrees_r1 {Q : Exit → Act → World → Prop} {W : World} {ga gb : Nat} {a b r za zb : List Int}  {c0 c1 c4 c5 c6 c7 c8 c9 c10 c11 c12 c13 c14 c15 c16 : Value}
    (L_a : Hid (a.length = 32))
    (L_b : Hid (b.length = 32))
    (R_ga : Hid (W.heap[(ga : Nat)]? = some (bxK a)))
    (R_gb : Hid (W.heap[(gb : Nat)]? = some (bxK b)))
    (HC_2 : Hid (∀ w, Calls Try.prog 17 #[.pointer none, .agg (VI .u8 b)] w fun e w' => e = .returned (.agg (VI .u8 zb)) ∧ Below w.heap.size w w'))
    (HC_3 : Hid (∀ w, Calls Try.prog 11 #[.pointer none, .agg (VI .u8 a), .agg (VI .u8 zb)] w fun e w' => e = .returned (.agg (VI .u8 r)) ∧ Below w.heap.size w w'))
    (HC_6 : Hid (∀ w, Calls Try.prog 17 #[.pointer none, .agg (VI .u8 a)] w fun e w' => e = .returned (.agg (VI .u8 za)) ∧ Below w.heap.size w w'))
    (HC_7 : Hid (∀ w, Calls Try.prog 11 #[.pointer none, .agg (VI .u8 b), .agg (VI .u8 za)] w fun e w' => e = .returned (.agg (VI .u8 r)) ∧ Below w.heap.size w w'))
    (EQ_8 : ∀ w, (Op.equalIn 10000 23 (.agg (VI .u8 r)) (.agg (VI .u8 r))).run Try.prog w = .ok true w)
    (HC_10 : Hid (∀ w, Calls Try.prog 16 #[] w fun e w' => e = .returned (.bool true) ∧ Below w.heap.size w w'))
    (H : ∀ W', Below W.heap.size W W' → Q .normal ⟨#[c0, c1, .pointer (some ⟨ga, 0, none⟩), .pointer (some ⟨gb, 0, none⟩), .bool true, .agg (VI .u8 a), .agg (VI .u8 b), .agg (VI .u8 zb), .agg (VI .u8 r), .agg (VI .u8 b), .agg (VI .u8 a), .agg (VI .u8 za), .agg (VI .u8 r), .bool true, .bool true, .bool true, .bool true], []⟩ W') :
    Code.wp Try.prog rgAgrees1 Q ⟨#[c0, c1, .pointer (some ⟨ga, 0, none⟩), .pointer (some ⟨gb, 0, none⟩), c4, c5, c6, c7, c8, c9, c10, c11, c12, c13, c14, c15, c16], []⟩ W := by
  have HH : Hid (∀ W', Below W.heap.size W W' → Q .normal ⟨#[c0, c1, .pointer (some ⟨ga, 0, none⟩), .pointer (some ⟨gb, 0, none⟩), .bool true, .agg (VI .u8 a), .agg (VI .u8 b), .agg (VI .u8 zb), .agg (VI .u8 r), .agg (VI .u8 b), .agg (VI .u8 a), .agg (VI .u8 za), .agg (VI .u8 r), .bool true, .bool true, .bool true, .bool true], []⟩ W') := H
  clear H
  conv => arg 2; whnf
  refine wp_region_quiet_in (C := fun Y => Below W.heap.size W Y) (by kernel_rfl) (by kernel_rfl) ((Below.refl _ _).drew) ?_
  refine wpQuiet_step (fun K hK => ?_)
  refine if_pos_mpr (by kernel_rfl) ⟨.agg (VI .u8 a), fun Y hY => quietAt_load_row 23 (.tmp 2) rfl (ga) rfl 23 (VI .u8 a) (0, 0) _ ((hY.block _ (Array.getElem?_eq_some_iff.1 R_ga.out).1).trans R_ga.out) Try.underlying23 rfl (infoK L_a.out), hK _ ?_⟩
  clear hK K
  try simp only [Act.put, List.getElem_toArray, List.getElem_cons_succ, List.getElem_cons_zero, List.getElem?_toArray, List.getElem?_cons_succ, List.getElem?_cons_zero, List.setIfInBounds_toArray, List.set_cons_zero, List.set_cons_succ]
  refine wpQuiet_step (fun K hK => ?_)
  refine if_pos_mpr (by kernel_rfl) ⟨.agg (VI .u8 b), fun Y hY => quietAt_load_row 23 (.tmp 3) rfl (gb) rfl 23 (VI .u8 b) (0, 0) _ ((hY.block _ (Array.getElem?_eq_some_iff.1 R_gb.out).1).trans R_gb.out) Try.underlying23 rfl (infoK L_b.out), hK _ ?_⟩
  clear hK K
  try simp only [Act.put, List.getElem_toArray, List.getElem_cons_succ, List.getElem_cons_zero, List.getElem?_toArray, List.getElem?_cons_succ, List.getElem?_cons_zero, List.setIfInBounds_toArray, List.set_cons_zero, List.set_cons_succ]
  refine wpQuiet_step (fun K hK => ?_)
  refine if_pos_mpr (by kernel_rfl) ⟨.agg (VI .u8 zb), fun Y hY => ?_, hK _ ?_⟩
  · go_simp
    exact (HC_2.out Y).mono fun e w' hh => ⟨hh.1, hY.trans (hh.2.mono hY.size)⟩
  clear hK K
  try simp only [Act.put, List.getElem_toArray, List.getElem_cons_succ, List.getElem_cons_zero, List.getElem?_toArray, List.getElem?_cons_succ, List.getElem?_cons_zero, List.setIfInBounds_toArray, List.set_cons_zero, List.set_cons_succ]
  refine wpQuiet_step (fun K hK => ?_)
  refine if_pos_mpr (by kernel_rfl) ⟨.agg (VI .u8 r), fun Y hY => ?_, hK _ ?_⟩
  · go_simp
    exact (HC_3.out Y).mono fun e w' hh => ⟨hh.1, hY.trans (hh.2.mono hY.size)⟩
  clear hK K
  try simp only [Act.put, List.getElem_toArray, List.getElem_cons_succ, List.getElem_cons_zero, List.getElem?_toArray, List.getElem?_cons_succ, List.getElem?_cons_zero, List.setIfInBounds_toArray, List.set_cons_zero, List.set_cons_succ]
  refine wpQuiet_step (fun K hK => ?_)
  refine if_pos_mpr (by kernel_rfl) ⟨.agg (VI .u8 b), fun Y hY => quietAt_load_row 23 (.tmp 3) rfl (gb) rfl 23 (VI .u8 b) (0, 0) _ ((hY.block _ (Array.getElem?_eq_some_iff.1 R_gb.out).1).trans R_gb.out) Try.underlying23 rfl (infoK L_b.out), hK _ ?_⟩
  clear hK K
  try simp only [Act.put, List.getElem_toArray, List.getElem_cons_succ, List.getElem_cons_zero, List.getElem?_toArray, List.getElem?_cons_succ, List.getElem?_cons_zero, List.setIfInBounds_toArray, List.set_cons_zero, List.set_cons_succ]
  refine wpQuiet_step (fun K hK => ?_)
  refine if_pos_mpr (by kernel_rfl) ⟨.agg (VI .u8 a), fun Y hY => quietAt_load_row 23 (.tmp 2) rfl (ga) rfl 23 (VI .u8 a) (0, 0) _ ((hY.block _ (Array.getElem?_eq_some_iff.1 R_ga.out).1).trans R_ga.out) Try.underlying23 rfl (infoK L_a.out), hK _ ?_⟩
  clear hK K
  try simp only [Act.put, List.getElem_toArray, List.getElem_cons_succ, List.getElem_cons_zero, List.getElem?_toArray, List.getElem?_cons_succ, List.getElem?_cons_zero, List.setIfInBounds_toArray, List.set_cons_zero, List.set_cons_succ]
  refine wpQuiet_step (fun K hK => ?_)
  refine if_pos_mpr (by kernel_rfl) ⟨.agg (VI .u8 za), fun Y hY => ?_, hK _ ?_⟩
  · go_simp
    exact (HC_6.out Y).mono fun e w' hh => ⟨hh.1, hY.trans (hh.2.mono hY.size)⟩
  clear hK K
  try simp only [Act.put, List.getElem_toArray, List.getElem_cons_succ, List.getElem_cons_zero, List.getElem?_toArray, List.getElem?_cons_succ, List.getElem?_cons_zero, List.setIfInBounds_toArray, List.set_cons_zero, List.set_cons_succ]
  refine wpQuiet_step (fun K hK => ?_)
  refine if_pos_mpr (by kernel_rfl) ⟨.agg (VI .u8 r), fun Y hY => ?_, hK _ ?_⟩
  · go_simp
    exact (HC_7.out Y).mono fun e w' hh => ⟨hh.1, hY.trans (hh.2.mono hY.size)⟩
  clear hK K
  try simp only [Act.put, List.getElem_toArray, List.getElem_cons_succ, List.getElem_cons_zero, List.getElem?_toArray, List.getElem?_cons_succ, List.getElem?_cons_zero, List.setIfInBounds_toArray, List.set_cons_zero, List.set_cons_succ]
  refine wpQuiet_step (fun K hK => ?_)
  go_simp
  first | refine hK _ ?_ | refine ⟨_, fun _ _ => rfl, hK _ ?_⟩
  clear hK K
  refine wpQuiet_step (fun K hK => ?_)
  go_simp
  first | refine hK _ ?_ | refine ⟨_, fun _ _ => rfl, hK _ ?_⟩
  clear hK K
  refine wpQuiet_step (fun K hK => ?_)
  refine if_pos_mpr (by kernel_rfl) ⟨.bool true, fun Y hY => ?_, hK _ ?_⟩
  · go_simp
    exact (HC_10.out Y).mono fun e w' hh => ⟨hh.1, hY.trans (hh.2.mono hY.size)⟩
  clear hK K
  try simp only [Act.put, List.getElem_toArray, List.getElem_cons_succ, List.getElem_cons_zero, List.getElem?_toArray, List.getElem?_cons_succ, List.getElem?_cons_zero, List.setIfInBounds_toArray, List.set_cons_zero, List.set_cons_succ]
  refine wpQuiet_step (fun K hK => ?_)
  go_simp
  first | refine hK _ ?_ | refine ⟨_, fun _ _ => rfl, hK _ ?_⟩
  clear hK K
  refine wpQuiet_step (fun K hK => ?_)
  go_simp
  first | refine hK _ ?_ | refine ⟨_, fun _ _ => rfl, hK _ ?_⟩
  clear hK K
  refine wpQuiet_nil ?_
  intro W' hW'
  exact HH.out W' hW'
set_option maxRecDepth 100000 in
set_option maxHeartbeats 4000000 in
theorem commutes_walk {a b u : List Int} (ha : Key32 a) (hb : Key32 b) (hu : Key32 u) (HM : shn a (bts (shn b u)) = shn b (bts (shn a u))) (w : World) :
    Calls Try.prog 7 #[.agg (VI .u8 a), .agg (VI .u8 b), .agg (VI .u8 u)] w fun e w' => e = .returned (.bool true) ∧ Below w.heap.size w w' := by
  have hB := bs_start3 w a b u
  obtain ⟨W, hW⟩ : ∃ W, ((w.alloc (.cells (VI .u8 a) 23)).alloc (.cells (VI .u8 b) 23)).alloc (.cells (VI .u8 u) 23) = W := ⟨_, rfl⟩
  rw [hW] at hB
  have HB : Hid _ := hB
  have H1 : Hid (∀ w, Calls Try.prog 11 #[.pointer none, .agg (VI .u8 b), .agg (VI .u8 u)] w fun e w' => e = .returned (.agg (VI .u8 (bts (shn b u)))) ∧ Below w.heap.size w w') := fun w => shared_nil hb hu w
  have H2 : Hid (∀ w, Calls Try.prog 11 #[.pointer none, .agg (VI .u8 a), .agg (VI .u8 (bts (shn b u)))] w fun e w' => e = .returned (.agg (VI .u8 (bts (shn a (bts (shn b u)))))) ∧ Below w.heap.size w w') := fun w => shared_nil ha (key_bts (shn b u)) w
  have H3 : Hid (∀ w, Calls Try.prog 11 #[.pointer none, .agg (VI .u8 a), .agg (VI .u8 u)] w fun e w' => e = .returned (.agg (VI .u8 (bts (shn a u)))) ∧ Below w.heap.size w w') := fun w => shared_nil ha hu w
  have H4 : Hid (∀ w, Calls Try.prog 11 #[.pointer none, .agg (VI .u8 b), .agg (VI .u8 (bts (shn a u)))] w fun e w' => e = .returned (.agg (VI .u8 (bts (shn a (bts (shn b u)))))) ∧ Below w.heap.size w w') := by
    rw [HM]
    exact fun w => shared_nil hb (key_bts (shn a u)) w
  have LR : Hid ((bts (shn a (bts (shn b u)))).length = 32) := bts_len _
  clear HM
  generalize bts (shn a (bts (shn b u))) = r at *
  generalize bts (shn b u) = zb at *
  generalize bts (shn a u) = za at *
  have LA : Hid (a.length = 32) := ha.len
  have LB : Hid (b.length = 32) := hb.len
  have LU : Hid (u.length = 32) := hu.len
  have R1 : Hid (W.heap[w.heap.size]? = some (bxK a)) := hB.key (by simp)
  have R2 : Hid (W.heap[w.heap.size + 1]? = some (bxK b)) := hB.key (by simp)
  have R3 : Hid (W.heap[w.heap.size + 1 + 1]? = some (bxK u)) := hB.key (by simp)
  have HK : Hid (∀ w, Calls Try.prog 16 #[] w fun e w' => e = .returned (.bool true) ∧ Below w.heap.size w w') := known_any
  clear hB ha hb hu
  go_enter Try.func7, Try.ntmps7
  go_wp2_with fail
  refine wp_as (c' := rgCommutes1) (by kernel_rfl) ?_
  refine commutes_r1 LA LB LU R1 R2 R3 H1 H2 H3 H4 (eqK LR.out) HK ?_
  intro W' hW'
  have hb := HB.out.below hW'
  go_wp2
  go_ret
  exact ⟨rfl, hb.old⟩
set_option maxRecDepth 100000 in
set_option maxHeartbeats 4000000 in
theorem agrees_walk {a b : List Int} (ha : Key32 a) (hb : Key32 b) (HM : shn a (bts (shn b (kk 9))) = shn b (bts (shn a (kk 9)))) (w : World) :
    Calls Try.prog 6 #[.agg (VI .u8 a), .agg (VI .u8 b)] w fun e w' => e = .returned (.bool true) ∧ Below w.heap.size w w' := by
  have hB := bs_start2 w a b
  obtain ⟨W, hW⟩ : ∃ W, (w.alloc (.cells (VI .u8 a) 23)).alloc (.cells (VI .u8 b) 23) = W := ⟨_, rfl⟩
  rw [hW] at hB
  have HB : Hid _ := hB
  have H1 : Hid (∀ w, Calls Try.prog 17 #[.pointer none, .agg (VI .u8 b)] w fun e w' => e = .returned (.agg (VI .u8 (bts (shn b (kk 9))))) ∧ Below w.heap.size w w') := fun w => public_nil hb w
  have H2 : Hid (∀ w, Calls Try.prog 11 #[.pointer none, .agg (VI .u8 a), .agg (VI .u8 (bts (shn b (kk 9))))] w fun e w' => e = .returned (.agg (VI .u8 (bts (shn a (bts (shn b (kk 9))))))) ∧ Below w.heap.size w w') := fun w => shared_nil ha (key_bts (shn b (kk 9))) w
  have H3 : Hid (∀ w, Calls Try.prog 17 #[.pointer none, .agg (VI .u8 a)] w fun e w' => e = .returned (.agg (VI .u8 (bts (shn a (kk 9))))) ∧ Below w.heap.size w w') := fun w => public_nil ha w
  have H4 : Hid (∀ w, Calls Try.prog 11 #[.pointer none, .agg (VI .u8 b), .agg (VI .u8 (bts (shn a (kk 9))))] w fun e w' => e = .returned (.agg (VI .u8 (bts (shn a (bts (shn b (kk 9))))))) ∧ Below w.heap.size w w') := by
    rw [HM]
    exact fun w => shared_nil hb (key_bts (shn a (kk 9))) w
  have LR : Hid ((bts (shn a (bts (shn b (kk 9))))).length = 32) := bts_len _
  clear HM
  generalize bts (shn a (bts (shn b (kk 9)))) = r at *
  generalize bts (shn b (kk 9)) = zb at *
  generalize bts (shn a (kk 9)) = za at *
  have LA : Hid (a.length = 32) := ha.len
  have LB : Hid (b.length = 32) := hb.len
  have R1 : Hid (W.heap[w.heap.size]? = some (bxK a)) := hB.key (by simp)
  have R2 : Hid (W.heap[w.heap.size + 1]? = some (bxK b)) := hB.key (by simp)
  have HK : Hid (∀ w, Calls Try.prog 16 #[] w fun e w' => e = .returned (.bool true) ∧ Below w.heap.size w w') := known_any
  clear hB ha hb
  go_enter Try.func6, Try.ntmps6
  go_wp2_with fail
  refine wp_as (c' := rgAgrees1) (by kernel_rfl) ?_
  refine agrees_r1 LA LB R1 R2 H1 H2 H3 H4 (eqK LR.out) HK ?_
  intro W' hW'
  have hb := HB.out.below hW'
  go_wp2
  go_ret
  exact ⟨rfl, hb.old⟩
end Go.Proofs.Ytlffamcifahbjaa
