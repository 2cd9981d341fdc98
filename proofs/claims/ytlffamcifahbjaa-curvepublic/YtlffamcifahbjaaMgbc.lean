import Derived.Deep.RegionHeld3
import Derived.Test.YtlffamcifahbjaaMgax
import Derived.Test.YtlffamcifahbjaaMgbb
import Derived.Test.YtlffamcifahbjaaMgba
namespace Go.Proofs.Ytlffamcifahbjaa
set_option linter.unusedSimpArgs false
set_option linter.unusedVariables false
open Go.ChangeShapes Go.WideShapes Go.ChangeAt Go.RowKit Go.Pin Go.Fld
noncomputable def rgW15 : Code := ((Try.f13.body.bind (findReg 15)).getD .skip)
set_option maxRecDepth 100000 in
set_option maxHeartbeats 8000000 in
theorem rsh_r15 {Q : Exit → Act → World → Prop} {B : Nat} {w W : World} {bx : List (Nat × Obj)} {ga gb gr : Nat} {a b x y z z0 : List Int}  {c0 c1 c2 c3 c5 c8 c9 c10 c11 c12 c13 c14 c15 c16 c17 c18 c19 c20 c21 c22 c23 c24 c25 c26 c27 c28 c29 c30 c31 c32 c33 c34 c35 c36 c37 c38 c39 c40 c41 c42 c43 c44 c45 c46 c47 c48 c49 c50 c51 c52 c53 c54 : Value}
    (l_a : Hid (a.length = 16)) (l_b : Hid (b.length = 16)) (lz : Hid (z.length = 32)) (lz0 : Hid (z0.length = 32))
    (HC_2 : Hid (∀ w, Calls Try.prog 36 #[.agg (VI .i64 b)] w fun e w' => e = .returned (.agg (VI .i64 x)) ∧ Below w.heap.size w w'))
    (HC_3 : Hid (∀ w, Calls Try.prog 35 #[.agg (VI .i64 a), .agg (VI .i64 x)] w fun e w' => e = .returned (.agg (VI .i64 y)) ∧ Below w.heap.size w w'))
    (HC_4 : Hid (∀ w, Calls Try.prog 34 #[.agg (VI .i64 y)] w fun e w' => e = .returned (.agg (VI .u8 z)) ∧ Below w.heap.size w w'))
    (m_ga : (ga, bxL a) ∈ bx) (m_gb : (gb, bxL b) ∈ bx)
    (NE : ∀ p ∈ bx, p.1 ≠ gr)
    (XX : Ev B w (.pointer none) [] ((gr, bxK z0) :: bx) W)
    (HPN : ∀ c (a : Act) d v w, Q (.panic c) (a.put d v) w → Q (.panic c) a w)
    (H : ∀ W', Ev B w (.pointer none) [] ((gr, bxK z) :: bx) W' → Q .normal ⟨#[c0, c1, c2, c3, .pointer (some ⟨gr, 0, none⟩), c5, .pointer (some ⟨ga, 0, none⟩), .pointer (some ⟨gb, 0, none⟩), c8, c9, c10, c11, c12, c13, c14, c15, c16, c17, c18, c19, c20, c21, c22, c23, c24, c25, c26, c27, c28, c29, c30, c31, c32, c33, c34, c35, c36, c37, c38, c39, c40, c41, c42, c43, c44, c45, c46, c47, c48, c49, .agg (VI .i64 a), .agg (VI .i64 b), .agg (VI .i64 x), .agg (VI .i64 y), .agg (VI .u8 z)], []⟩ W') :
    Code.wp Try.prog rgW15 Q ⟨#[c0, c1, c2, c3, .pointer (some ⟨gr, 0, none⟩), c5, .pointer (some ⟨ga, 0, none⟩), .pointer (some ⟨gb, 0, none⟩), c8, c9, c10, c11, c12, c13, c14, c15, c16, c17, c18, c19, c20, c21, c22, c23, c24, c25, c26, c27, c28, c29, c30, c31, c32, c33, c34, c35, c36, c37, c38, c39, c40, c41, c42, c43, c44, c45, c46, c47, c48, c49, c50, c51, c52, c53, c54], []⟩ W := by
  have HH : Hid (∀ W', Ev B w (.pointer none) [] ((gr, bxK z) :: bx) W' → Q .normal ⟨#[c0, c1, c2, c3, .pointer (some ⟨gr, 0, none⟩), c5, .pointer (some ⟨ga, 0, none⟩), .pointer (some ⟨gb, 0, none⟩), c8, c9, c10, c11, c12, c13, c14, c15, c16, c17, c18, c19, c20, c21, c22, c23, c24, c25, c26, c27, c28, c29, c30, c31, c32, c33, c34, c35, c36, c37, c38, c39, c40, c41, c42, c43, c44, c45, c46, c47, c48, c49, .agg (VI .i64 a), .agg (VI .i64 b), .agg (VI .i64 x), .agg (VI .i64 y), .agg (VI .u8 z)], []⟩ W') := H
  clear H
  conv => arg 2; whnf
  refine wp_region_held_drew (S := fun Y => ∃ o, Ev B w (.pointer none) [] ((gr, o) :: bx) Y) (by kernel_rfl) ⟨_, XX.drew⟩ (fun hH => ?_)
  have hV := XX.drew
  clear XX
  obtain ⟨V0, hV0⟩ : ∃ V, W.drew = V := ⟨_, rfl⟩
  rw [hV0] at hH hV ⊢
  clear hV0
  refine wpAnyH_take (i := 0) (v := .agg (VI .i64 a)) rfl (by kernel_rfl) (by kernel_rfl) (by kernel_rfl) (fun _ _ _ h => HPN _ _ _ _ _ h) (yieldsIf_load_row (by kernel_rfl) 65 (.tmp 6) rfl ga (by kernel_rfl) 65 (VI .i64 a) (0, 0) _ (fun Y hY => (by obtain ⟨o, hY⟩ := hY; exact hY.row (g := ga) (x := bxL a) (by simp [m_ga]))) Try.underlying65 rfl (infoNm l_a.out)) hH ?_
  try simp only [Act.put, List.getElem_toArray, List.getElem_cons_succ, List.getElem_cons_zero, List.getElem?_toArray, List.getElem?_cons_succ, List.getElem?_cons_zero, List.setIfInBounds_toArray, List.set_cons_zero, List.set_cons_succ]
  refine wpAnyH_take (i := 1) (v := .agg (VI .i64 b)) rfl (by kernel_rfl) (by kernel_rfl) (by kernel_rfl) (fun _ _ _ h => HPN _ _ _ _ _ h) (yieldsIf_load_row (by kernel_rfl) 65 (.tmp 7) rfl gb (by kernel_rfl) 65 (VI .i64 b) (0, 0) _ (fun Y hY => (by obtain ⟨o, hY⟩ := hY; exact hY.row (g := gb) (x := bxL b) (by simp [m_gb]))) Try.underlying65 rfl (infoNm l_b.out)) hH ?_
  try simp only [Act.put, List.getElem_toArray, List.getElem_cons_succ, List.getElem_cons_zero, List.getElem?_toArray, List.getElem?_cons_succ, List.getElem?_cons_zero, List.setIfInBounds_toArray, List.set_cons_zero, List.set_cons_succ]
  refine wpAnyH_ready (rs := [2]) (by kernel_rfl) (by simp) (AllReadyH.cons rfl (fun K' hK => ?_) AllReadyH.nil)
  go_simp
  refine (HC_2.out _).mono ?_
  rintro e w0 ⟨rfl, hb⟩
  have hN := hV.below hb
  clear hb
  go_wp2_with fail
  refine hK.out _ _ ⟨_, hN⟩ (fun hH => ?_)
  clear hK K' hV
  have hV := hN
  clear hN
  try simp only [Act.put, List.getElem_toArray, List.getElem_cons_succ, List.getElem_cons_zero, List.getElem?_toArray, List.getElem?_cons_succ, List.getElem?_cons_zero, List.setIfInBounds_toArray, List.set_cons_zero, List.set_cons_succ]
  refine wpAnyH_ready (rs := [3]) (by kernel_rfl) (by simp) (AllReadyH.cons rfl (fun K' hK => ?_) AllReadyH.nil)
  go_simp
  refine (HC_3.out _).mono ?_
  rintro e w1 ⟨rfl, hb⟩
  have hN := hV.below hb
  clear hb
  go_wp2_with fail
  refine hK.out _ _ ⟨_, hN⟩ (fun hH => ?_)
  clear hK K' hV
  have hV := hN
  clear hN
  try simp only [Act.put, List.getElem_toArray, List.getElem_cons_succ, List.getElem_cons_zero, List.getElem?_toArray, List.getElem?_cons_succ, List.getElem?_cons_zero, List.setIfInBounds_toArray, List.set_cons_zero, List.set_cons_succ]
  refine wpAnyH_ready (rs := [4]) (by kernel_rfl) (by simp) (AllReadyH.cons rfl (fun K' hK => ?_) AllReadyH.nil)
  go_simp
  refine (HC_4.out _).mono ?_
  rintro e w2 ⟨rfl, hb⟩
  have hN := hV.below hb
  clear hb
  go_wp2_with fail
  refine hK.out _ _ ⟨_, hN⟩ (fun hH => ?_)
  clear hK K' hV
  have hV := hN
  clear hN
  try simp only [Act.put, List.getElem_toArray, List.getElem_cons_succ, List.getElem_cons_zero, List.getElem?_toArray, List.getElem?_cons_succ, List.getElem?_cons_zero, List.setIfInBounds_toArray, List.set_cons_zero, List.set_cons_succ]
  refine wpAnyH_ready (rs := [5]) (by kernel_rfl) (by simp) (AllReadyH.cons rfl (fun K' hK => ?_) AllReadyH.nil)
  have ht := there_mid (hV.row (g := gr) (x := bxK z0) (by simp)) 0 32 (by rw [VI_size, lz0.out]; decide)
  refine if_pos_mpr (by kernel_rfl) (wp_store_mid 23 (.tmp 4) (.tmp 54) rfl gr 0 (VI .u8 z) (by kernel_rfl) (by kernel_rfl) (by rw [VI_size, lz.out]; exact ht) (infoK lz.out) (VI_one _ _) ?_)
  have hE := hV.set rfl NE (but_setCells gr (z.map (Value.int .u8)) 0 w2) (whole_setK (hV.row (g := gr) (x := bxK z0) (by simp)) (by rw [lz.out, lz0.out]))
  refine hK.out _ _ ⟨_, hE⟩ (fun hH => ?_)
  clear hK K'
  try simp only [Act.put, List.getElem_toArray, List.getElem_cons_succ, List.getElem_cons_zero, List.getElem?_toArray, List.getElem?_cons_succ, List.getElem?_cons_zero, List.setIfInBounds_toArray, List.set_cons_zero, List.set_cons_succ]
  refine wpAnyH_done (by kernel_rfl) ?_ _
  try simp only [Act.put, List.getElem_toArray, List.getElem_cons_succ, List.getElem_cons_zero, List.getElem?_toArray, List.getElem?_cons_succ, List.getElem?_cons_zero, List.setIfInBounds_toArray, List.set_cons_zero, List.set_cons_succ]
  exact HH.out _ hE
end Go.Proofs.Ytlffamcifahbjaa
namespace Go.Proofs.Ytlffamcifahbjaa
set_option linter.unusedSimpArgs false
set_option linter.unusedVariables false
open Go.ChangeShapes Go.WideShapes Go.ChangeAt Go.RowKit Go.Pin Go.Fld
theorem mltP (n : Nat) : n % P < P := Nat.mod_lt _ (by decide)
theorem rstep_any {x a b c d r0 r1 r2 r3 : Nat} (hx : x < P) (ha : a < P) (hb : b < P) (hc : c < P) (hd : d < P) (h : clm x a b c d = (r0, r1, r2, r3)) (w : World) :
    Calls Try.prog 33 #[.agg (VI .i64 (dg x)), .agg (VI .i64 (dg a)), .agg (VI .i64 (dg b)), .agg (VI .i64 (dg c)), .agg (VI .i64 (dg d))] w fun e w' => e = .returned (.tuple #[.agg (VI .i64 (dg r0)), .agg (VI .i64 (dg r1)), .agg (VI .i64 (dg r2)), .agg (VI .i64 (dg r3))]) ∧ Below w.heap.size w w' := by
  unfold clm at h
  simp only [Prod.mk.injEq] at h
  obtain ⟨rfl, rfl, rfl, rfl⟩ := h
  exact rstep_gen w (dg_len _) (dg_len _) (dg_len _) (dg_len _) (dg_len _) (dg_len _) (dg_len _) (dg_len _) (dg_len _) (dg_len _) (dg_len _) (dg_len _) (dg_len _) (dg_len _) (dg_len _) (dg_len _) (dg_len _) (dg_len _) (dg_len _)
    (fun w => radd_any a b ha hb w) (fun w => rsub_any a b ha hb w) (fun w => rsub_any c d hc hd w) (fun w => rmul_any _ _ (mltP _) (mltP _) w) (fun w => radd_any c d hc hd w) (fun w => rmul_any _ _ (mltP _) (mltP _) w)
    (fun w => rmul_any _ _ (mltP _) (mltP _) w) (fun w => rmul_any _ _ (mltP _) (mltP _) w) (fun w => rsub_any _ _ (mltP _) (mltP _) w) (fun w => radd_any _ _ (mltP _) (mltP _) w) (fun w => rsub_any _ _ (mltP _) (mltP _) w) (fun w => rscale_any _ 121665 (mltP _) (by decide) w)
    (fun w => rmul_any _ _ (mltP _) (mltP _) w) (fun w => radd_any _ _ (mltP _) (mltP _) w) (fun w => rmul_any _ _ (mltP _) (mltP _) w) (fun w => rmul_any _ _ (mltP _) (mltP _) w) (fun w => rmul_any _ _ (mltP _) (mltP _) w) (fun w => rmul_any _ _ hx (mltP _) w)
/-- the ladder as the document climbs it -/
def U (f : Nat → Nat) (x i : Nat) : Lad := (lad f x i).swap (lad f x i).s
theorem U_zero (f : Nat → Nat) (x : Nat) : (U f x 0).a = 1 ∧ (U f x 0).b = 0 ∧ (U f x 0).c = x ∧ (U f x 0).d = 1 := ⟨rfl, rfl, rfl, rfl⟩
theorem U_one {f : Nat → Nat} {x i r0 r1 r2 r3 : Nat} (hg : f (254 - i) = 1) (h : clm x (U f x i).c (U f x i).d (U f x i).a (U f x i).b = (r0, r1, r2, r3)) :
    (U f x (i + 1)).a = r2 ∧ (U f x (i + 1)).b = r3 ∧ (U f x (i + 1)).c = r0 ∧ (U f x (i + 1)).d = r1 := by
  unfold U at *
  have e : lad f x (i + 1) = (lad f x i).round x (f (254 - i)) := rfl
  rw [e]
  generalize lad f x i = q at *
  unfold Lad.round Lad.climb Lad.swap at *
  rw [hg]
  rcases Nat.mod_two_eq_zero_or_one q.s with hs | hs
  · simp only [hs, Nat.add_mod, Nat.reduceMod, Nat.reduceAdd, if_true, Nat.zero_ne_one, if_false] at h ⊢
    rw [h]; exact ⟨rfl, rfl, rfl, rfl⟩
  · simp only [hs, Nat.add_mod, Nat.reduceMod, Nat.reduceAdd, if_true, Nat.zero_ne_one, if_false] at h ⊢
    rw [h]; exact ⟨rfl, rfl, rfl, rfl⟩
theorem U_nil {f : Nat → Nat} {x i r0 r1 r2 r3 : Nat} (hg : f (254 - i) = 0) (h : clm x (U f x i).a (U f x i).b (U f x i).c (U f x i).d = (r0, r1, r2, r3)) :
    (U f x (i + 1)).a = r0 ∧ (U f x (i + 1)).b = r1 ∧ (U f x (i + 1)).c = r2 ∧ (U f x (i + 1)).d = r3 := by
  unfold U at *
  have e : lad f x (i + 1) = (lad f x i).round x (f (254 - i)) := rfl
  rw [e]
  generalize lad f x i = q at *
  unfold Lad.round Lad.climb Lad.swap at *
  rw [hg]
  rcases Nat.mod_two_eq_zero_or_one q.s with hs | hs
  · simp only [hs, Nat.add_zero, Nat.reduceMod, Nat.zero_ne_one, if_false] at h ⊢
    rw [h]; exact ⟨rfl, rfl, rfl, rfl⟩
  · simp only [hs, Nat.add_zero, Nat.reduceMod, if_true, Nat.zero_ne_one, if_false] at h ⊢
    rw [h]; exact ⟨rfl, rfl, rfl, rfl⟩
theorem clm_lt {x a b c d r0 r1 r2 r3 : Nat} (h : clm x a b c d = (r0, r1, r2, r3)) : r0 < P ∧ r1 < P ∧ r2 < P ∧ r3 < P := by
  unfold clm at h
  simp only [Prod.mk.injEq] at h
  obtain ⟨rfl, rfl, rfl, rfl⟩ := h
  exact ⟨mltP _, mltP _, mltP _, mltP _⟩
theorem shn_U (k u : List Int) : shn k u = (U (kbit (clk k)) (ux u) 255).a * qwn (U (kbit (clk k)) (ux u) 255).b 5 % P := rfl
theorem ux_ltP (u : List Int) : ux u < P := mltP _
end Go.Proofs.Ytlffamcifahbjaa
