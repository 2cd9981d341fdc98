import Derived.Deep.RegionHeld3
import Derived.Test.YtlffamcifahbjaaMgar
namespace Go.Proofs.Ytlffamcifahbjaa
set_option linter.unusedSimpArgs false
set_option linter.unusedVariables false
open Go.ChangeShapes Go.WideShapes Go.ChangeAt Go.RowKit Go.Pin Go.Fld
noncomputable def rgC11 : Code := ((Try.f24.body.bind (findReg 11)).getD .skip)
set_option maxRecDepth 100000 in
set_option maxHeartbeats 8000000 in
theorem climb_r11 {Q : Exit → Act → World → Prop} {B : Nat} {w W : World} {rv : Value} {l : List (Int × Int)} {bx : List (Nat × Obj)} {T gv gw gx : Nat} {a b c d v x y s t z : List Int} {c2 c3 c4 c6 c7 c8 c9 c10 c11 c12 c15 c16 c17 c18 c19 c20 c21 c22 c23 c24 c25 c26 c27 c28 c29 c30 c31 c32 c33 c34 c35 c36 c37 c38 c39 c40 c41 c42 c43 c44 c45 c46 c47 c48 c49 c50 c51 c52 c53 c54 c55 c56 c57 c58 c59 c60 c61 c62 c63 c64 c65 c66 c67 c68 c69 c70 c71 c72 c73 c74 c75 c76 c77 c78 c79 c80 c81 c82 c83 c84 c85 c86 c87 c88 c89 c90 c91 c92 c93 c94 c95 c96 c97 c98 c99 c100 c101 c102 c103 c104 c105 c106 c107 c108 c109 c110 c111 c112 : Value}
    (la : Hid (a.length = 5)) (lb : Hid (b.length = 5)) (lc : Hid (c.length = 5)) (ld : Hid (d.length = 5)) (lv : Hid (v.length = 5)) (lx : Hid (x.length = 5)) (ly : Hid (y.length = 5)) (ls : Hid (s.length = 5)) (lt : Hid (t.length = 5)) (lz : Hid (z.length = 5))
    (HC0 : Hid (∀ B w rv l bx wr, Ev B w rv l bx wr → l.length ≤ 1000000 → Calls Try.prog 42 #[rv, .agg (VI .u64 v), .agg (VI .u64 y)] wr fun e w' => e = .returned (.agg (VI .u64 s)) ∧ Ev B w rv (l ++ [(3, 2)]) bx w'))
    (HC1 : Hid (∀ B w rv l bx wr, Ev B w rv l bx wr → l.length ≤ 1000000 → Calls Try.prog 41 #[rv, .agg (VI .u64 s)] wr fun e w' => e = .returned (.agg (VI .u64 t)) ∧ Ev B w rv (l ++ [(3, 4)]) bx w'))
    (HC2 : Hid (∀ B w rv l bx wr, Ev B w rv l bx wr → l.length ≤ 1000000 → Calls Try.prog 25 #[rv, .agg (VI .u64 x), .agg (VI .u64 t)] wr fun e w' => e = .returned (.agg (VI .u64 z)) ∧ Ev B w rv (l ++ [(3, 3)]) bx w'))
    (hl : Hid (l.length ≤ 900000))
    (mgv : (gv, bxE v) ∈ bx)
    (mgw : (gw, bxE y) ∈ bx)
    (mgx : (gx, bxE x) ∈ bx)
    (hT : ∀ p ∈ bx, p.1 ≠ T)
    (XX : Ev B w rv l ((T, ro a b c d) :: bx) W)
    (HPN : ∀ c (a : Act) d v w, Q (.panic c) (a.put d v) w → Q (.panic c) a w)
    (H : ∀ W', Ev B w rv (l ++ [(3, 2)] ++ [(3, 4)] ++ [(3, 3)]) ((T, ro a b c z) :: bx) W' → Q .normal ⟨#[.pointer (some ⟨T, 0, none⟩), rv, c2, c3, c4, .pointer (some ⟨gx, 0, none⟩), c6, c7, c8, c9, c10, c11, c12, .pointer (some ⟨gv, 0, none⟩), .pointer (some ⟨gw, 0, none⟩), c15, c16, c17, c18, c19, c20, c21, c22, c23, c24, c25, c26, c27, c28, c29, c30, c31, c32, c33, c34, c35, c36, c37, c38, c39, c40, c41, c42, c43, c44, c45, c46, c47, c48, c49, c50, c51, c52, c53, c54, c55, c56, c57, c58, c59, c60, c61, c62, c63, c64, c65, c66, c67, c68, c69, c70, c71, c72, c73, c74, c75, c76, c77, c78, c79, c80, c81, .pointer (some ⟨T, 0, none⟩), rv, .agg (VI .u64 x), rv, rv, .agg (VI .u64 v), .agg (VI .u64 y), .agg (VI .u64 s), .agg (VI .u64 t), .agg (VI .u64 z), .pointer (some ⟨T, 0, none⟩), .pointer (some ⟨T, 15, none⟩), c94, c95, c96, c97, c98, c99, c100, c101, c102, c103, c104, c105, c106, c107, c108, c109, c110, c111, c112], []⟩ W') :
    Code.wp Try.prog rgC11 Q ⟨#[.pointer (some ⟨T, 0, none⟩), rv, c2, c3, c4, .pointer (some ⟨gx, 0, none⟩), c6, c7, c8, c9, c10, c11, c12, .pointer (some ⟨gv, 0, none⟩), .pointer (some ⟨gw, 0, none⟩), c15, c16, c17, c18, c19, c20, c21, c22, c23, c24, c25, c26, c27, c28, c29, c30, c31, c32, c33, c34, c35, c36, c37, c38, c39, c40, c41, c42, c43, c44, c45, c46, c47, c48, c49, c50, c51, c52, c53, c54, c55, c56, c57, c58, c59, c60, c61, c62, c63, c64, c65, c66, c67, c68, c69, c70, c71, c72, c73, c74, c75, c76, c77, c78, c79, c80, c81, c82, c83, c84, c85, c86, c87, c88, c89, c90, c91, c92, c93, c94, c95, c96, c97, c98, c99, c100, c101, c102, c103, c104, c105, c106, c107, c108, c109, c110, c111, c112], []⟩ W := by
  have HH : Hid (∀ W', Ev B w rv (l ++ [(3, 2)] ++ [(3, 4)] ++ [(3, 3)]) ((T, ro a b c z) :: bx) W' → Q .normal ⟨#[.pointer (some ⟨T, 0, none⟩), rv, c2, c3, c4, .pointer (some ⟨gx, 0, none⟩), c6, c7, c8, c9, c10, c11, c12, .pointer (some ⟨gv, 0, none⟩), .pointer (some ⟨gw, 0, none⟩), c15, c16, c17, c18, c19, c20, c21, c22, c23, c24, c25, c26, c27, c28, c29, c30, c31, c32, c33, c34, c35, c36, c37, c38, c39, c40, c41, c42, c43, c44, c45, c46, c47, c48, c49, c50, c51, c52, c53, c54, c55, c56, c57, c58, c59, c60, c61, c62, c63, c64, c65, c66, c67, c68, c69, c70, c71, c72, c73, c74, c75, c76, c77, c78, c79, c80, c81, .pointer (some ⟨T, 0, none⟩), rv, .agg (VI .u64 x), rv, rv, .agg (VI .u64 v), .agg (VI .u64 y), .agg (VI .u64 s), .agg (VI .u64 t), .agg (VI .u64 z), .pointer (some ⟨T, 0, none⟩), .pointer (some ⟨T, 15, none⟩), c94, c95, c96, c97, c98, c99, c100, c101, c102, c103, c104, c105, c106, c107, c108, c109, c110, c111, c112], []⟩ W') := H
  clear H
  conv => arg 2; whnf
  refine wp_region_held_drew (S := fun Y => ∃ l', ∃ o, Ev B w rv l' ((T, o) :: bx) Y) (by kernel_rfl) ⟨l, _, XX.drew⟩ (fun hH => ?_)
  have hV := XX.drew
  clear XX
  obtain ⟨V0, hV0⟩ : ∃ V, W.drew = V := ⟨_, rfl⟩
  rw [hV0] at hH hV ⊢
  clear hV0
  refine wpAnyH_take (i := 0) (v := .pointer (some ⟨T, 0, none⟩)) rfl (by kernel_rfl) (by kernel_rfl) (by kernel_rfl) (fun _ _ _ h => HPN _ _ _ _ _ h) (Or.inl ⟨by kernel_rfl, fun W hW => ?_⟩) hH ?_
  · go_simp
  try simp only [Act.put, List.getElem_toArray, List.getElem_cons_succ, List.getElem_cons_zero, List.getElem?_toArray, List.getElem?_cons_succ, List.getElem?_cons_zero, List.setIfInBounds_toArray, List.set_cons_zero, List.set_cons_succ]
  refine wpAnyH_take (i := 1) (v := rv) rfl (by kernel_rfl) (by kernel_rfl) (by kernel_rfl) (fun _ _ _ h => HPN _ _ _ _ _ h) (Or.inl ⟨by kernel_rfl, fun W hW => ?_⟩) hH ?_
  · go_simp
  try simp only [Act.put, List.getElem_toArray, List.getElem_cons_succ, List.getElem_cons_zero, List.getElem?_toArray, List.getElem?_cons_succ, List.getElem?_cons_zero, List.setIfInBounds_toArray, List.set_cons_zero, List.set_cons_succ]
  refine wpAnyH_take (i := 2) (v := .agg (VI .u64 x)) rfl (by kernel_rfl) (by kernel_rfl) (by kernel_rfl) (fun _ _ _ h => HPN _ _ _ _ _ h) (yieldsIf_load_row (by kernel_rfl) 51 (.tmp 5) rfl gx (by kernel_rfl) 51 (VI .u64 x) (0, 0) _ (fun Y hY => (by obtain ⟨l', o, hY⟩ := hY; exact hY.row (g := gx) (x := bxE x) (by simp [mgx]))) Try.underlying51 rfl (infoE5' lx.out)) hH ?_
  try simp only [Act.put, List.getElem_toArray, List.getElem_cons_succ, List.getElem_cons_zero, List.getElem?_toArray, List.getElem?_cons_succ, List.getElem?_cons_zero, List.setIfInBounds_toArray, List.set_cons_zero, List.set_cons_succ]
  refine wpAnyH_take (i := 3) (v := rv) rfl (by kernel_rfl) (by kernel_rfl) (by kernel_rfl) (fun _ _ _ h => HPN _ _ _ _ _ h) (Or.inl ⟨by kernel_rfl, fun W hW => ?_⟩) hH ?_
  · go_simp
  try simp only [Act.put, List.getElem_toArray, List.getElem_cons_succ, List.getElem_cons_zero, List.getElem?_toArray, List.getElem?_cons_succ, List.getElem?_cons_zero, List.setIfInBounds_toArray, List.set_cons_zero, List.set_cons_succ]
  refine wpAnyH_take (i := 4) (v := rv) rfl (by kernel_rfl) (by kernel_rfl) (by kernel_rfl) (fun _ _ _ h => HPN _ _ _ _ _ h) (Or.inl ⟨by kernel_rfl, fun W hW => ?_⟩) hH ?_
  · go_simp
  try simp only [Act.put, List.getElem_toArray, List.getElem_cons_succ, List.getElem_cons_zero, List.getElem?_toArray, List.getElem?_cons_succ, List.getElem?_cons_zero, List.setIfInBounds_toArray, List.set_cons_zero, List.set_cons_succ]
  refine wpAnyH_take (i := 5) (v := .agg (VI .u64 v)) rfl (by kernel_rfl) (by kernel_rfl) (by kernel_rfl) (fun _ _ _ h => HPN _ _ _ _ _ h) (yieldsIf_load_row (by kernel_rfl) 51 (.tmp 13) rfl gv (by kernel_rfl) 51 (VI .u64 v) (0, 0) _ (fun Y hY => (by obtain ⟨l', o, hY⟩ := hY; exact hY.row (g := gv) (x := bxE v) (by simp [mgv]))) Try.underlying51 rfl (infoE5' lv.out)) hH ?_
  try simp only [Act.put, List.getElem_toArray, List.getElem_cons_succ, List.getElem_cons_zero, List.getElem?_toArray, List.getElem?_cons_succ, List.getElem?_cons_zero, List.setIfInBounds_toArray, List.set_cons_zero, List.set_cons_succ]
  refine wpAnyH_take (i := 6) (v := .agg (VI .u64 y)) rfl (by kernel_rfl) (by kernel_rfl) (by kernel_rfl) (fun _ _ _ h => HPN _ _ _ _ _ h) (yieldsIf_load_row (by kernel_rfl) 51 (.tmp 14) rfl gw (by kernel_rfl) 51 (VI .u64 y) (0, 0) _ (fun Y hY => (by obtain ⟨l', o, hY⟩ := hY; exact hY.row (g := gw) (x := bxE y) (by simp [mgw]))) Try.underlying51 rfl (infoE5' ly.out)) hH ?_
  try simp only [Act.put, List.getElem_toArray, List.getElem_cons_succ, List.getElem_cons_zero, List.getElem?_toArray, List.getElem?_cons_succ, List.getElem?_cons_zero, List.setIfInBounds_toArray, List.set_cons_zero, List.set_cons_succ]
  refine wpAnyH_ready (rs := [7]) (by kernel_rfl) (by simp) (AllReadyH.cons rfl (fun K' hK => ?_) AllReadyH.nil)
  go_simp
  refine (HC0.out _ _ _ _ _ _ hV (by have := hl.out; (try simp only [List.length_append, List.length_cons, List.length_nil]); omega)).mono ?_
  rintro e w1 ⟨rfl, hN⟩
  go_wp2_with fail
  refine hK.out _ _ ⟨_, _, hN⟩ (fun hH => ?_)
  clear hK K' hV
  have hV := hN
  clear hN
  try simp only [Act.put, List.getElem_toArray, List.getElem_cons_succ, List.getElem_cons_zero, List.getElem?_toArray, List.getElem?_cons_succ, List.getElem?_cons_zero, List.setIfInBounds_toArray, List.set_cons_zero, List.set_cons_succ]
  refine wpAnyH_ready (rs := [8]) (by kernel_rfl) (by simp) (AllReadyH.cons rfl (fun K' hK => ?_) AllReadyH.nil)
  go_simp
  refine (HC1.out _ _ _ _ _ _ hV (by have := hl.out; (try simp only [List.length_append, List.length_cons, List.length_nil]); omega)).mono ?_
  rintro e w2 ⟨rfl, hN⟩
  go_wp2_with fail
  refine hK.out _ _ ⟨_, _, hN⟩ (fun hH => ?_)
  clear hK K' hV
  have hV := hN
  clear hN
  try simp only [Act.put, List.getElem_toArray, List.getElem_cons_succ, List.getElem_cons_zero, List.getElem?_toArray, List.getElem?_cons_succ, List.getElem?_cons_zero, List.setIfInBounds_toArray, List.set_cons_zero, List.set_cons_succ]
  refine wpAnyH_ready (rs := [9]) (by kernel_rfl) (by simp) (AllReadyH.cons rfl (fun K' hK => ?_) AllReadyH.nil)
  go_simp
  refine (HC2.out _ _ _ _ _ _ hV (by have := hl.out; (try simp only [List.length_append, List.length_cons, List.length_nil]); omega)).mono ?_
  rintro e w3 ⟨rfl, hN⟩
  go_wp2_with fail
  refine hK.out _ _ ⟨_, _, hN⟩ (fun hH => ?_)
  clear hK K' hV
  have hV := hN
  clear hN
  try simp only [Act.put, List.getElem_toArray, List.getElem_cons_succ, List.getElem_cons_zero, List.getElem?_toArray, List.getElem?_cons_succ, List.getElem?_cons_zero, List.setIfInBounds_toArray, List.set_cons_zero, List.set_cons_succ]
  refine wpAnyH_take (i := 10) (v := .pointer (some ⟨T, 0, none⟩)) rfl (by kernel_rfl) (by kernel_rfl) (by kernel_rfl) (fun _ _ _ h => HPN _ _ _ _ _ h) (Or.inl ⟨by kernel_rfl, fun W hW => ?_⟩) hH ?_
  · go_simp
  try simp only [Act.put, List.getElem_toArray, List.getElem_cons_succ, List.getElem_cons_zero, List.getElem?_toArray, List.getElem?_cons_succ, List.getElem?_cons_zero, List.setIfInBounds_toArray, List.set_cons_zero, List.set_cons_succ]
  refine wpAnyH_take (i := 11) (v := .pointer (some ⟨T, 15, none⟩)) rfl (by kernel_rfl) (by kernel_rfl) (by kernel_rfl) (fun _ _ _ h => HPN _ _ _ _ _ h) (Or.inl ⟨by kernel_rfl, fun W hW => ?_⟩) hH ?_
  · go_simp
  try simp only [Act.put, List.getElem_toArray, List.getElem_cons_succ, List.getElem_cons_zero, List.getElem?_toArray, List.getElem?_cons_succ, List.getElem?_cons_zero, List.setIfInBounds_toArray, List.set_cons_zero, List.set_cons_succ]
  refine wpAnyH_ready (rs := [12]) (by kernel_rfl) (by simp) (AllReadyH.cons rfl (fun K' hK => ?_) AllReadyH.nil)
  have ht := ro_th la.out lb.out lc.out ld.out (hV.row (g := T) (x := ro a b c d) (by simp)) 15 (by decide)
  refine if_pos_mpr (by kernel_rfl) (wp_store_mid 51 (.tmp 93) (.tmp 91) rfl T 15 (VI .u64 z) (by kernel_rfl) (by kernel_rfl) (by rw [VI_size, lz.out]; exact ht) (infoE5' lz.out) (VI_one _ _) ?_)
  have hE := hV.set rfl hT (but_setCells T (z.map (Value.int .u64)) 15 w3) (ro_s15 la.out lb.out lc.out ld.out (hV.row (g := T) (x := ro a b c d) (by simp)) lz.out)
  refine hK.out _ _ ⟨_, _, hE⟩ (fun hH => ?_)
  clear hK K'
  try simp only [Act.put, List.getElem_toArray, List.getElem_cons_succ, List.getElem_cons_zero, List.getElem?_toArray, List.getElem?_cons_succ, List.getElem?_cons_zero, List.setIfInBounds_toArray, List.set_cons_zero, List.set_cons_succ]
  refine wpAnyH_done (by kernel_rfl) ?_ _
  try simp only [Act.put, List.getElem_toArray, List.getElem_cons_succ, List.getElem_cons_zero, List.getElem?_toArray, List.getElem?_cons_succ, List.getElem?_cons_zero, List.setIfInBounds_toArray, List.set_cons_zero, List.set_cons_succ]
  exact HH.out _ hE
noncomputable def rgC13 : Code := ((Try.f24.body.bind (findReg 13)).getD .skip)
set_option maxRecDepth 100000 in
set_option maxHeartbeats 8000000 in
theorem climb_r13 {Q : Exit → Act → World → Prop} {B : Nat} {w W : World} {rv : Value} {l : List (Int × Int)} {bx : List (Nat × Obj)} {T ge gp : Nat} {a b c d e p s t z : List Int} {c2 c3 c4 c5 c6 c8 c9 c11 c12 c13 c14 c15 c16 c17 c18 c19 c20 c21 c22 c23 c24 c25 c26 c27 c28 c29 c30 c31 c32 c33 c34 c35 c36 c37 c38 c39 c40 c41 c42 c43 c44 c45 c46 c47 c48 c49 c50 c51 c52 c53 c54 c55 c56 c57 c58 c59 c60 c61 c62 c63 c64 c65 c66 c67 c68 c69 c70 c71 c72 c73 c74 c75 c76 c77 c78 c79 c80 c81 c82 c83 c84 c85 c86 c87 c88 c89 c90 c91 c92 c93 c94 c95 c96 c97 c98 c99 c100 c101 c102 c103 c104 c105 c106 c107 c108 c109 c110 c111 c112 : Value}
    (la : Hid (a.length = 5)) (lb : Hid (b.length = 5)) (lc : Hid (c.length = 5)) (ld : Hid (d.length = 5)) (le : Hid (e.length = 5)) (lp : Hid (p.length = 5)) (ls : Hid (s.length = 5)) (lt : Hid (t.length = 5)) (lz : Hid (z.length = 5))
    (HC0 : Hid (∀ B w rv l bx wr, Ev B w rv l bx wr → l.length ≤ 1000000 → Calls Try.prog 43 #[rv, .agg (VI .u64 e), .int .u32 121665] wr fun e w' => e = .returned (.agg (VI .u64 s)) ∧ Ev B w rv (l ++ [(3, 5)]) bx w'))
    (HC1 : Hid (∀ B w rv l bx wr, Ev B w rv l bx wr → l.length ≤ 1000000 → Calls Try.prog 40 #[rv, .agg (VI .u64 p), .agg (VI .u64 s)] wr fun e w' => e = .returned (.agg (VI .u64 t)) ∧ Ev B w rv (l ++ [(3, 1)]) bx w'))
    (HC2 : Hid (∀ B w rv l bx wr, Ev B w rv l bx wr → l.length ≤ 1000000 → Calls Try.prog 25 #[rv, .agg (VI .u64 e), .agg (VI .u64 t)] wr fun e w' => e = .returned (.agg (VI .u64 z)) ∧ Ev B w rv (l ++ [(3, 3)]) bx w'))
    (hl : Hid (l.length ≤ 900000))
    (mge : (ge, bxE e) ∈ bx)
    (mgp : (gp, bxE p) ∈ bx)
    (hT : ∀ p ∈ bx, p.1 ≠ T)
    (XX : Ev B w rv l ((T, ro a b c d) :: bx) W)
    (HPN : ∀ c (a : Act) d v w, Q (.panic c) (a.put d v) w → Q (.panic c) a w)
    (H : ∀ W', Ev B w rv (l ++ [(3, 5)] ++ [(3, 1)] ++ [(3, 3)]) ((T, ro a z c d) :: bx) W' → Q .normal ⟨#[.pointer (some ⟨T, 0, none⟩), rv, c2, c3, c4, c5, c6, .pointer (some ⟨gp, 0, none⟩), c8, c9, .pointer (some ⟨ge, 0, none⟩), c11, c12, c13, c14, c15, c16, c17, c18, c19, c20, c21, c22, c23, c24, c25, c26, c27, c28, c29, c30, c31, c32, c33, c34, c35, c36, c37, c38, c39, c40, c41, c42, c43, c44, c45, c46, c47, c48, c49, c50, c51, c52, c53, c54, c55, c56, c57, c58, c59, c60, c61, c62, c63, c64, c65, c66, c67, c68, c69, c70, c71, c72, c73, c74, c75, c76, c77, c78, c79, c80, c81, c82, c83, c84, c85, c86, c87, c88, c89, c90, c91, c92, c93, c94, c95, c96, c97, c98, c99, c100, .pointer (some ⟨T, 0, none⟩), rv, .agg (VI .u64 e), rv, .agg (VI .u64 p), rv, .agg (VI .u64 e), .agg (VI .u64 s), .agg (VI .u64 t), .agg (VI .u64 z), .pointer (some ⟨T, 0, none⟩), .pointer (some ⟨T, 5, none⟩)], []⟩ W') :
    Code.wp Try.prog rgC13 Q ⟨#[.pointer (some ⟨T, 0, none⟩), rv, c2, c3, c4, c5, c6, .pointer (some ⟨gp, 0, none⟩), c8, c9, .pointer (some ⟨ge, 0, none⟩), c11, c12, c13, c14, c15, c16, c17, c18, c19, c20, c21, c22, c23, c24, c25, c26, c27, c28, c29, c30, c31, c32, c33, c34, c35, c36, c37, c38, c39, c40, c41, c42, c43, c44, c45, c46, c47, c48, c49, c50, c51, c52, c53, c54, c55, c56, c57, c58, c59, c60, c61, c62, c63, c64, c65, c66, c67, c68, c69, c70, c71, c72, c73, c74, c75, c76, c77, c78, c79, c80, c81, c82, c83, c84, c85, c86, c87, c88, c89, c90, c91, c92, c93, c94, c95, c96, c97, c98, c99, c100, c101, c102, c103, c104, c105, c106, c107, c108, c109, c110, c111, c112], []⟩ W := by
  have HH : Hid (∀ W', Ev B w rv (l ++ [(3, 5)] ++ [(3, 1)] ++ [(3, 3)]) ((T, ro a z c d) :: bx) W' → Q .normal ⟨#[.pointer (some ⟨T, 0, none⟩), rv, c2, c3, c4, c5, c6, .pointer (some ⟨gp, 0, none⟩), c8, c9, .pointer (some ⟨ge, 0, none⟩), c11, c12, c13, c14, c15, c16, c17, c18, c19, c20, c21, c22, c23, c24, c25, c26, c27, c28, c29, c30, c31, c32, c33, c34, c35, c36, c37, c38, c39, c40, c41, c42, c43, c44, c45, c46, c47, c48, c49, c50, c51, c52, c53, c54, c55, c56, c57, c58, c59, c60, c61, c62, c63, c64, c65, c66, c67, c68, c69, c70, c71, c72, c73, c74, c75, c76, c77, c78, c79, c80, c81, c82, c83, c84, c85, c86, c87, c88, c89, c90, c91, c92, c93, c94, c95, c96, c97, c98, c99, c100, .pointer (some ⟨T, 0, none⟩), rv, .agg (VI .u64 e), rv, .agg (VI .u64 p), rv, .agg (VI .u64 e), .agg (VI .u64 s), .agg (VI .u64 t), .agg (VI .u64 z), .pointer (some ⟨T, 0, none⟩), .pointer (some ⟨T, 5, none⟩)], []⟩ W') := H
  clear H
  conv => arg 2; whnf
  refine wp_region_held_drew (S := fun Y => ∃ l', ∃ o, Ev B w rv l' ((T, o) :: bx) Y) (by kernel_rfl) ⟨l, _, XX.drew⟩ (fun hH => ?_)
  have hV := XX.drew
  clear XX
  obtain ⟨V0, hV0⟩ : ∃ V, W.drew = V := ⟨_, rfl⟩
  rw [hV0] at hH hV ⊢
  clear hV0
  refine wpAnyH_take (i := 0) (v := .pointer (some ⟨T, 0, none⟩)) rfl (by kernel_rfl) (by kernel_rfl) (by kernel_rfl) (fun _ _ _ h => HPN _ _ _ _ _ h) (Or.inl ⟨by kernel_rfl, fun W hW => ?_⟩) hH ?_
  · go_simp
  try simp only [Act.put, List.getElem_toArray, List.getElem_cons_succ, List.getElem_cons_zero, List.getElem?_toArray, List.getElem?_cons_succ, List.getElem?_cons_zero, List.setIfInBounds_toArray, List.set_cons_zero, List.set_cons_succ]
  refine wpAnyH_take (i := 1) (v := rv) rfl (by kernel_rfl) (by kernel_rfl) (by kernel_rfl) (fun _ _ _ h => HPN _ _ _ _ _ h) (Or.inl ⟨by kernel_rfl, fun W hW => ?_⟩) hH ?_
  · go_simp
  try simp only [Act.put, List.getElem_toArray, List.getElem_cons_succ, List.getElem_cons_zero, List.getElem?_toArray, List.getElem?_cons_succ, List.getElem?_cons_zero, List.setIfInBounds_toArray, List.set_cons_zero, List.set_cons_succ]
  refine wpAnyH_take (i := 2) (v := .agg (VI .u64 e)) rfl (by kernel_rfl) (by kernel_rfl) (by kernel_rfl) (fun _ _ _ h => HPN _ _ _ _ _ h) (yieldsIf_load_row (by kernel_rfl) 51 (.tmp 10) rfl ge (by kernel_rfl) 51 (VI .u64 e) (0, 0) _ (fun Y hY => (by obtain ⟨l', o, hY⟩ := hY; exact hY.row (g := ge) (x := bxE e) (by simp [mge]))) Try.underlying51 rfl (infoE5' le.out)) hH ?_
  try simp only [Act.put, List.getElem_toArray, List.getElem_cons_succ, List.getElem_cons_zero, List.getElem?_toArray, List.getElem?_cons_succ, List.getElem?_cons_zero, List.setIfInBounds_toArray, List.set_cons_zero, List.set_cons_succ]
  refine wpAnyH_take (i := 3) (v := rv) rfl (by kernel_rfl) (by kernel_rfl) (by kernel_rfl) (fun _ _ _ h => HPN _ _ _ _ _ h) (Or.inl ⟨by kernel_rfl, fun W hW => ?_⟩) hH ?_
  · go_simp
  try simp only [Act.put, List.getElem_toArray, List.getElem_cons_succ, List.getElem_cons_zero, List.getElem?_toArray, List.getElem?_cons_succ, List.getElem?_cons_zero, List.setIfInBounds_toArray, List.set_cons_zero, List.set_cons_succ]
  refine wpAnyH_take (i := 4) (v := .agg (VI .u64 p)) rfl (by kernel_rfl) (by kernel_rfl) (by kernel_rfl) (fun _ _ _ h => HPN _ _ _ _ _ h) (yieldsIf_load_row (by kernel_rfl) 51 (.tmp 7) rfl gp (by kernel_rfl) 51 (VI .u64 p) (0, 0) _ (fun Y hY => (by obtain ⟨l', o, hY⟩ := hY; exact hY.row (g := gp) (x := bxE p) (by simp [mgp]))) Try.underlying51 rfl (infoE5' lp.out)) hH ?_
  try simp only [Act.put, List.getElem_toArray, List.getElem_cons_succ, List.getElem_cons_zero, List.getElem?_toArray, List.getElem?_cons_succ, List.getElem?_cons_zero, List.setIfInBounds_toArray, List.set_cons_zero, List.set_cons_succ]
  refine wpAnyH_take (i := 5) (v := rv) rfl (by kernel_rfl) (by kernel_rfl) (by kernel_rfl) (fun _ _ _ h => HPN _ _ _ _ _ h) (Or.inl ⟨by kernel_rfl, fun W hW => ?_⟩) hH ?_
  · go_simp
  try simp only [Act.put, List.getElem_toArray, List.getElem_cons_succ, List.getElem_cons_zero, List.getElem?_toArray, List.getElem?_cons_succ, List.getElem?_cons_zero, List.setIfInBounds_toArray, List.set_cons_zero, List.set_cons_succ]
  refine wpAnyH_take (i := 6) (v := .agg (VI .u64 e)) rfl (by kernel_rfl) (by kernel_rfl) (by kernel_rfl) (fun _ _ _ h => HPN _ _ _ _ _ h) (yieldsIf_load_row (by kernel_rfl) 51 (.tmp 10) rfl ge (by kernel_rfl) 51 (VI .u64 e) (0, 0) _ (fun Y hY => (by obtain ⟨l', o, hY⟩ := hY; exact hY.row (g := ge) (x := bxE e) (by simp [mge]))) Try.underlying51 rfl (infoE5' le.out)) hH ?_
  try simp only [Act.put, List.getElem_toArray, List.getElem_cons_succ, List.getElem_cons_zero, List.getElem?_toArray, List.getElem?_cons_succ, List.getElem?_cons_zero, List.setIfInBounds_toArray, List.set_cons_zero, List.set_cons_succ]
  refine wpAnyH_ready (rs := [7]) (by kernel_rfl) (by simp) (AllReadyH.cons rfl (fun K' hK => ?_) AllReadyH.nil)
  go_simp
  refine (HC0.out _ _ _ _ _ _ hV (by have := hl.out; (try simp only [List.length_append, List.length_cons, List.length_nil]); omega)).mono ?_
  rintro e w1 ⟨rfl, hN⟩
  go_wp2_with fail
  refine hK.out _ _ ⟨_, _, hN⟩ (fun hH => ?_)
  clear hK K' hV
  have hV := hN
  clear hN
  try simp only [Act.put, List.getElem_toArray, List.getElem_cons_succ, List.getElem_cons_zero, List.getElem?_toArray, List.getElem?_cons_succ, List.getElem?_cons_zero, List.setIfInBounds_toArray, List.set_cons_zero, List.set_cons_succ]
  refine wpAnyH_ready (rs := [8]) (by kernel_rfl) (by simp) (AllReadyH.cons rfl (fun K' hK => ?_) AllReadyH.nil)
  go_simp
  refine (HC1.out _ _ _ _ _ _ hV (by have := hl.out; (try simp only [List.length_append, List.length_cons, List.length_nil]); omega)).mono ?_
  rintro e w2 ⟨rfl, hN⟩
  go_wp2_with fail
  refine hK.out _ _ ⟨_, _, hN⟩ (fun hH => ?_)
  clear hK K' hV
  have hV := hN
  clear hN
  try simp only [Act.put, List.getElem_toArray, List.getElem_cons_succ, List.getElem_cons_zero, List.getElem?_toArray, List.getElem?_cons_succ, List.getElem?_cons_zero, List.setIfInBounds_toArray, List.set_cons_zero, List.set_cons_succ]
  refine wpAnyH_ready (rs := [9]) (by kernel_rfl) (by simp) (AllReadyH.cons rfl (fun K' hK => ?_) AllReadyH.nil)
  go_simp
  refine (HC2.out _ _ _ _ _ _ hV (by have := hl.out; (try simp only [List.length_append, List.length_cons, List.length_nil]); omega)).mono ?_
  rintro e w3 ⟨rfl, hN⟩
  go_wp2_with fail
  refine hK.out _ _ ⟨_, _, hN⟩ (fun hH => ?_)
  clear hK K' hV
  have hV := hN
  clear hN
  try simp only [Act.put, List.getElem_toArray, List.getElem_cons_succ, List.getElem_cons_zero, List.getElem?_toArray, List.getElem?_cons_succ, List.getElem?_cons_zero, List.setIfInBounds_toArray, List.set_cons_zero, List.set_cons_succ]
  refine wpAnyH_take (i := 10) (v := .pointer (some ⟨T, 0, none⟩)) rfl (by kernel_rfl) (by kernel_rfl) (by kernel_rfl) (fun _ _ _ h => HPN _ _ _ _ _ h) (Or.inl ⟨by kernel_rfl, fun W hW => ?_⟩) hH ?_
  · go_simp
  try simp only [Act.put, List.getElem_toArray, List.getElem_cons_succ, List.getElem_cons_zero, List.getElem?_toArray, List.getElem?_cons_succ, List.getElem?_cons_zero, List.setIfInBounds_toArray, List.set_cons_zero, List.set_cons_succ]
  refine wpAnyH_take (i := 11) (v := .pointer (some ⟨T, 5, none⟩)) rfl (by kernel_rfl) (by kernel_rfl) (by kernel_rfl) (fun _ _ _ h => HPN _ _ _ _ _ h) (Or.inl ⟨by kernel_rfl, fun W hW => ?_⟩) hH ?_
  · go_simp
  try simp only [Act.put, List.getElem_toArray, List.getElem_cons_succ, List.getElem_cons_zero, List.getElem?_toArray, List.getElem?_cons_succ, List.getElem?_cons_zero, List.setIfInBounds_toArray, List.set_cons_zero, List.set_cons_succ]
  refine wpAnyH_ready (rs := [12]) (by kernel_rfl) (by simp) (AllReadyH.cons rfl (fun K' hK => ?_) AllReadyH.nil)
  have ht := ro_th la.out lb.out lc.out ld.out (hV.row (g := T) (x := ro a b c d) (by simp)) 5 (by decide)
  refine if_pos_mpr (by kernel_rfl) (wp_store_mid 51 (.tmp 112) (.tmp 110) rfl T 5 (VI .u64 z) (by kernel_rfl) (by kernel_rfl) (by rw [VI_size, lz.out]; exact ht) (infoE5' lz.out) (VI_one _ _) ?_)
  have hE := hV.set rfl hT (but_setCells T (z.map (Value.int .u64)) 5 w3) (ro_s5 la.out lb.out lc.out ld.out (hV.row (g := T) (x := ro a b c d) (by simp)) lz.out)
  refine hK.out _ _ ⟨_, _, hE⟩ (fun hH => ?_)
  clear hK K'
  try simp only [Act.put, List.getElem_toArray, List.getElem_cons_succ, List.getElem_cons_zero, List.getElem?_toArray, List.getElem?_cons_succ, List.getElem?_cons_zero, List.setIfInBounds_toArray, List.set_cons_zero, List.set_cons_succ]
  refine wpAnyH_done (by kernel_rfl) ?_ _
  try simp only [Act.put, List.getElem_toArray, List.getElem_cons_succ, List.getElem_cons_zero, List.getElem?_toArray, List.getElem?_cons_succ, List.getElem?_cons_zero, List.setIfInBounds_toArray, List.set_cons_zero, List.set_cons_succ]
  exact HH.out _ hE
end Go.Proofs.Ytlffamcifahbjaa
