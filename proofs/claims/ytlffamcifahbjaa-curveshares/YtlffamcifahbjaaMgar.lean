import Derived.Deep.RegionHeld3
import Derived.Test.YtlffamcifahbjaaMgaq
namespace Go.Proofs.Ytlffamcifahbjaa
set_option linter.unusedSimpArgs false
set_option linter.unusedVariables false
open Go.ChangeShapes Go.WideShapes Go.ChangeAt Go.RowKit Go.Pin Go.Fld
theorem wp_as {P : Program} {c c' : Code} {Q : Exit → Act → World → Prop} {a : Act} {w : World} (h : c = c') (hc : Code.wp P c' Q a w) : Code.wp P c Q a w := by rw [h]; exact hc
/-- the region number n -/
def findReg (n : Nat) : Code → Option Code
  | .region i ops d => if i = n then some (.region i ops d) else none
  | .seq a b => match findReg n a with
    | some c => some c
    | none => findReg n b
  | .block _ c => findReg n c
  | .loop c => findReg n c
  | .scope c => findReg n c
  | .cond _ a b => match findReg n a with
    | some c => some c
    | none => findReg n b
  | _ => none
noncomputable def rgC1 : Code := ((Try.f24.body.bind (findReg 1)).getD .skip)
set_option maxRecDepth 100000 in
set_option maxHeartbeats 8000000 in
theorem climb_r1 {Q : Exit → Act → World → Prop} {B : Nat} {w W : World} {rv : Value} {l : List (Int × Int)} {bx : List (Nat × Obj)} {T : Nat} {a b c d x : List Int} {c2 c3 c4 c5 c6 c7 c8 c9 c10 c11 c12 c13 c14 c15 c16 c17 c18 c19 c20 c21 c22 c23 c24 c25 c26 c27 c28 c29 c30 c31 c32 c33 c34 c35 c36 c37 c38 c39 c40 c41 c42 c43 c44 c45 c46 c47 c48 c49 c50 c51 c52 c53 c54 c55 c56 c57 c58 c59 c60 c61 c62 c63 c64 c65 c66 c67 c68 c69 c70 c71 c72 c73 c74 c75 c76 c77 c78 c79 c80 c81 c82 c83 c84 c85 c86 c87 c88 c89 c90 c91 c92 c93 c94 c95 c96 c97 c98 c99 c100 c101 c102 c103 c104 c105 c106 c107 c108 c109 c110 c111 c112 : Value}
    (la : Hid (a.length = 5)) (lb : Hid (b.length = 5)) (lc : Hid (c.length = 5)) (ld : Hid (d.length = 5)) (lx : Hid (x.length = 5))
    (HC : Hid (∀ B w rv l bx wr, Ev B w rv l bx wr → l.length ≤ 1000000 → Calls Try.prog 40 #[rv, .agg (VI .u64 a), .agg (VI .u64 b)] wr fun e w' => e = .returned (.agg (VI .u64 x)) ∧ Ev B w rv (l ++ [(3, 1)]) bx w'))
    (hl : Hid (l.length ≤ 1000000))
    (XX : Ev B w rv l ((T, ro a b c d) :: bx) W)
    (HPN : ∀ c (a : Act) d v w, Q (.panic c) (a.put d v) w → Q (.panic c) a w)
    (H : ∀ g W', Ev B w rv (l ++ [(3, 1)]) ((g, bxE x) :: (T, ro a b c d) :: bx) W' → g ≠ T → Q .normal ⟨#[.pointer (some ⟨T, 0, none⟩), rv, c2, c3, c4, c5, .pointer (some ⟨g, 0, none⟩), c7, c8, c9, c10, c11, c12, c13, c14, rv, .pointer (some ⟨T, 0, none⟩), .pointer (some ⟨T, 0, none⟩), .pointer (some ⟨T, 0, none⟩), .agg (VI .u64 a), .pointer (some ⟨T, 0, none⟩), .pointer (some ⟨T, 0, none⟩), .pointer (some ⟨T, 5, none⟩), .agg (VI .u64 b), .agg (VI .u64 x), c25, c26, c27, c28, c29, c30, c31, c32, c33, c34, c35, c36, c37, c38, c39, c40, c41, c42, c43, c44, c45, c46, c47, c48, c49, c50, c51, c52, c53, c54, c55, c56, c57, c58, c59, c60, c61, c62, c63, c64, c65, c66, c67, c68, c69, c70, c71, c72, c73, c74, c75, c76, c77, c78, c79, c80, c81, c82, c83, c84, c85, c86, c87, c88, c89, c90, c91, c92, c93, c94, c95, c96, c97, c98, c99, c100, c101, c102, c103, c104, c105, c106, c107, c108, c109, c110, c111, c112], []⟩ W') :
    Code.wp Try.prog rgC1 Q ⟨#[.pointer (some ⟨T, 0, none⟩), rv, c2, c3, c4, c5, c6, c7, c8, c9, c10, c11, c12, c13, c14, c15, c16, c17, c18, c19, c20, c21, c22, c23, c24, c25, c26, c27, c28, c29, c30, c31, c32, c33, c34, c35, c36, c37, c38, c39, c40, c41, c42, c43, c44, c45, c46, c47, c48, c49, c50, c51, c52, c53, c54, c55, c56, c57, c58, c59, c60, c61, c62, c63, c64, c65, c66, c67, c68, c69, c70, c71, c72, c73, c74, c75, c76, c77, c78, c79, c80, c81, c82, c83, c84, c85, c86, c87, c88, c89, c90, c91, c92, c93, c94, c95, c96, c97, c98, c99, c100, c101, c102, c103, c104, c105, c106, c107, c108, c109, c110, c111, c112], []⟩ W := by
  have HH : Hid (∀ g W', Ev B w rv (l ++ [(3, 1)]) ((g, bxE x) :: (T, ro a b c d) :: bx) W' → g ≠ T → Q .normal ⟨#[.pointer (some ⟨T, 0, none⟩), rv, c2, c3, c4, c5, .pointer (some ⟨g, 0, none⟩), c7, c8, c9, c10, c11, c12, c13, c14, rv, .pointer (some ⟨T, 0, none⟩), .pointer (some ⟨T, 0, none⟩), .pointer (some ⟨T, 0, none⟩), .agg (VI .u64 a), .pointer (some ⟨T, 0, none⟩), .pointer (some ⟨T, 0, none⟩), .pointer (some ⟨T, 5, none⟩), .agg (VI .u64 b), .agg (VI .u64 x), c25, c26, c27, c28, c29, c30, c31, c32, c33, c34, c35, c36, c37, c38, c39, c40, c41, c42, c43, c44, c45, c46, c47, c48, c49, c50, c51, c52, c53, c54, c55, c56, c57, c58, c59, c60, c61, c62, c63, c64, c65, c66, c67, c68, c69, c70, c71, c72, c73, c74, c75, c76, c77, c78, c79, c80, c81, c82, c83, c84, c85, c86, c87, c88, c89, c90, c91, c92, c93, c94, c95, c96, c97, c98, c99, c100, c101, c102, c103, c104, c105, c106, c107, c108, c109, c110, c111, c112], []⟩ W') := H
  clear H
  conv => arg 2; whnf
  refine wp_region_held_drew (S := fun Y => ∃ l', Ev B w rv l' ((T, ro a b c d) :: bx) Y) (by kernel_rfl) ⟨l, XX.drew⟩ (fun hH => ?_)
  have hV := XX.drew
  clear XX
  obtain ⟨V0, hV0⟩ : ∃ V, W.drew = V := ⟨_, rfl⟩
  rw [hV0] at hH hV ⊢
  clear hV0
  refine wpAnyH_take (i := 0) (v := rv) rfl (by kernel_rfl) (by kernel_rfl) (by kernel_rfl) (fun _ _ _ h => HPN _ _ _ _ _ h) (Or.inl ⟨by kernel_rfl, fun W hW => ?_⟩) hH ?_
  · go_simp
  try simp only [Act.put, List.getElem_toArray, List.getElem_cons_succ, List.getElem_cons_zero, List.getElem?_toArray, List.getElem?_cons_succ, List.getElem?_cons_zero, List.setIfInBounds_toArray, List.set_cons_zero, List.set_cons_succ]
  refine wpAnyH_take (i := 1) (v := .pointer (some ⟨T, 0, none⟩)) rfl (by kernel_rfl) (by kernel_rfl) (by kernel_rfl) (fun _ _ _ h => HPN _ _ _ _ _ h) (Or.inl ⟨by kernel_rfl, fun W hW => ?_⟩) hH ?_
  · go_simp
  try simp only [Act.put, List.getElem_toArray, List.getElem_cons_succ, List.getElem_cons_zero, List.getElem?_toArray, List.getElem?_cons_succ, List.getElem?_cons_zero, List.setIfInBounds_toArray, List.set_cons_zero, List.set_cons_succ]
  refine wpAnyH_take (i := 2) (v := .pointer (some ⟨T, 0, none⟩)) rfl (by kernel_rfl) (by kernel_rfl) (by kernel_rfl) (fun _ _ _ h => HPN _ _ _ _ _ h) (Or.inl ⟨by kernel_rfl, fun W hW => ?_⟩) hH ?_
  · go_simp
  try simp only [Act.put, List.getElem_toArray, List.getElem_cons_succ, List.getElem_cons_zero, List.getElem?_toArray, List.getElem?_cons_succ, List.getElem?_cons_zero, List.setIfInBounds_toArray, List.set_cons_zero, List.set_cons_succ]
  refine wpAnyH_take (i := 3) (v := .pointer (some ⟨T, 0, none⟩)) rfl (by kernel_rfl) (by kernel_rfl) (by kernel_rfl) (fun _ _ _ h => HPN _ _ _ _ _ h) (Or.inl ⟨by kernel_rfl, fun W hW => ?_⟩) hH ?_
  · go_simp
  try simp only [Act.put, List.getElem_toArray, List.getElem_cons_succ, List.getElem_cons_zero, List.getElem?_toArray, List.getElem?_cons_succ, List.getElem?_cons_zero, List.setIfInBounds_toArray, List.set_cons_zero, List.set_cons_succ]
  refine wpAnyH_take (i := 5) (v := .pointer (some ⟨T, 0, none⟩)) rfl (by kernel_rfl) (by kernel_rfl) (by kernel_rfl) (fun _ _ _ h => HPN _ _ _ _ _ h) (Or.inl ⟨by kernel_rfl, fun W hW => ?_⟩) hH ?_
  · go_simp
  try simp only [Act.put, List.getElem_toArray, List.getElem_cons_succ, List.getElem_cons_zero, List.getElem?_toArray, List.getElem?_cons_succ, List.getElem?_cons_zero, List.setIfInBounds_toArray, List.set_cons_zero, List.set_cons_succ]
  refine wpAnyH_take (i := 6) (v := .pointer (some ⟨T, 0, none⟩)) rfl (by kernel_rfl) (by kernel_rfl) (by kernel_rfl) (fun _ _ _ h => HPN _ _ _ _ _ h) (Or.inl ⟨by kernel_rfl, fun W hW => ?_⟩) hH ?_
  · go_simp
  try simp only [Act.put, List.getElem_toArray, List.getElem_cons_succ, List.getElem_cons_zero, List.getElem?_toArray, List.getElem?_cons_succ, List.getElem?_cons_zero, List.setIfInBounds_toArray, List.set_cons_zero, List.set_cons_succ]
  refine wpAnyH_take (i := 7) (v := .pointer (some ⟨T, 5, none⟩)) rfl (by kernel_rfl) (by kernel_rfl) (by kernel_rfl) (fun _ _ _ h => HPN _ _ _ _ _ h) (Or.inl ⟨by kernel_rfl, fun W hW => ?_⟩) hH ?_
  · go_simp
  try simp only [Act.put, List.getElem_toArray, List.getElem_cons_succ, List.getElem_cons_zero, List.getElem?_toArray, List.getElem?_cons_succ, List.getElem?_cons_zero, List.setIfInBounds_toArray, List.set_cons_zero, List.set_cons_succ]
  refine wpAnyH_take (i := 4) (v := .agg (VI .u64 a)) rfl (by kernel_rfl) (by kernel_rfl) (by kernel_rfl) (fun _ _ _ h => HPN _ _ _ _ _ h) (yieldsIf_load_mid (by kernel_rfl) 51 (.tmp 18) rfl T 0 (by kernel_rfl) (a.map (Value.int .u64)) _ (fun Y hY => (by obtain ⟨l', hY⟩ := hY; exact ro_0 la.out lb.out lc.out ld.out (hY.row (by simp)))) Try.underlying51 rfl (by rw [List.length_map]; exact infoE5 la.out)) hH ?_
  try simp only [Act.put, List.getElem_toArray, List.getElem_cons_succ, List.getElem_cons_zero, List.getElem?_toArray, List.getElem?_cons_succ, List.getElem?_cons_zero, List.setIfInBounds_toArray, List.set_cons_zero, List.set_cons_succ]
  refine wpAnyH_take (i := 8) (v := .agg (VI .u64 b)) rfl (by kernel_rfl) (by kernel_rfl) (by kernel_rfl) (fun _ _ _ h => HPN _ _ _ _ _ h) (yieldsIf_load_mid (by kernel_rfl) 51 (.tmp 22) rfl T 5 (by kernel_rfl) (b.map (Value.int .u64)) _ (fun Y hY => (by obtain ⟨l', hY⟩ := hY; exact ro_5 la.out lb.out lc.out ld.out (hY.row (by simp)))) Try.underlying51 rfl (by rw [List.length_map]; exact infoE5 lb.out)) hH ?_
  try simp only [Act.put, List.getElem_toArray, List.getElem_cons_succ, List.getElem_cons_zero, List.getElem?_toArray, List.getElem?_cons_succ, List.getElem?_cons_zero, List.setIfInBounds_toArray, List.set_cons_zero, List.set_cons_succ]
  refine wpAnyH_ready (rs := [9, 10]) (by kernel_rfl) (by simp) (AllReadyH.cons rfl (fun K' hK => ?_) (AllReadyH.cons rfl (fun K' hK => ?_) AllReadyH.nil))
  · go_simp
    refine (HC.out _ _ _ _ _ _ hV hl.out).mono ?_
    rintro e w1 ⟨rfl, hN⟩
    go_wp2_with fail
    refine hK.out _ _ ⟨_, hN⟩ (fun hH => ?_)
    clear hK K' hV
    have hV := hN
    clear hN
    try simp only [Act.put, List.getElem_toArray, List.getElem_cons_succ, List.getElem_cons_zero, List.getElem?_toArray, List.getElem?_cons_succ, List.getElem?_cons_zero, List.setIfInBounds_toArray, List.set_cons_zero, List.set_cons_succ]
    refine wpAnyH_ready (rs := [10]) (by kernel_rfl) (by simp) (AllReadyH.cons rfl (fun K' hK => ?_) AllReadyH.nil)
    go_simp
    have hZ := hV.new (bxE [0, 0, 0, 0, 0])
    have hf : ∀ p ∈ ((T, ro a b c d) :: bx), p.1 ≠ w1.heap.size := fun p hp => Nat.ne_of_lt (hV.lt (g := p.1) (x := p.2) hp)
    obtain ⟨g, hg⟩ : ∃ g, w1.heap.size = g := ⟨_, rfl⟩
    rw [hg] at hZ hf
    try simp only [hg]
    obtain ⟨Z0, hZ0⟩ : ∃ Z, w1.alloc (.cells #[.int .u64 0, .int .u64 0, .int .u64 0, .int .u64 0, .int .u64 0] 51) = Z := ⟨_, rfl⟩
    rw [show w1.alloc (bxE [0, 0, 0, 0, 0]) = Z0 from hZ0] at hZ
    rw [hZ0]
    clear hZ0 hg
    refine hK.out _ _ ⟨_, hZ.sub (fun p hp => List.mem_cons_of_mem _ hp)⟩ (fun hH => ?_)
    clear hK K'
    try simp only [Act.put, List.getElem_toArray, List.getElem_cons_succ, List.getElem_cons_zero, List.getElem?_toArray, List.getElem?_cons_succ, List.getElem?_cons_zero, List.setIfInBounds_toArray, List.set_cons_zero, List.set_cons_succ]
    refine wpAnyH_ready (rs := [11]) (by kernel_rfl) (by simp) (AllReadyH.cons rfl (fun K' hK => ?_) AllReadyH.nil)
    have ht := there_mid (hZ.row (g := g) (x := bxE [0, 0, 0, 0, 0]) (by simp)) 0 5 (by simp [VI])
    refine if_pos_mpr (by kernel_rfl) (wp_store_mid 51 (.tmp 6) (.tmp 24) rfl g 0 (VI .u64 x) (by kernel_rfl) (by kernel_rfl) (by rw [VI_size, lx.out]; exact ht) (infoE5' lx.out) (VI_one _ _) ?_)
    have hE := hZ.set rfl hf (but_setCells g (x.map (Value.int .u64)) 0 Z0) (whole_set (hZ.row (g := g) (x := bxE [0, 0, 0, 0, 0]) (by simp)) (by rw [lx.out]; rfl))
    refine hK.out _ _ ⟨_, hE.sub (fun p hp => List.mem_cons_of_mem _ hp)⟩ (fun hH => ?_)
    clear hK K'
    try simp only [Act.put, List.getElem_toArray, List.getElem_cons_succ, List.getElem_cons_zero, List.getElem?_toArray, List.getElem?_cons_succ, List.getElem?_cons_zero, List.setIfInBounds_toArray, List.set_cons_zero, List.set_cons_succ]
    refine wpAnyH_done (by kernel_rfl) ?_ _
    try simp only [Act.put, List.getElem_toArray, List.getElem_cons_succ, List.getElem_cons_zero, List.getElem?_toArray, List.getElem?_cons_succ, List.getElem?_cons_zero, List.setIfInBounds_toArray, List.set_cons_zero, List.set_cons_succ]
    exact HH.out g _ hE (fun e => hf (T, ro a b c d) (by simp) e.symm)
  · go_simp
    have hZ := hV.new (bxE [0, 0, 0, 0, 0])
    have hf : ∀ p ∈ ((T, ro a b c d) :: bx), p.1 ≠ V0.heap.size := fun p hp => Nat.ne_of_lt (hV.lt (g := p.1) (x := p.2) hp)
    obtain ⟨g, hg⟩ : ∃ g, V0.heap.size = g := ⟨_, rfl⟩
    rw [hg] at hZ hf
    try simp only [hg]
    obtain ⟨Z0, hZ0⟩ : ∃ Z, V0.alloc (.cells #[.int .u64 0, .int .u64 0, .int .u64 0, .int .u64 0, .int .u64 0] 51) = Z := ⟨_, rfl⟩
    rw [show V0.alloc (bxE [0, 0, 0, 0, 0]) = Z0 from hZ0] at hZ
    rw [hZ0]
    clear hZ0 hg
    refine hK.out _ _ ⟨_, hZ.sub (fun p hp => List.mem_cons_of_mem _ hp)⟩ (fun hH => ?_)
    clear hK K'
    try simp only [Act.put, List.getElem_toArray, List.getElem_cons_succ, List.getElem_cons_zero, List.getElem?_toArray, List.getElem?_cons_succ, List.getElem?_cons_zero, List.setIfInBounds_toArray, List.set_cons_zero, List.set_cons_succ]
    refine wpAnyH_ready (rs := [9]) (by kernel_rfl) (by simp) (AllReadyH.cons rfl (fun K' hK => ?_) AllReadyH.nil)
    go_simp
    refine (HC.out _ _ _ _ _ _ hZ hl.out).mono ?_
    rintro e w1 ⟨rfl, hN⟩
    go_wp2_with fail
    refine hK.out _ _ ⟨_, hN.sub (fun p hp => List.mem_cons_of_mem _ hp)⟩ (fun hH => ?_)
    clear hK K' hZ
    try simp only [Act.put, List.getElem_toArray, List.getElem_cons_succ, List.getElem_cons_zero, List.getElem?_toArray, List.getElem?_cons_succ, List.getElem?_cons_zero, List.setIfInBounds_toArray, List.set_cons_zero, List.set_cons_succ]
    refine wpAnyH_ready (rs := [11]) (by kernel_rfl) (by simp) (AllReadyH.cons rfl (fun K' hK => ?_) AllReadyH.nil)
    have ht := there_mid (hN.row (g := g) (x := bxE [0, 0, 0, 0, 0]) (by simp)) 0 5 (by simp [VI])
    refine if_pos_mpr (by kernel_rfl) (wp_store_mid 51 (.tmp 6) (.tmp 24) rfl g 0 (VI .u64 x) (by kernel_rfl) (by kernel_rfl) (by rw [VI_size, lx.out]; exact ht) (infoE5' lx.out) (VI_one _ _) ?_)
    have hE := hN.set rfl hf (but_setCells g (x.map (Value.int .u64)) 0 w1) (whole_set (hN.row (g := g) (x := bxE [0, 0, 0, 0, 0]) (by simp)) (by rw [lx.out]; rfl))
    refine hK.out _ _ ⟨_, hE.sub (fun p hp => List.mem_cons_of_mem _ hp)⟩ (fun hH => ?_)
    clear hK K'
    try simp only [Act.put, List.getElem_toArray, List.getElem_cons_succ, List.getElem_cons_zero, List.getElem?_toArray, List.getElem?_cons_succ, List.getElem?_cons_zero, List.setIfInBounds_toArray, List.set_cons_zero, List.set_cons_succ]
    refine wpAnyH_done (by kernel_rfl) ?_ _
    try simp only [Act.put, List.getElem_toArray, List.getElem_cons_succ, List.getElem_cons_zero, List.getElem?_toArray, List.getElem?_cons_succ, List.getElem?_cons_zero, List.setIfInBounds_toArray, List.set_cons_zero, List.set_cons_succ]
    exact HH.out g _ hE (fun e => hf (T, ro a b c d) (by simp) e.symm)
noncomputable def rgC3 : Code := ((Try.f24.body.bind (findReg 3)).getD .skip)
set_option maxRecDepth 100000 in
set_option maxHeartbeats 8000000 in
theorem climb_r3 {Q : Exit → Act → World → Prop} {B : Nat} {w W : World} {rv : Value} {l : List (Int × Int)} {bx : List (Nat × Obj)} {T : Nat} {a b c d x : List Int} {c2 c3 c4 c5 c6 c7 c8 c9 c10 c11 c12 c13 c14 c15 c16 c17 c18 c19 c20 c21 c22 c23 c24 c25 c26 c27 c28 c29 c30 c31 c32 c33 c34 c35 c36 c37 c38 c39 c40 c41 c42 c43 c44 c45 c46 c47 c48 c49 c50 c51 c52 c53 c54 c55 c56 c57 c58 c59 c60 c61 c62 c63 c64 c65 c66 c67 c68 c69 c70 c71 c72 c73 c74 c75 c76 c77 c78 c79 c80 c81 c82 c83 c84 c85 c86 c87 c88 c89 c90 c91 c92 c93 c94 c95 c96 c97 c98 c99 c100 c101 c102 c103 c104 c105 c106 c107 c108 c109 c110 c111 c112 : Value}
    (la : Hid (a.length = 5)) (lb : Hid (b.length = 5)) (lc : Hid (c.length = 5)) (ld : Hid (d.length = 5)) (lx : Hid (x.length = 5))
    (HC : Hid (∀ B w rv l bx wr, Ev B w rv l bx wr → l.length ≤ 1000000 → Calls Try.prog 42 #[rv, .agg (VI .u64 a), .agg (VI .u64 b)] wr fun e w' => e = .returned (.agg (VI .u64 x)) ∧ Ev B w rv (l ++ [(3, 2)]) bx w'))
    (hl : Hid (l.length ≤ 1000000))
    (XX : Ev B w rv l ((T, ro a b c d) :: bx) W)
    (HPN : ∀ c (a : Act) d v w, Q (.panic c) (a.put d v) w → Q (.panic c) a w)
    (H : ∀ g W', Ev B w rv (l ++ [(3, 2)]) ((g, bxE x) :: (T, ro a b c d) :: bx) W' → g ≠ T → Q .normal ⟨#[.pointer (some ⟨T, 0, none⟩), rv, c2, c3, c4, c5, c6, c7, .pointer (some ⟨g, 0, none⟩), c9, c10, c11, c12, c13, c14, c15, c16, c17, c18, c19, c20, c21, c22, c23, c24, c25, c26, c27, rv, .pointer (some ⟨T, 0, none⟩), .pointer (some ⟨T, 0, none⟩), .pointer (some ⟨T, 0, none⟩), .agg (VI .u64 a), .pointer (some ⟨T, 0, none⟩), .pointer (some ⟨T, 0, none⟩), .pointer (some ⟨T, 5, none⟩), .agg (VI .u64 b), .agg (VI .u64 x), c38, c39, c40, c41, c42, c43, c44, c45, c46, c47, c48, c49, c50, c51, c52, c53, c54, c55, c56, c57, c58, c59, c60, c61, c62, c63, c64, c65, c66, c67, c68, c69, c70, c71, c72, c73, c74, c75, c76, c77, c78, c79, c80, c81, c82, c83, c84, c85, c86, c87, c88, c89, c90, c91, c92, c93, c94, c95, c96, c97, c98, c99, c100, c101, c102, c103, c104, c105, c106, c107, c108, c109, c110, c111, c112], []⟩ W') :
    Code.wp Try.prog rgC3 Q ⟨#[.pointer (some ⟨T, 0, none⟩), rv, c2, c3, c4, c5, c6, c7, c8, c9, c10, c11, c12, c13, c14, c15, c16, c17, c18, c19, c20, c21, c22, c23, c24, c25, c26, c27, c28, c29, c30, c31, c32, c33, c34, c35, c36, c37, c38, c39, c40, c41, c42, c43, c44, c45, c46, c47, c48, c49, c50, c51, c52, c53, c54, c55, c56, c57, c58, c59, c60, c61, c62, c63, c64, c65, c66, c67, c68, c69, c70, c71, c72, c73, c74, c75, c76, c77, c78, c79, c80, c81, c82, c83, c84, c85, c86, c87, c88, c89, c90, c91, c92, c93, c94, c95, c96, c97, c98, c99, c100, c101, c102, c103, c104, c105, c106, c107, c108, c109, c110, c111, c112], []⟩ W := by
  have HH : Hid (∀ g W', Ev B w rv (l ++ [(3, 2)]) ((g, bxE x) :: (T, ro a b c d) :: bx) W' → g ≠ T → Q .normal ⟨#[.pointer (some ⟨T, 0, none⟩), rv, c2, c3, c4, c5, c6, c7, .pointer (some ⟨g, 0, none⟩), c9, c10, c11, c12, c13, c14, c15, c16, c17, c18, c19, c20, c21, c22, c23, c24, c25, c26, c27, rv, .pointer (some ⟨T, 0, none⟩), .pointer (some ⟨T, 0, none⟩), .pointer (some ⟨T, 0, none⟩), .agg (VI .u64 a), .pointer (some ⟨T, 0, none⟩), .pointer (some ⟨T, 0, none⟩), .pointer (some ⟨T, 5, none⟩), .agg (VI .u64 b), .agg (VI .u64 x), c38, c39, c40, c41, c42, c43, c44, c45, c46, c47, c48, c49, c50, c51, c52, c53, c54, c55, c56, c57, c58, c59, c60, c61, c62, c63, c64, c65, c66, c67, c68, c69, c70, c71, c72, c73, c74, c75, c76, c77, c78, c79, c80, c81, c82, c83, c84, c85, c86, c87, c88, c89, c90, c91, c92, c93, c94, c95, c96, c97, c98, c99, c100, c101, c102, c103, c104, c105, c106, c107, c108, c109, c110, c111, c112], []⟩ W') := H
  clear H
  conv => arg 2; whnf
  refine wp_region_held_drew (S := fun Y => ∃ l', Ev B w rv l' ((T, ro a b c d) :: bx) Y) (by kernel_rfl) ⟨l, XX.drew⟩ (fun hH => ?_)
  have hV := XX.drew
  clear XX
  obtain ⟨V0, hV0⟩ : ∃ V, W.drew = V := ⟨_, rfl⟩
  rw [hV0] at hH hV ⊢
  clear hV0
  refine wpAnyH_take (i := 0) (v := rv) rfl (by kernel_rfl) (by kernel_rfl) (by kernel_rfl) (fun _ _ _ h => HPN _ _ _ _ _ h) (Or.inl ⟨by kernel_rfl, fun W hW => ?_⟩) hH ?_
  · go_simp
  try simp only [Act.put, List.getElem_toArray, List.getElem_cons_succ, List.getElem_cons_zero, List.getElem?_toArray, List.getElem?_cons_succ, List.getElem?_cons_zero, List.setIfInBounds_toArray, List.set_cons_zero, List.set_cons_succ]
  refine wpAnyH_take (i := 1) (v := .pointer (some ⟨T, 0, none⟩)) rfl (by kernel_rfl) (by kernel_rfl) (by kernel_rfl) (fun _ _ _ h => HPN _ _ _ _ _ h) (Or.inl ⟨by kernel_rfl, fun W hW => ?_⟩) hH ?_
  · go_simp
  try simp only [Act.put, List.getElem_toArray, List.getElem_cons_succ, List.getElem_cons_zero, List.getElem?_toArray, List.getElem?_cons_succ, List.getElem?_cons_zero, List.setIfInBounds_toArray, List.set_cons_zero, List.set_cons_succ]
  refine wpAnyH_take (i := 2) (v := .pointer (some ⟨T, 0, none⟩)) rfl (by kernel_rfl) (by kernel_rfl) (by kernel_rfl) (fun _ _ _ h => HPN _ _ _ _ _ h) (Or.inl ⟨by kernel_rfl, fun W hW => ?_⟩) hH ?_
  · go_simp
  try simp only [Act.put, List.getElem_toArray, List.getElem_cons_succ, List.getElem_cons_zero, List.getElem?_toArray, List.getElem?_cons_succ, List.getElem?_cons_zero, List.setIfInBounds_toArray, List.set_cons_zero, List.set_cons_succ]
  refine wpAnyH_take (i := 3) (v := .pointer (some ⟨T, 0, none⟩)) rfl (by kernel_rfl) (by kernel_rfl) (by kernel_rfl) (fun _ _ _ h => HPN _ _ _ _ _ h) (Or.inl ⟨by kernel_rfl, fun W hW => ?_⟩) hH ?_
  · go_simp
  try simp only [Act.put, List.getElem_toArray, List.getElem_cons_succ, List.getElem_cons_zero, List.getElem?_toArray, List.getElem?_cons_succ, List.getElem?_cons_zero, List.setIfInBounds_toArray, List.set_cons_zero, List.set_cons_succ]
  refine wpAnyH_take (i := 5) (v := .pointer (some ⟨T, 0, none⟩)) rfl (by kernel_rfl) (by kernel_rfl) (by kernel_rfl) (fun _ _ _ h => HPN _ _ _ _ _ h) (Or.inl ⟨by kernel_rfl, fun W hW => ?_⟩) hH ?_
  · go_simp
  try simp only [Act.put, List.getElem_toArray, List.getElem_cons_succ, List.getElem_cons_zero, List.getElem?_toArray, List.getElem?_cons_succ, List.getElem?_cons_zero, List.setIfInBounds_toArray, List.set_cons_zero, List.set_cons_succ]
  refine wpAnyH_take (i := 6) (v := .pointer (some ⟨T, 0, none⟩)) rfl (by kernel_rfl) (by kernel_rfl) (by kernel_rfl) (fun _ _ _ h => HPN _ _ _ _ _ h) (Or.inl ⟨by kernel_rfl, fun W hW => ?_⟩) hH ?_
  · go_simp
  try simp only [Act.put, List.getElem_toArray, List.getElem_cons_succ, List.getElem_cons_zero, List.getElem?_toArray, List.getElem?_cons_succ, List.getElem?_cons_zero, List.setIfInBounds_toArray, List.set_cons_zero, List.set_cons_succ]
  refine wpAnyH_take (i := 7) (v := .pointer (some ⟨T, 5, none⟩)) rfl (by kernel_rfl) (by kernel_rfl) (by kernel_rfl) (fun _ _ _ h => HPN _ _ _ _ _ h) (Or.inl ⟨by kernel_rfl, fun W hW => ?_⟩) hH ?_
  · go_simp
  try simp only [Act.put, List.getElem_toArray, List.getElem_cons_succ, List.getElem_cons_zero, List.getElem?_toArray, List.getElem?_cons_succ, List.getElem?_cons_zero, List.setIfInBounds_toArray, List.set_cons_zero, List.set_cons_succ]
  refine wpAnyH_take (i := 4) (v := .agg (VI .u64 a)) rfl (by kernel_rfl) (by kernel_rfl) (by kernel_rfl) (fun _ _ _ h => HPN _ _ _ _ _ h) (yieldsIf_load_mid (by kernel_rfl) 51 (.tmp 31) rfl T 0 (by kernel_rfl) (a.map (Value.int .u64)) _ (fun Y hY => (by obtain ⟨l', hY⟩ := hY; exact ro_0 la.out lb.out lc.out ld.out (hY.row (by simp)))) Try.underlying51 rfl (by rw [List.length_map]; exact infoE5 la.out)) hH ?_
  try simp only [Act.put, List.getElem_toArray, List.getElem_cons_succ, List.getElem_cons_zero, List.getElem?_toArray, List.getElem?_cons_succ, List.getElem?_cons_zero, List.setIfInBounds_toArray, List.set_cons_zero, List.set_cons_succ]
  refine wpAnyH_take (i := 8) (v := .agg (VI .u64 b)) rfl (by kernel_rfl) (by kernel_rfl) (by kernel_rfl) (fun _ _ _ h => HPN _ _ _ _ _ h) (yieldsIf_load_mid (by kernel_rfl) 51 (.tmp 35) rfl T 5 (by kernel_rfl) (b.map (Value.int .u64)) _ (fun Y hY => (by obtain ⟨l', hY⟩ := hY; exact ro_5 la.out lb.out lc.out ld.out (hY.row (by simp)))) Try.underlying51 rfl (by rw [List.length_map]; exact infoE5 lb.out)) hH ?_
  try simp only [Act.put, List.getElem_toArray, List.getElem_cons_succ, List.getElem_cons_zero, List.getElem?_toArray, List.getElem?_cons_succ, List.getElem?_cons_zero, List.setIfInBounds_toArray, List.set_cons_zero, List.set_cons_succ]
  refine wpAnyH_ready (rs := [9, 10]) (by kernel_rfl) (by simp) (AllReadyH.cons rfl (fun K' hK => ?_) (AllReadyH.cons rfl (fun K' hK => ?_) AllReadyH.nil))
  · go_simp
    refine (HC.out _ _ _ _ _ _ hV hl.out).mono ?_
    rintro e w1 ⟨rfl, hN⟩
    go_wp2_with fail
    refine hK.out _ _ ⟨_, hN⟩ (fun hH => ?_)
    clear hK K' hV
    have hV := hN
    clear hN
    try simp only [Act.put, List.getElem_toArray, List.getElem_cons_succ, List.getElem_cons_zero, List.getElem?_toArray, List.getElem?_cons_succ, List.getElem?_cons_zero, List.setIfInBounds_toArray, List.set_cons_zero, List.set_cons_succ]
    refine wpAnyH_ready (rs := [10]) (by kernel_rfl) (by simp) (AllReadyH.cons rfl (fun K' hK => ?_) AllReadyH.nil)
    go_simp
    have hZ := hV.new (bxE [0, 0, 0, 0, 0])
    have hf : ∀ p ∈ ((T, ro a b c d) :: bx), p.1 ≠ w1.heap.size := fun p hp => Nat.ne_of_lt (hV.lt (g := p.1) (x := p.2) hp)
    obtain ⟨g, hg⟩ : ∃ g, w1.heap.size = g := ⟨_, rfl⟩
    rw [hg] at hZ hf
    try simp only [hg]
    obtain ⟨Z0, hZ0⟩ : ∃ Z, w1.alloc (.cells #[.int .u64 0, .int .u64 0, .int .u64 0, .int .u64 0, .int .u64 0] 51) = Z := ⟨_, rfl⟩
    rw [show w1.alloc (bxE [0, 0, 0, 0, 0]) = Z0 from hZ0] at hZ
    rw [hZ0]
    clear hZ0 hg
    refine hK.out _ _ ⟨_, hZ.sub (fun p hp => List.mem_cons_of_mem _ hp)⟩ (fun hH => ?_)
    clear hK K'
    try simp only [Act.put, List.getElem_toArray, List.getElem_cons_succ, List.getElem_cons_zero, List.getElem?_toArray, List.getElem?_cons_succ, List.getElem?_cons_zero, List.setIfInBounds_toArray, List.set_cons_zero, List.set_cons_succ]
    refine wpAnyH_ready (rs := [11]) (by kernel_rfl) (by simp) (AllReadyH.cons rfl (fun K' hK => ?_) AllReadyH.nil)
    have ht := there_mid (hZ.row (g := g) (x := bxE [0, 0, 0, 0, 0]) (by simp)) 0 5 (by simp [VI])
    refine if_pos_mpr (by kernel_rfl) (wp_store_mid 51 (.tmp 8) (.tmp 37) rfl g 0 (VI .u64 x) (by kernel_rfl) (by kernel_rfl) (by rw [VI_size, lx.out]; exact ht) (infoE5' lx.out) (VI_one _ _) ?_)
    have hE := hZ.set rfl hf (but_setCells g (x.map (Value.int .u64)) 0 Z0) (whole_set (hZ.row (g := g) (x := bxE [0, 0, 0, 0, 0]) (by simp)) (by rw [lx.out]; rfl))
    refine hK.out _ _ ⟨_, hE.sub (fun p hp => List.mem_cons_of_mem _ hp)⟩ (fun hH => ?_)
    clear hK K'
    try simp only [Act.put, List.getElem_toArray, List.getElem_cons_succ, List.getElem_cons_zero, List.getElem?_toArray, List.getElem?_cons_succ, List.getElem?_cons_zero, List.setIfInBounds_toArray, List.set_cons_zero, List.set_cons_succ]
    refine wpAnyH_done (by kernel_rfl) ?_ _
    try simp only [Act.put, List.getElem_toArray, List.getElem_cons_succ, List.getElem_cons_zero, List.getElem?_toArray, List.getElem?_cons_succ, List.getElem?_cons_zero, List.setIfInBounds_toArray, List.set_cons_zero, List.set_cons_succ]
    exact HH.out g _ hE (fun e => hf (T, ro a b c d) (by simp) e.symm)
  · go_simp
    have hZ := hV.new (bxE [0, 0, 0, 0, 0])
    have hf : ∀ p ∈ ((T, ro a b c d) :: bx), p.1 ≠ V0.heap.size := fun p hp => Nat.ne_of_lt (hV.lt (g := p.1) (x := p.2) hp)
    obtain ⟨g, hg⟩ : ∃ g, V0.heap.size = g := ⟨_, rfl⟩
    rw [hg] at hZ hf
    try simp only [hg]
    obtain ⟨Z0, hZ0⟩ : ∃ Z, V0.alloc (.cells #[.int .u64 0, .int .u64 0, .int .u64 0, .int .u64 0, .int .u64 0] 51) = Z := ⟨_, rfl⟩
    rw [show V0.alloc (bxE [0, 0, 0, 0, 0]) = Z0 from hZ0] at hZ
    rw [hZ0]
    clear hZ0 hg
    refine hK.out _ _ ⟨_, hZ.sub (fun p hp => List.mem_cons_of_mem _ hp)⟩ (fun hH => ?_)
    clear hK K'
    try simp only [Act.put, List.getElem_toArray, List.getElem_cons_succ, List.getElem_cons_zero, List.getElem?_toArray, List.getElem?_cons_succ, List.getElem?_cons_zero, List.setIfInBounds_toArray, List.set_cons_zero, List.set_cons_succ]
    refine wpAnyH_ready (rs := [9]) (by kernel_rfl) (by simp) (AllReadyH.cons rfl (fun K' hK => ?_) AllReadyH.nil)
    go_simp
    refine (HC.out _ _ _ _ _ _ hZ hl.out).mono ?_
    rintro e w1 ⟨rfl, hN⟩
    go_wp2_with fail
    refine hK.out _ _ ⟨_, hN.sub (fun p hp => List.mem_cons_of_mem _ hp)⟩ (fun hH => ?_)
    clear hK K' hZ
    try simp only [Act.put, List.getElem_toArray, List.getElem_cons_succ, List.getElem_cons_zero, List.getElem?_toArray, List.getElem?_cons_succ, List.getElem?_cons_zero, List.setIfInBounds_toArray, List.set_cons_zero, List.set_cons_succ]
    refine wpAnyH_ready (rs := [11]) (by kernel_rfl) (by simp) (AllReadyH.cons rfl (fun K' hK => ?_) AllReadyH.nil)
    have ht := there_mid (hN.row (g := g) (x := bxE [0, 0, 0, 0, 0]) (by simp)) 0 5 (by simp [VI])
    refine if_pos_mpr (by kernel_rfl) (wp_store_mid 51 (.tmp 8) (.tmp 37) rfl g 0 (VI .u64 x) (by kernel_rfl) (by kernel_rfl) (by rw [VI_size, lx.out]; exact ht) (infoE5' lx.out) (VI_one _ _) ?_)
    have hE := hN.set rfl hf (but_setCells g (x.map (Value.int .u64)) 0 w1) (whole_set (hN.row (g := g) (x := bxE [0, 0, 0, 0, 0]) (by simp)) (by rw [lx.out]; rfl))
    refine hK.out _ _ ⟨_, hE.sub (fun p hp => List.mem_cons_of_mem _ hp)⟩ (fun hH => ?_)
    clear hK K'
    try simp only [Act.put, List.getElem_toArray, List.getElem_cons_succ, List.getElem_cons_zero, List.getElem?_toArray, List.getElem?_cons_succ, List.getElem?_cons_zero, List.setIfInBounds_toArray, List.set_cons_zero, List.set_cons_succ]
    refine wpAnyH_done (by kernel_rfl) ?_ _
    try simp only [Act.put, List.getElem_toArray, List.getElem_cons_succ, List.getElem_cons_zero, List.getElem?_toArray, List.getElem?_cons_succ, List.getElem?_cons_zero, List.setIfInBounds_toArray, List.set_cons_zero, List.set_cons_succ]
    exact HH.out g _ hE (fun e => hf (T, ro a b c d) (by simp) e.symm)
noncomputable def rgC6 : Code := ((Try.f24.body.bind (findReg 6)).getD .skip)
set_option maxRecDepth 100000 in
set_option maxHeartbeats 8000000 in
theorem climb_r6 {Q : Exit → Act → World → Prop} {B : Nat} {w W : World} {rv : Value} {l : List (Int × Int)} {bx : List (Nat × Obj)} {T : Nat} {a b c d x : List Int} {c2 c3 c4 c5 c6 c7 c8 c9 c10 c11 c12 c13 c14 c15 c16 c17 c18 c19 c20 c21 c22 c23 c24 c25 c26 c27 c28 c29 c30 c31 c32 c33 c34 c35 c36 c37 c38 c39 c40 c41 c42 c43 c44 c45 c46 c47 c48 c49 c50 c51 c52 c53 c54 c55 c56 c57 c58 c59 c60 c61 c62 c63 c64 c65 c66 c67 c68 c69 c70 c71 c72 c73 c74 c75 c76 c77 c78 c79 c80 c81 c82 c83 c84 c85 c86 c87 c88 c89 c90 c91 c92 c93 c94 c95 c96 c97 c98 c99 c100 c101 c102 c103 c104 c105 c106 c107 c108 c109 c110 c111 c112 : Value}
    (la : Hid (a.length = 5)) (lb : Hid (b.length = 5)) (lc : Hid (c.length = 5)) (ld : Hid (d.length = 5)) (lx : Hid (x.length = 5))
    (HC : Hid (∀ B w rv l bx wr, Ev B w rv l bx wr → l.length ≤ 1000000 → Calls Try.prog 40 #[rv, .agg (VI .u64 c), .agg (VI .u64 d)] wr fun e w' => e = .returned (.agg (VI .u64 x)) ∧ Ev B w rv (l ++ [(3, 1)]) bx w'))
    (hl : Hid (l.length ≤ 1000000))
    (XX : Ev B w rv l ((T, ro a b c d) :: bx) W)
    (HPN : ∀ c (a : Act) d v w, Q (.panic c) (a.put d v) w → Q (.panic c) a w)
    (H : ∀ g W', Ev B w rv (l ++ [(3, 1)]) ((g, bxE x) :: (T, ro a b c d) :: bx) W' → g ≠ T → Q .normal ⟨#[.pointer (some ⟨T, 0, none⟩), rv, c2, c3, c4, c5, c6, c7, c8, c9, c10, .pointer (some ⟨g, 0, none⟩), c12, c13, c14, c15, c16, c17, c18, c19, c20, c21, c22, c23, c24, c25, c26, c27, c28, c29, c30, c31, c32, c33, c34, c35, c36, c37, c38, c39, c40, c41, c42, c43, c44, rv, .pointer (some ⟨T, 0, none⟩), .pointer (some ⟨T, 0, none⟩), .pointer (some ⟨T, 10, none⟩), .agg (VI .u64 c), .pointer (some ⟨T, 0, none⟩), .pointer (some ⟨T, 0, none⟩), .pointer (some ⟨T, 15, none⟩), .agg (VI .u64 d), .agg (VI .u64 x), c55, c56, c57, c58, c59, c60, c61, c62, c63, c64, c65, c66, c67, c68, c69, c70, c71, c72, c73, c74, c75, c76, c77, c78, c79, c80, c81, c82, c83, c84, c85, c86, c87, c88, c89, c90, c91, c92, c93, c94, c95, c96, c97, c98, c99, c100, c101, c102, c103, c104, c105, c106, c107, c108, c109, c110, c111, c112], []⟩ W') :
    Code.wp Try.prog rgC6 Q ⟨#[.pointer (some ⟨T, 0, none⟩), rv, c2, c3, c4, c5, c6, c7, c8, c9, c10, c11, c12, c13, c14, c15, c16, c17, c18, c19, c20, c21, c22, c23, c24, c25, c26, c27, c28, c29, c30, c31, c32, c33, c34, c35, c36, c37, c38, c39, c40, c41, c42, c43, c44, c45, c46, c47, c48, c49, c50, c51, c52, c53, c54, c55, c56, c57, c58, c59, c60, c61, c62, c63, c64, c65, c66, c67, c68, c69, c70, c71, c72, c73, c74, c75, c76, c77, c78, c79, c80, c81, c82, c83, c84, c85, c86, c87, c88, c89, c90, c91, c92, c93, c94, c95, c96, c97, c98, c99, c100, c101, c102, c103, c104, c105, c106, c107, c108, c109, c110, c111, c112], []⟩ W := by
  have HH : Hid (∀ g W', Ev B w rv (l ++ [(3, 1)]) ((g, bxE x) :: (T, ro a b c d) :: bx) W' → g ≠ T → Q .normal ⟨#[.pointer (some ⟨T, 0, none⟩), rv, c2, c3, c4, c5, c6, c7, c8, c9, c10, .pointer (some ⟨g, 0, none⟩), c12, c13, c14, c15, c16, c17, c18, c19, c20, c21, c22, c23, c24, c25, c26, c27, c28, c29, c30, c31, c32, c33, c34, c35, c36, c37, c38, c39, c40, c41, c42, c43, c44, rv, .pointer (some ⟨T, 0, none⟩), .pointer (some ⟨T, 0, none⟩), .pointer (some ⟨T, 10, none⟩), .agg (VI .u64 c), .pointer (some ⟨T, 0, none⟩), .pointer (some ⟨T, 0, none⟩), .pointer (some ⟨T, 15, none⟩), .agg (VI .u64 d), .agg (VI .u64 x), c55, c56, c57, c58, c59, c60, c61, c62, c63, c64, c65, c66, c67, c68, c69, c70, c71, c72, c73, c74, c75, c76, c77, c78, c79, c80, c81, c82, c83, c84, c85, c86, c87, c88, c89, c90, c91, c92, c93, c94, c95, c96, c97, c98, c99, c100, c101, c102, c103, c104, c105, c106, c107, c108, c109, c110, c111, c112], []⟩ W') := H
  clear H
  conv => arg 2; whnf
  refine wp_region_held_drew (S := fun Y => ∃ l', Ev B w rv l' ((T, ro a b c d) :: bx) Y) (by kernel_rfl) ⟨l, XX.drew⟩ (fun hH => ?_)
  have hV := XX.drew
  clear XX
  obtain ⟨V0, hV0⟩ : ∃ V, W.drew = V := ⟨_, rfl⟩
  rw [hV0] at hH hV ⊢
  clear hV0
  refine wpAnyH_take (i := 0) (v := rv) rfl (by kernel_rfl) (by kernel_rfl) (by kernel_rfl) (fun _ _ _ h => HPN _ _ _ _ _ h) (Or.inl ⟨by kernel_rfl, fun W hW => ?_⟩) hH ?_
  · go_simp
  try simp only [Act.put, List.getElem_toArray, List.getElem_cons_succ, List.getElem_cons_zero, List.getElem?_toArray, List.getElem?_cons_succ, List.getElem?_cons_zero, List.setIfInBounds_toArray, List.set_cons_zero, List.set_cons_succ]
  refine wpAnyH_take (i := 1) (v := .pointer (some ⟨T, 0, none⟩)) rfl (by kernel_rfl) (by kernel_rfl) (by kernel_rfl) (fun _ _ _ h => HPN _ _ _ _ _ h) (Or.inl ⟨by kernel_rfl, fun W hW => ?_⟩) hH ?_
  · go_simp
  try simp only [Act.put, List.getElem_toArray, List.getElem_cons_succ, List.getElem_cons_zero, List.getElem?_toArray, List.getElem?_cons_succ, List.getElem?_cons_zero, List.setIfInBounds_toArray, List.set_cons_zero, List.set_cons_succ]
  refine wpAnyH_take (i := 2) (v := .pointer (some ⟨T, 0, none⟩)) rfl (by kernel_rfl) (by kernel_rfl) (by kernel_rfl) (fun _ _ _ h => HPN _ _ _ _ _ h) (Or.inl ⟨by kernel_rfl, fun W hW => ?_⟩) hH ?_
  · go_simp
  try simp only [Act.put, List.getElem_toArray, List.getElem_cons_succ, List.getElem_cons_zero, List.getElem?_toArray, List.getElem?_cons_succ, List.getElem?_cons_zero, List.setIfInBounds_toArray, List.set_cons_zero, List.set_cons_succ]
  refine wpAnyH_take (i := 3) (v := .pointer (some ⟨T, 10, none⟩)) rfl (by kernel_rfl) (by kernel_rfl) (by kernel_rfl) (fun _ _ _ h => HPN _ _ _ _ _ h) (Or.inl ⟨by kernel_rfl, fun W hW => ?_⟩) hH ?_
  · go_simp
  try simp only [Act.put, List.getElem_toArray, List.getElem_cons_succ, List.getElem_cons_zero, List.getElem?_toArray, List.getElem?_cons_succ, List.getElem?_cons_zero, List.setIfInBounds_toArray, List.set_cons_zero, List.set_cons_succ]
  refine wpAnyH_take (i := 5) (v := .pointer (some ⟨T, 0, none⟩)) rfl (by kernel_rfl) (by kernel_rfl) (by kernel_rfl) (fun _ _ _ h => HPN _ _ _ _ _ h) (Or.inl ⟨by kernel_rfl, fun W hW => ?_⟩) hH ?_
  · go_simp
  try simp only [Act.put, List.getElem_toArray, List.getElem_cons_succ, List.getElem_cons_zero, List.getElem?_toArray, List.getElem?_cons_succ, List.getElem?_cons_zero, List.setIfInBounds_toArray, List.set_cons_zero, List.set_cons_succ]
  refine wpAnyH_take (i := 6) (v := .pointer (some ⟨T, 0, none⟩)) rfl (by kernel_rfl) (by kernel_rfl) (by kernel_rfl) (fun _ _ _ h => HPN _ _ _ _ _ h) (Or.inl ⟨by kernel_rfl, fun W hW => ?_⟩) hH ?_
  · go_simp
  try simp only [Act.put, List.getElem_toArray, List.getElem_cons_succ, List.getElem_cons_zero, List.getElem?_toArray, List.getElem?_cons_succ, List.getElem?_cons_zero, List.setIfInBounds_toArray, List.set_cons_zero, List.set_cons_succ]
  refine wpAnyH_take (i := 7) (v := .pointer (some ⟨T, 15, none⟩)) rfl (by kernel_rfl) (by kernel_rfl) (by kernel_rfl) (fun _ _ _ h => HPN _ _ _ _ _ h) (Or.inl ⟨by kernel_rfl, fun W hW => ?_⟩) hH ?_
  · go_simp
  try simp only [Act.put, List.getElem_toArray, List.getElem_cons_succ, List.getElem_cons_zero, List.getElem?_toArray, List.getElem?_cons_succ, List.getElem?_cons_zero, List.setIfInBounds_toArray, List.set_cons_zero, List.set_cons_succ]
  refine wpAnyH_take (i := 4) (v := .agg (VI .u64 c)) rfl (by kernel_rfl) (by kernel_rfl) (by kernel_rfl) (fun _ _ _ h => HPN _ _ _ _ _ h) (yieldsIf_load_mid (by kernel_rfl) 51 (.tmp 48) rfl T 10 (by kernel_rfl) (c.map (Value.int .u64)) _ (fun Y hY => (by obtain ⟨l', hY⟩ := hY; exact ro_10 la.out lb.out lc.out ld.out (hY.row (by simp)))) Try.underlying51 rfl (by rw [List.length_map]; exact infoE5 lc.out)) hH ?_
  try simp only [Act.put, List.getElem_toArray, List.getElem_cons_succ, List.getElem_cons_zero, List.getElem?_toArray, List.getElem?_cons_succ, List.getElem?_cons_zero, List.setIfInBounds_toArray, List.set_cons_zero, List.set_cons_succ]
  refine wpAnyH_take (i := 8) (v := .agg (VI .u64 d)) rfl (by kernel_rfl) (by kernel_rfl) (by kernel_rfl) (fun _ _ _ h => HPN _ _ _ _ _ h) (yieldsIf_load_mid (by kernel_rfl) 51 (.tmp 52) rfl T 15 (by kernel_rfl) (d.map (Value.int .u64)) _ (fun Y hY => (by obtain ⟨l', hY⟩ := hY; exact ro_15 la.out lb.out lc.out ld.out (hY.row (by simp)))) Try.underlying51 rfl (by rw [List.length_map]; exact infoE5 ld.out)) hH ?_
  try simp only [Act.put, List.getElem_toArray, List.getElem_cons_succ, List.getElem_cons_zero, List.getElem?_toArray, List.getElem?_cons_succ, List.getElem?_cons_zero, List.setIfInBounds_toArray, List.set_cons_zero, List.set_cons_succ]
  refine wpAnyH_ready (rs := [9, 10]) (by kernel_rfl) (by simp) (AllReadyH.cons rfl (fun K' hK => ?_) (AllReadyH.cons rfl (fun K' hK => ?_) AllReadyH.nil))
  · go_simp
    refine (HC.out _ _ _ _ _ _ hV hl.out).mono ?_
    rintro e w1 ⟨rfl, hN⟩
    go_wp2_with fail
    refine hK.out _ _ ⟨_, hN⟩ (fun hH => ?_)
    clear hK K' hV
    have hV := hN
    clear hN
    try simp only [Act.put, List.getElem_toArray, List.getElem_cons_succ, List.getElem_cons_zero, List.getElem?_toArray, List.getElem?_cons_succ, List.getElem?_cons_zero, List.setIfInBounds_toArray, List.set_cons_zero, List.set_cons_succ]
    refine wpAnyH_ready (rs := [10]) (by kernel_rfl) (by simp) (AllReadyH.cons rfl (fun K' hK => ?_) AllReadyH.nil)
    go_simp
    have hZ := hV.new (bxE [0, 0, 0, 0, 0])
    have hf : ∀ p ∈ ((T, ro a b c d) :: bx), p.1 ≠ w1.heap.size := fun p hp => Nat.ne_of_lt (hV.lt (g := p.1) (x := p.2) hp)
    obtain ⟨g, hg⟩ : ∃ g, w1.heap.size = g := ⟨_, rfl⟩
    rw [hg] at hZ hf
    try simp only [hg]
    obtain ⟨Z0, hZ0⟩ : ∃ Z, w1.alloc (.cells #[.int .u64 0, .int .u64 0, .int .u64 0, .int .u64 0, .int .u64 0] 51) = Z := ⟨_, rfl⟩
    rw [show w1.alloc (bxE [0, 0, 0, 0, 0]) = Z0 from hZ0] at hZ
    rw [hZ0]
    clear hZ0 hg
    refine hK.out _ _ ⟨_, hZ.sub (fun p hp => List.mem_cons_of_mem _ hp)⟩ (fun hH => ?_)
    clear hK K'
    try simp only [Act.put, List.getElem_toArray, List.getElem_cons_succ, List.getElem_cons_zero, List.getElem?_toArray, List.getElem?_cons_succ, List.getElem?_cons_zero, List.setIfInBounds_toArray, List.set_cons_zero, List.set_cons_succ]
    refine wpAnyH_ready (rs := [11]) (by kernel_rfl) (by simp) (AllReadyH.cons rfl (fun K' hK => ?_) AllReadyH.nil)
    have ht := there_mid (hZ.row (g := g) (x := bxE [0, 0, 0, 0, 0]) (by simp)) 0 5 (by simp [VI])
    refine if_pos_mpr (by kernel_rfl) (wp_store_mid 51 (.tmp 11) (.tmp 54) rfl g 0 (VI .u64 x) (by kernel_rfl) (by kernel_rfl) (by rw [VI_size, lx.out]; exact ht) (infoE5' lx.out) (VI_one _ _) ?_)
    have hE := hZ.set rfl hf (but_setCells g (x.map (Value.int .u64)) 0 Z0) (whole_set (hZ.row (g := g) (x := bxE [0, 0, 0, 0, 0]) (by simp)) (by rw [lx.out]; rfl))
    refine hK.out _ _ ⟨_, hE.sub (fun p hp => List.mem_cons_of_mem _ hp)⟩ (fun hH => ?_)
    clear hK K'
    try simp only [Act.put, List.getElem_toArray, List.getElem_cons_succ, List.getElem_cons_zero, List.getElem?_toArray, List.getElem?_cons_succ, List.getElem?_cons_zero, List.setIfInBounds_toArray, List.set_cons_zero, List.set_cons_succ]
    refine wpAnyH_done (by kernel_rfl) ?_ _
    try simp only [Act.put, List.getElem_toArray, List.getElem_cons_succ, List.getElem_cons_zero, List.getElem?_toArray, List.getElem?_cons_succ, List.getElem?_cons_zero, List.setIfInBounds_toArray, List.set_cons_zero, List.set_cons_succ]
    exact HH.out g _ hE (fun e => hf (T, ro a b c d) (by simp) e.symm)
  · go_simp
    have hZ := hV.new (bxE [0, 0, 0, 0, 0])
    have hf : ∀ p ∈ ((T, ro a b c d) :: bx), p.1 ≠ V0.heap.size := fun p hp => Nat.ne_of_lt (hV.lt (g := p.1) (x := p.2) hp)
    obtain ⟨g, hg⟩ : ∃ g, V0.heap.size = g := ⟨_, rfl⟩
    rw [hg] at hZ hf
    try simp only [hg]
    obtain ⟨Z0, hZ0⟩ : ∃ Z, V0.alloc (.cells #[.int .u64 0, .int .u64 0, .int .u64 0, .int .u64 0, .int .u64 0] 51) = Z := ⟨_, rfl⟩
    rw [show V0.alloc (bxE [0, 0, 0, 0, 0]) = Z0 from hZ0] at hZ
    rw [hZ0]
    clear hZ0 hg
    refine hK.out _ _ ⟨_, hZ.sub (fun p hp => List.mem_cons_of_mem _ hp)⟩ (fun hH => ?_)
    clear hK K'
    try simp only [Act.put, List.getElem_toArray, List.getElem_cons_succ, List.getElem_cons_zero, List.getElem?_toArray, List.getElem?_cons_succ, List.getElem?_cons_zero, List.setIfInBounds_toArray, List.set_cons_zero, List.set_cons_succ]
    refine wpAnyH_ready (rs := [9]) (by kernel_rfl) (by simp) (AllReadyH.cons rfl (fun K' hK => ?_) AllReadyH.nil)
    go_simp
    refine (HC.out _ _ _ _ _ _ hZ hl.out).mono ?_
    rintro e w1 ⟨rfl, hN⟩
    go_wp2_with fail
    refine hK.out _ _ ⟨_, hN.sub (fun p hp => List.mem_cons_of_mem _ hp)⟩ (fun hH => ?_)
    clear hK K' hZ
    try simp only [Act.put, List.getElem_toArray, List.getElem_cons_succ, List.getElem_cons_zero, List.getElem?_toArray, List.getElem?_cons_succ, List.getElem?_cons_zero, List.setIfInBounds_toArray, List.set_cons_zero, List.set_cons_succ]
    refine wpAnyH_ready (rs := [11]) (by kernel_rfl) (by simp) (AllReadyH.cons rfl (fun K' hK => ?_) AllReadyH.nil)
    have ht := there_mid (hN.row (g := g) (x := bxE [0, 0, 0, 0, 0]) (by simp)) 0 5 (by simp [VI])
    refine if_pos_mpr (by kernel_rfl) (wp_store_mid 51 (.tmp 11) (.tmp 54) rfl g 0 (VI .u64 x) (by kernel_rfl) (by kernel_rfl) (by rw [VI_size, lx.out]; exact ht) (infoE5' lx.out) (VI_one _ _) ?_)
    have hE := hN.set rfl hf (but_setCells g (x.map (Value.int .u64)) 0 w1) (whole_set (hN.row (g := g) (x := bxE [0, 0, 0, 0, 0]) (by simp)) (by rw [lx.out]; rfl))
    refine hK.out _ _ ⟨_, hE.sub (fun p hp => List.mem_cons_of_mem _ hp)⟩ (fun hH => ?_)
    clear hK K'
    try simp only [Act.put, List.getElem_toArray, List.getElem_cons_succ, List.getElem_cons_zero, List.getElem?_toArray, List.getElem?_cons_succ, List.getElem?_cons_zero, List.setIfInBounds_toArray, List.set_cons_zero, List.set_cons_succ]
    refine wpAnyH_done (by kernel_rfl) ?_ _
    try simp only [Act.put, List.getElem_toArray, List.getElem_cons_succ, List.getElem_cons_zero, List.getElem?_toArray, List.getElem?_cons_succ, List.getElem?_cons_zero, List.setIfInBounds_toArray, List.set_cons_zero, List.set_cons_succ]
    exact HH.out g _ hE (fun e => hf (T, ro a b c d) (by simp) e.symm)
noncomputable def rgC7 : Code := ((Try.f24.body.bind (findReg 7)).getD .skip)
set_option maxRecDepth 100000 in
set_option maxHeartbeats 8000000 in
theorem climb_r7 {Q : Exit → Act → World → Prop} {B : Nat} {w W : World} {rv : Value} {l : List (Int × Int)} {bx : List (Nat × Obj)} {T : Nat} {a b c d x : List Int} {c2 c3 c4 c5 c6 c7 c8 c9 c10 c11 c12 c13 c14 c15 c16 c17 c18 c19 c20 c21 c22 c23 c24 c25 c26 c27 c28 c29 c30 c31 c32 c33 c34 c35 c36 c37 c38 c39 c40 c41 c42 c43 c44 c45 c46 c47 c48 c49 c50 c51 c52 c53 c54 c55 c56 c57 c58 c59 c60 c61 c62 c63 c64 c65 c66 c67 c68 c69 c70 c71 c72 c73 c74 c75 c76 c77 c78 c79 c80 c81 c82 c83 c84 c85 c86 c87 c88 c89 c90 c91 c92 c93 c94 c95 c96 c97 c98 c99 c100 c101 c102 c103 c104 c105 c106 c107 c108 c109 c110 c111 c112 : Value}
    (la : Hid (a.length = 5)) (lb : Hid (b.length = 5)) (lc : Hid (c.length = 5)) (ld : Hid (d.length = 5)) (lx : Hid (x.length = 5))
    (HC : Hid (∀ B w rv l bx wr, Ev B w rv l bx wr → l.length ≤ 1000000 → Calls Try.prog 42 #[rv, .agg (VI .u64 c), .agg (VI .u64 d)] wr fun e w' => e = .returned (.agg (VI .u64 x)) ∧ Ev B w rv (l ++ [(3, 2)]) bx w'))
    (hl : Hid (l.length ≤ 1000000))
    (XX : Ev B w rv l ((T, ro a b c d) :: bx) W)
    (HPN : ∀ c (a : Act) d v w, Q (.panic c) (a.put d v) w → Q (.panic c) a w)
    (H : ∀ g W', Ev B w rv (l ++ [(3, 2)]) ((g, bxE x) :: (T, ro a b c d) :: bx) W' → g ≠ T → Q .normal ⟨#[.pointer (some ⟨T, 0, none⟩), rv, c2, c3, c4, c5, c6, c7, c8, c9, c10, c11, .pointer (some ⟨g, 0, none⟩), c13, c14, c15, c16, c17, c18, c19, c20, c21, c22, c23, c24, c25, c26, c27, c28, c29, c30, c31, c32, c33, c34, c35, c36, c37, c38, c39, c40, c41, c42, c43, c44, c45, c46, c47, c48, c49, c50, c51, c52, c53, c54, rv, .pointer (some ⟨T, 0, none⟩), .pointer (some ⟨T, 0, none⟩), .pointer (some ⟨T, 10, none⟩), .agg (VI .u64 c), .pointer (some ⟨T, 0, none⟩), .pointer (some ⟨T, 0, none⟩), .pointer (some ⟨T, 15, none⟩), .agg (VI .u64 d), .agg (VI .u64 x), c65, c66, c67, c68, c69, c70, c71, c72, c73, c74, c75, c76, c77, c78, c79, c80, c81, c82, c83, c84, c85, c86, c87, c88, c89, c90, c91, c92, c93, c94, c95, c96, c97, c98, c99, c100, c101, c102, c103, c104, c105, c106, c107, c108, c109, c110, c111, c112], []⟩ W') :
    Code.wp Try.prog rgC7 Q ⟨#[.pointer (some ⟨T, 0, none⟩), rv, c2, c3, c4, c5, c6, c7, c8, c9, c10, c11, c12, c13, c14, c15, c16, c17, c18, c19, c20, c21, c22, c23, c24, c25, c26, c27, c28, c29, c30, c31, c32, c33, c34, c35, c36, c37, c38, c39, c40, c41, c42, c43, c44, c45, c46, c47, c48, c49, c50, c51, c52, c53, c54, c55, c56, c57, c58, c59, c60, c61, c62, c63, c64, c65, c66, c67, c68, c69, c70, c71, c72, c73, c74, c75, c76, c77, c78, c79, c80, c81, c82, c83, c84, c85, c86, c87, c88, c89, c90, c91, c92, c93, c94, c95, c96, c97, c98, c99, c100, c101, c102, c103, c104, c105, c106, c107, c108, c109, c110, c111, c112], []⟩ W := by
  have HH : Hid (∀ g W', Ev B w rv (l ++ [(3, 2)]) ((g, bxE x) :: (T, ro a b c d) :: bx) W' → g ≠ T → Q .normal ⟨#[.pointer (some ⟨T, 0, none⟩), rv, c2, c3, c4, c5, c6, c7, c8, c9, c10, c11, .pointer (some ⟨g, 0, none⟩), c13, c14, c15, c16, c17, c18, c19, c20, c21, c22, c23, c24, c25, c26, c27, c28, c29, c30, c31, c32, c33, c34, c35, c36, c37, c38, c39, c40, c41, c42, c43, c44, c45, c46, c47, c48, c49, c50, c51, c52, c53, c54, rv, .pointer (some ⟨T, 0, none⟩), .pointer (some ⟨T, 0, none⟩), .pointer (some ⟨T, 10, none⟩), .agg (VI .u64 c), .pointer (some ⟨T, 0, none⟩), .pointer (some ⟨T, 0, none⟩), .pointer (some ⟨T, 15, none⟩), .agg (VI .u64 d), .agg (VI .u64 x), c65, c66, c67, c68, c69, c70, c71, c72, c73, c74, c75, c76, c77, c78, c79, c80, c81, c82, c83, c84, c85, c86, c87, c88, c89, c90, c91, c92, c93, c94, c95, c96, c97, c98, c99, c100, c101, c102, c103, c104, c105, c106, c107, c108, c109, c110, c111, c112], []⟩ W') := H
  clear H
  conv => arg 2; whnf
  refine wp_region_held_drew (S := fun Y => ∃ l', Ev B w rv l' ((T, ro a b c d) :: bx) Y) (by kernel_rfl) ⟨l, XX.drew⟩ (fun hH => ?_)
  have hV := XX.drew
  clear XX
  obtain ⟨V0, hV0⟩ : ∃ V, W.drew = V := ⟨_, rfl⟩
  rw [hV0] at hH hV ⊢
  clear hV0
  refine wpAnyH_take (i := 0) (v := rv) rfl (by kernel_rfl) (by kernel_rfl) (by kernel_rfl) (fun _ _ _ h => HPN _ _ _ _ _ h) (Or.inl ⟨by kernel_rfl, fun W hW => ?_⟩) hH ?_
  · go_simp
  try simp only [Act.put, List.getElem_toArray, List.getElem_cons_succ, List.getElem_cons_zero, List.getElem?_toArray, List.getElem?_cons_succ, List.getElem?_cons_zero, List.setIfInBounds_toArray, List.set_cons_zero, List.set_cons_succ]
  refine wpAnyH_take (i := 1) (v := .pointer (some ⟨T, 0, none⟩)) rfl (by kernel_rfl) (by kernel_rfl) (by kernel_rfl) (fun _ _ _ h => HPN _ _ _ _ _ h) (Or.inl ⟨by kernel_rfl, fun W hW => ?_⟩) hH ?_
  · go_simp
  try simp only [Act.put, List.getElem_toArray, List.getElem_cons_succ, List.getElem_cons_zero, List.getElem?_toArray, List.getElem?_cons_succ, List.getElem?_cons_zero, List.setIfInBounds_toArray, List.set_cons_zero, List.set_cons_succ]
  refine wpAnyH_take (i := 2) (v := .pointer (some ⟨T, 0, none⟩)) rfl (by kernel_rfl) (by kernel_rfl) (by kernel_rfl) (fun _ _ _ h => HPN _ _ _ _ _ h) (Or.inl ⟨by kernel_rfl, fun W hW => ?_⟩) hH ?_
  · go_simp
  try simp only [Act.put, List.getElem_toArray, List.getElem_cons_succ, List.getElem_cons_zero, List.getElem?_toArray, List.getElem?_cons_succ, List.getElem?_cons_zero, List.setIfInBounds_toArray, List.set_cons_zero, List.set_cons_succ]
  refine wpAnyH_take (i := 3) (v := .pointer (some ⟨T, 10, none⟩)) rfl (by kernel_rfl) (by kernel_rfl) (by kernel_rfl) (fun _ _ _ h => HPN _ _ _ _ _ h) (Or.inl ⟨by kernel_rfl, fun W hW => ?_⟩) hH ?_
  · go_simp
  try simp only [Act.put, List.getElem_toArray, List.getElem_cons_succ, List.getElem_cons_zero, List.getElem?_toArray, List.getElem?_cons_succ, List.getElem?_cons_zero, List.setIfInBounds_toArray, List.set_cons_zero, List.set_cons_succ]
  refine wpAnyH_take (i := 5) (v := .pointer (some ⟨T, 0, none⟩)) rfl (by kernel_rfl) (by kernel_rfl) (by kernel_rfl) (fun _ _ _ h => HPN _ _ _ _ _ h) (Or.inl ⟨by kernel_rfl, fun W hW => ?_⟩) hH ?_
  · go_simp
  try simp only [Act.put, List.getElem_toArray, List.getElem_cons_succ, List.getElem_cons_zero, List.getElem?_toArray, List.getElem?_cons_succ, List.getElem?_cons_zero, List.setIfInBounds_toArray, List.set_cons_zero, List.set_cons_succ]
  refine wpAnyH_take (i := 6) (v := .pointer (some ⟨T, 0, none⟩)) rfl (by kernel_rfl) (by kernel_rfl) (by kernel_rfl) (fun _ _ _ h => HPN _ _ _ _ _ h) (Or.inl ⟨by kernel_rfl, fun W hW => ?_⟩) hH ?_
  · go_simp
  try simp only [Act.put, List.getElem_toArray, List.getElem_cons_succ, List.getElem_cons_zero, List.getElem?_toArray, List.getElem?_cons_succ, List.getElem?_cons_zero, List.setIfInBounds_toArray, List.set_cons_zero, List.set_cons_succ]
  refine wpAnyH_take (i := 7) (v := .pointer (some ⟨T, 15, none⟩)) rfl (by kernel_rfl) (by kernel_rfl) (by kernel_rfl) (fun _ _ _ h => HPN _ _ _ _ _ h) (Or.inl ⟨by kernel_rfl, fun W hW => ?_⟩) hH ?_
  · go_simp
  try simp only [Act.put, List.getElem_toArray, List.getElem_cons_succ, List.getElem_cons_zero, List.getElem?_toArray, List.getElem?_cons_succ, List.getElem?_cons_zero, List.setIfInBounds_toArray, List.set_cons_zero, List.set_cons_succ]
  refine wpAnyH_take (i := 4) (v := .agg (VI .u64 c)) rfl (by kernel_rfl) (by kernel_rfl) (by kernel_rfl) (fun _ _ _ h => HPN _ _ _ _ _ h) (yieldsIf_load_mid (by kernel_rfl) 51 (.tmp 58) rfl T 10 (by kernel_rfl) (c.map (Value.int .u64)) _ (fun Y hY => (by obtain ⟨l', hY⟩ := hY; exact ro_10 la.out lb.out lc.out ld.out (hY.row (by simp)))) Try.underlying51 rfl (by rw [List.length_map]; exact infoE5 lc.out)) hH ?_
  try simp only [Act.put, List.getElem_toArray, List.getElem_cons_succ, List.getElem_cons_zero, List.getElem?_toArray, List.getElem?_cons_succ, List.getElem?_cons_zero, List.setIfInBounds_toArray, List.set_cons_zero, List.set_cons_succ]
  refine wpAnyH_take (i := 8) (v := .agg (VI .u64 d)) rfl (by kernel_rfl) (by kernel_rfl) (by kernel_rfl) (fun _ _ _ h => HPN _ _ _ _ _ h) (yieldsIf_load_mid (by kernel_rfl) 51 (.tmp 62) rfl T 15 (by kernel_rfl) (d.map (Value.int .u64)) _ (fun Y hY => (by obtain ⟨l', hY⟩ := hY; exact ro_15 la.out lb.out lc.out ld.out (hY.row (by simp)))) Try.underlying51 rfl (by rw [List.length_map]; exact infoE5 ld.out)) hH ?_
  try simp only [Act.put, List.getElem_toArray, List.getElem_cons_succ, List.getElem_cons_zero, List.getElem?_toArray, List.getElem?_cons_succ, List.getElem?_cons_zero, List.setIfInBounds_toArray, List.set_cons_zero, List.set_cons_succ]
  refine wpAnyH_ready (rs := [9, 10]) (by kernel_rfl) (by simp) (AllReadyH.cons rfl (fun K' hK => ?_) (AllReadyH.cons rfl (fun K' hK => ?_) AllReadyH.nil))
  · go_simp
    refine (HC.out _ _ _ _ _ _ hV hl.out).mono ?_
    rintro e w1 ⟨rfl, hN⟩
    go_wp2_with fail
    refine hK.out _ _ ⟨_, hN⟩ (fun hH => ?_)
    clear hK K' hV
    have hV := hN
    clear hN
    try simp only [Act.put, List.getElem_toArray, List.getElem_cons_succ, List.getElem_cons_zero, List.getElem?_toArray, List.getElem?_cons_succ, List.getElem?_cons_zero, List.setIfInBounds_toArray, List.set_cons_zero, List.set_cons_succ]
    refine wpAnyH_ready (rs := [10]) (by kernel_rfl) (by simp) (AllReadyH.cons rfl (fun K' hK => ?_) AllReadyH.nil)
    go_simp
    have hZ := hV.new (bxE [0, 0, 0, 0, 0])
    have hf : ∀ p ∈ ((T, ro a b c d) :: bx), p.1 ≠ w1.heap.size := fun p hp => Nat.ne_of_lt (hV.lt (g := p.1) (x := p.2) hp)
    obtain ⟨g, hg⟩ : ∃ g, w1.heap.size = g := ⟨_, rfl⟩
    rw [hg] at hZ hf
    try simp only [hg]
    obtain ⟨Z0, hZ0⟩ : ∃ Z, w1.alloc (.cells #[.int .u64 0, .int .u64 0, .int .u64 0, .int .u64 0, .int .u64 0] 51) = Z := ⟨_, rfl⟩
    rw [show w1.alloc (bxE [0, 0, 0, 0, 0]) = Z0 from hZ0] at hZ
    rw [hZ0]
    clear hZ0 hg
    refine hK.out _ _ ⟨_, hZ.sub (fun p hp => List.mem_cons_of_mem _ hp)⟩ (fun hH => ?_)
    clear hK K'
    try simp only [Act.put, List.getElem_toArray, List.getElem_cons_succ, List.getElem_cons_zero, List.getElem?_toArray, List.getElem?_cons_succ, List.getElem?_cons_zero, List.setIfInBounds_toArray, List.set_cons_zero, List.set_cons_succ]
    refine wpAnyH_ready (rs := [11]) (by kernel_rfl) (by simp) (AllReadyH.cons rfl (fun K' hK => ?_) AllReadyH.nil)
    have ht := there_mid (hZ.row (g := g) (x := bxE [0, 0, 0, 0, 0]) (by simp)) 0 5 (by simp [VI])
    refine if_pos_mpr (by kernel_rfl) (wp_store_mid 51 (.tmp 12) (.tmp 64) rfl g 0 (VI .u64 x) (by kernel_rfl) (by kernel_rfl) (by rw [VI_size, lx.out]; exact ht) (infoE5' lx.out) (VI_one _ _) ?_)
    have hE := hZ.set rfl hf (but_setCells g (x.map (Value.int .u64)) 0 Z0) (whole_set (hZ.row (g := g) (x := bxE [0, 0, 0, 0, 0]) (by simp)) (by rw [lx.out]; rfl))
    refine hK.out _ _ ⟨_, hE.sub (fun p hp => List.mem_cons_of_mem _ hp)⟩ (fun hH => ?_)
    clear hK K'
    try simp only [Act.put, List.getElem_toArray, List.getElem_cons_succ, List.getElem_cons_zero, List.getElem?_toArray, List.getElem?_cons_succ, List.getElem?_cons_zero, List.setIfInBounds_toArray, List.set_cons_zero, List.set_cons_succ]
    refine wpAnyH_done (by kernel_rfl) ?_ _
    try simp only [Act.put, List.getElem_toArray, List.getElem_cons_succ, List.getElem_cons_zero, List.getElem?_toArray, List.getElem?_cons_succ, List.getElem?_cons_zero, List.setIfInBounds_toArray, List.set_cons_zero, List.set_cons_succ]
    exact HH.out g _ hE (fun e => hf (T, ro a b c d) (by simp) e.symm)
  · go_simp
    have hZ := hV.new (bxE [0, 0, 0, 0, 0])
    have hf : ∀ p ∈ ((T, ro a b c d) :: bx), p.1 ≠ V0.heap.size := fun p hp => Nat.ne_of_lt (hV.lt (g := p.1) (x := p.2) hp)
    obtain ⟨g, hg⟩ : ∃ g, V0.heap.size = g := ⟨_, rfl⟩
    rw [hg] at hZ hf
    try simp only [hg]
    obtain ⟨Z0, hZ0⟩ : ∃ Z, V0.alloc (.cells #[.int .u64 0, .int .u64 0, .int .u64 0, .int .u64 0, .int .u64 0] 51) = Z := ⟨_, rfl⟩
    rw [show V0.alloc (bxE [0, 0, 0, 0, 0]) = Z0 from hZ0] at hZ
    rw [hZ0]
    clear hZ0 hg
    refine hK.out _ _ ⟨_, hZ.sub (fun p hp => List.mem_cons_of_mem _ hp)⟩ (fun hH => ?_)
    clear hK K'
    try simp only [Act.put, List.getElem_toArray, List.getElem_cons_succ, List.getElem_cons_zero, List.getElem?_toArray, List.getElem?_cons_succ, List.getElem?_cons_zero, List.setIfInBounds_toArray, List.set_cons_zero, List.set_cons_succ]
    refine wpAnyH_ready (rs := [9]) (by kernel_rfl) (by simp) (AllReadyH.cons rfl (fun K' hK => ?_) AllReadyH.nil)
    go_simp
    refine (HC.out _ _ _ _ _ _ hZ hl.out).mono ?_
    rintro e w1 ⟨rfl, hN⟩
    go_wp2_with fail
    refine hK.out _ _ ⟨_, hN.sub (fun p hp => List.mem_cons_of_mem _ hp)⟩ (fun hH => ?_)
    clear hK K' hZ
    try simp only [Act.put, List.getElem_toArray, List.getElem_cons_succ, List.getElem_cons_zero, List.getElem?_toArray, List.getElem?_cons_succ, List.getElem?_cons_zero, List.setIfInBounds_toArray, List.set_cons_zero, List.set_cons_succ]
    refine wpAnyH_ready (rs := [11]) (by kernel_rfl) (by simp) (AllReadyH.cons rfl (fun K' hK => ?_) AllReadyH.nil)
    have ht := there_mid (hN.row (g := g) (x := bxE [0, 0, 0, 0, 0]) (by simp)) 0 5 (by simp [VI])
    refine if_pos_mpr (by kernel_rfl) (wp_store_mid 51 (.tmp 12) (.tmp 64) rfl g 0 (VI .u64 x) (by kernel_rfl) (by kernel_rfl) (by rw [VI_size, lx.out]; exact ht) (infoE5' lx.out) (VI_one _ _) ?_)
    have hE := hN.set rfl hf (but_setCells g (x.map (Value.int .u64)) 0 w1) (whole_set (hN.row (g := g) (x := bxE [0, 0, 0, 0, 0]) (by simp)) (by rw [lx.out]; rfl))
    refine hK.out _ _ ⟨_, hE.sub (fun p hp => List.mem_cons_of_mem _ hp)⟩ (fun hH => ?_)
    clear hK K'
    try simp only [Act.put, List.getElem_toArray, List.getElem_cons_succ, List.getElem_cons_zero, List.getElem?_toArray, List.getElem?_cons_succ, List.getElem?_cons_zero, List.setIfInBounds_toArray, List.set_cons_zero, List.set_cons_succ]
    refine wpAnyH_done (by kernel_rfl) ?_ _
    try simp only [Act.put, List.getElem_toArray, List.getElem_cons_succ, List.getElem_cons_zero, List.getElem?_toArray, List.getElem?_cons_succ, List.getElem?_cons_zero, List.setIfInBounds_toArray, List.set_cons_zero, List.set_cons_succ]
    exact HH.out g _ hE (fun e => hf (T, ro a b c d) (by simp) e.symm)
end Go.Proofs.Ytlffamcifahbjaa
