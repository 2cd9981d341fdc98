import Derived.Test.YtlffamcifahbjaaMgau
namespace Go.Proofs.Ytlffamcifahbjaa
set_option linter.unusedSimpArgs false
set_option linter.unusedVariables false
open Go.ChangeShapes Go.WideShapes Go.ChangeAt Go.RowKit Go.Pin Go.Fld
theorem heap_setCells_midK (k : IntKind) (b : Nat) {T : TypeId} : ∀ (x old pre post : List Int) (w : World), old.length = x.length → w.heap[b]? = some (.cells (VI k (pre ++ (old ++ post))) T (0, 0)) →
    (w.setCells b pre.length (x.map (Value.int k))).heap[b]? = some (.cells (VI k (pre ++ (x ++ post))) T (0, 0))
  | [], old, pre, post, w, hl, h => by
    have : old = [] := List.length_eq_zero_iff.1 (by simpa using hl)
    subst this
    exact h
  | z :: x, [], pre, post, w, hl, h => by simp at hl
  | z :: x, y :: old, pre, post, w, hl, h => by
    rw [List.map_cons, World.setCells]
    have h1 := heap_setCell_same w b pre.length _ _ (Value.int k z) h
    have hv := VI_set k pre (old ++ post) y z
    rw [List.cons_append, hv] at h1
    have h2 := heap_setCells_midK k (T := T) b x old (pre ++ [z]) post _ (by simpa using hl) (by rw [h1]; simp)
    rw [List.length_append] at h2
    simpa using h2
theorem whole_setK {w : World} {g : Nat} {z x : List Int} (h : w.heap[g]? = some (bxK z)) (hl : z.length = x.length) : (w.setCells g 0 (x.map (Value.int .u8))).heap[g]? = some (bxK x) := by
  have := heap_setCells_midK .u8 g x z [] [] w hl (by simpa using h)
  simpa using this
theorem infoK {x : List Int} (h : x.length = 32) : (Try.prog.info? 23).map (·.size) = some (VI .u8 x).size := by rw [VI_size, h]; exact info40
noncomputable def rgH15 : Code := ((Try.f11.body.bind (findReg 15)).getD .skip)
set_option maxRecDepth 100000 in
set_option maxHeartbeats 8000000 in
theorem shared_r15 {Q : Exit → Act → World → Prop} {B : Nat} {w W : World} {rv : Value} {l : List (Int × Int)} {bx : List (Nat × Obj)} {T gr : Nat} {a b c d x y z z0 : List Int} {c1 c2 c3 c4 c5 c7 c8 c9 c11 c12 c13 c14 c15 c16 c17 c18 c19 c20 c21 c22 c23 c24 c25 c26 c27 c28 c29 c30 c31 c32 c33 c34 c35 c36 c37 c38 c39 c40 c41 c42 c43 c44 c45 c46 c47 c48 c49 c50 c51 c52 c53 c54 c55 c56 c57 c58 c59 : Value}
    (la : Hid (a.length = 5)) (lb : Hid (b.length = 5)) (lc : Hid (c.length = 5)) (ld : Hid (d.length = 5)) (lz : Hid (z.length = 32)) (lz0 : Hid (z0.length = 32))
    (HC0 : Hid (∀ B w rv l bx wr, Ev B w rv l bx wr → l.length ≤ 1000000 → Calls Try.prog 26 #[rv, .agg (VI .u64 b)] wr fun e w' => e = .returned (.agg (VI .u64 x)) ∧ Ev B w rv (l ++ [(3, 6)]) bx w'))
    (HC1 : Hid (∀ B w rv l bx wr, Ev B w rv l bx wr → l.length ≤ 1000000 → Calls Try.prog 25 #[rv, .agg (VI .u64 a), .agg (VI .u64 x)] wr fun e w' => e = .returned (.agg (VI .u64 y)) ∧ Ev B w rv (l ++ [(3, 3)]) bx w'))
    (HC2 : Hid (∀ w, Calls Try.prog 27 #[.agg (VI .u64 y)] w fun e w' => e = .returned (.agg (VI .u8 z)) ∧ Below w.heap.size w w'))
    (hl : Hid (l.length ≤ 900000))
    (hT : ∀ p ∈ ((T, ro a b c d) :: bx), p.1 ≠ gr)
    (XX : Ev B w rv l ((gr, bxK z0) :: (T, ro a b c d) :: bx) W)
    (HPN : ∀ c (a : Act) d v w, Q (.panic c) (a.put d v) w → Q (.panic c) a w)
    (H : ∀ W', Ev B w rv (l ++ [(3, 6)] ++ [(3, 3)]) ((gr, bxK z) :: (T, ro a b c d) :: bx) W' → Q .normal ⟨#[rv, c1, c2, c3, c4, c5, .pointer (some ⟨gr, 0, none⟩), c7, c8, c9, .pointer (some ⟨T, 0, none⟩), c11, c12, c13, c14, c15, c16, c17, c18, c19, c20, c21, c22, c23, c24, c25, c26, c27, c28, c29, c30, c31, c32, c33, c34, c35, c36, c37, c38, c39, c40, c41, c42, c43, c44, c45, c46, c47, c48, c49, c50, rv, .pointer (some ⟨T, 0, none⟩), .agg (VI .u64 a), rv, .pointer (some ⟨T, 5, none⟩), .agg (VI .u64 b), .agg (VI .u64 x), .agg (VI .u64 y), .agg (VI .u8 z)], []⟩ W') :
    Code.wp Try.prog rgH15 Q ⟨#[rv, c1, c2, c3, c4, c5, .pointer (some ⟨gr, 0, none⟩), c7, c8, c9, .pointer (some ⟨T, 0, none⟩), c11, c12, c13, c14, c15, c16, c17, c18, c19, c20, c21, c22, c23, c24, c25, c26, c27, c28, c29, c30, c31, c32, c33, c34, c35, c36, c37, c38, c39, c40, c41, c42, c43, c44, c45, c46, c47, c48, c49, c50, c51, c52, c53, c54, c55, c56, c57, c58, c59], []⟩ W := by
  have HH : Hid (∀ W', Ev B w rv (l ++ [(3, 6)] ++ [(3, 3)]) ((gr, bxK z) :: (T, ro a b c d) :: bx) W' → Q .normal ⟨#[rv, c1, c2, c3, c4, c5, .pointer (some ⟨gr, 0, none⟩), c7, c8, c9, .pointer (some ⟨T, 0, none⟩), c11, c12, c13, c14, c15, c16, c17, c18, c19, c20, c21, c22, c23, c24, c25, c26, c27, c28, c29, c30, c31, c32, c33, c34, c35, c36, c37, c38, c39, c40, c41, c42, c43, c44, c45, c46, c47, c48, c49, c50, rv, .pointer (some ⟨T, 0, none⟩), .agg (VI .u64 a), rv, .pointer (some ⟨T, 5, none⟩), .agg (VI .u64 b), .agg (VI .u64 x), .agg (VI .u64 y), .agg (VI .u8 z)], []⟩ W') := H
  clear H
  conv => arg 2; whnf
  refine wp_region_held_drew (S := fun Y => ∃ l', ∃ z, Ev B w rv l' ((gr, bxK z) :: (T, ro a b c d) :: bx) Y) (by kernel_rfl) ⟨l, _, XX.drew⟩ (fun hH => ?_)
  have hV := XX.drew
  clear XX
  obtain ⟨V0, hV0⟩ : ∃ V, W.drew = V := ⟨_, rfl⟩
  rw [hV0] at hH hV ⊢
  clear hV0
  refine wpAnyH_take (i := 0) (v := rv) rfl (by kernel_rfl) (by kernel_rfl) (by kernel_rfl) (fun _ _ _ h => HPN _ _ _ _ _ h) (Or.inl ⟨by kernel_rfl, fun W hW => ?_⟩) hH ?_
  · go_simp
  try simp only [Act.put, List.getElem_toArray, List.getElem_cons_succ, List.getElem_cons_zero, List.getElem?_toArray, List.getElem?_cons_succ, List.getElem?_cons_zero, List.setIfInBounds_toArray, List.set_cons_zero, List.set_cons_succ]
  refine wpAnyH_take (i := 1) (v := .pointer (some ⟨T, 0, none⟩)) rfl (by kernel_rfl) (by kernel_rfl) (by kernel_rfl) (fun _ _ _ h => HPN _ _ _ _ _ h) (Or.inl ⟨by kernel_rfl, fun W hW => ?_⟩) hH ?_
  · go_simp
  try simp only [Act.put, List.getElem_toArray, List.getElem_cons_succ, List.getElem_cons_zero, List.getElem?_toArray, List.getElem?_cons_succ, List.getElem?_cons_zero, List.setIfInBounds_toArray, List.set_cons_zero, List.set_cons_succ]
  refine wpAnyH_take (i := 3) (v := rv) rfl (by kernel_rfl) (by kernel_rfl) (by kernel_rfl) (fun _ _ _ h => HPN _ _ _ _ _ h) (Or.inl ⟨by kernel_rfl, fun W hW => ?_⟩) hH ?_
  · go_simp
  try simp only [Act.put, List.getElem_toArray, List.getElem_cons_succ, List.getElem_cons_zero, List.getElem?_toArray, List.getElem?_cons_succ, List.getElem?_cons_zero, List.setIfInBounds_toArray, List.set_cons_zero, List.set_cons_succ]
  refine wpAnyH_take (i := 4) (v := .pointer (some ⟨T, 5, none⟩)) rfl (by kernel_rfl) (by kernel_rfl) (by kernel_rfl) (fun _ _ _ h => HPN _ _ _ _ _ h) (Or.inl ⟨by kernel_rfl, fun W hW => ?_⟩) hH ?_
  · go_simp
  try simp only [Act.put, List.getElem_toArray, List.getElem_cons_succ, List.getElem_cons_zero, List.getElem?_toArray, List.getElem?_cons_succ, List.getElem?_cons_zero, List.setIfInBounds_toArray, List.set_cons_zero, List.set_cons_succ]
  refine wpAnyH_take (i := 2) (v := .agg (VI .u64 a)) rfl (by kernel_rfl) (by kernel_rfl) (by kernel_rfl) (fun _ _ _ h => HPN _ _ _ _ _ h) (yieldsIf_load_mid (by kernel_rfl) 51 (.tmp 52) rfl T 0 (by kernel_rfl) (a.map (Value.int .u64)) _ (fun Y hY => (by obtain ⟨l', z', hY⟩ := hY; exact ro_0 la.out lb.out lc.out ld.out (hY.row (by simp)))) Try.underlying51 rfl (by rw [List.length_map]; exact infoE5 la.out)) hH ?_
  try simp only [Act.put, List.getElem_toArray, List.getElem_cons_succ, List.getElem_cons_zero, List.getElem?_toArray, List.getElem?_cons_succ, List.getElem?_cons_zero, List.setIfInBounds_toArray, List.set_cons_zero, List.set_cons_succ]
  refine wpAnyH_take (i := 5) (v := .agg (VI .u64 b)) rfl (by kernel_rfl) (by kernel_rfl) (by kernel_rfl) (fun _ _ _ h => HPN _ _ _ _ _ h) (yieldsIf_load_mid (by kernel_rfl) 51 (.tmp 55) rfl T 5 (by kernel_rfl) (b.map (Value.int .u64)) _ (fun Y hY => (by obtain ⟨l', z', hY⟩ := hY; exact ro_5 la.out lb.out lc.out ld.out (hY.row (by simp)))) Try.underlying51 rfl (by rw [List.length_map]; exact infoE5 lb.out)) hH ?_
  try simp only [Act.put, List.getElem_toArray, List.getElem_cons_succ, List.getElem_cons_zero, List.getElem?_toArray, List.getElem?_cons_succ, List.getElem?_cons_zero, List.setIfInBounds_toArray, List.set_cons_zero, List.set_cons_succ]
  refine wpAnyH_ready (rs := [6]) (by kernel_rfl) (by simp) (AllReadyH.cons rfl (fun K' hK => ?_) AllReadyH.nil)
  go_simp
  refine (HC0.out _ _ _ _ _ _ hV (by have := hl.out; (try simp only [List.length_append, List.length_cons, List.length_nil]); omega)).mono ?_
  rintro e w1 ⟨rfl, hN⟩
  go_wp2_with fail
  refine hK.out _ _ ⟨_, _, hN⟩ (fun hH => ?_)
  clear hK K' hV
  have hV := hN
  clear hN
  try simp only [Act.put, List.getElem_toArray, List.getElem_cons_succ, List.getElem_cons_zero, List.getElem?_toArray, List.getElem?_cons_succ, List.getElem?_cons_zero, List.setIfInBounds_toArray, List.set_cons_zero, List.set_cons_succ]
  refine wpAnyH_ready (rs := [7]) (by kernel_rfl) (by simp) (AllReadyH.cons rfl (fun K' hK => ?_) AllReadyH.nil)
  go_simp
  refine (HC1.out _ _ _ _ _ _ hV (by have := hl.out; (try simp only [List.length_append, List.length_cons, List.length_nil]); omega)).mono ?_
  rintro e w2 ⟨rfl, hN⟩
  go_wp2_with fail
  refine hK.out _ _ ⟨_, _, hN⟩ (fun hH => ?_)
  clear hK K' hV
  have hV := hN
  clear hN
  try simp only [Act.put, List.getElem_toArray, List.getElem_cons_succ, List.getElem_cons_zero, List.getElem?_toArray, List.getElem?_cons_succ, List.getElem?_cons_zero, List.setIfInBounds_toArray, List.set_cons_zero, List.set_cons_succ]
  refine wpAnyH_ready (rs := [8]) (by kernel_rfl) (by simp) (AllReadyH.cons rfl (fun K' hK => ?_) AllReadyH.nil)
  go_simp
  refine (HC2.out _).mono ?_
  rintro e w3 ⟨rfl, hb⟩
  have hN := hV.below hb
  clear hb
  go_wp2_with fail
  refine hK.out _ _ ⟨_, _, hN⟩ (fun hH => ?_)
  clear hK K' hV
  have hV := hN
  clear hN
  try simp only [Act.put, List.getElem_toArray, List.getElem_cons_succ, List.getElem_cons_zero, List.getElem?_toArray, List.getElem?_cons_succ, List.getElem?_cons_zero, List.setIfInBounds_toArray, List.set_cons_zero, List.set_cons_succ]
  refine wpAnyH_ready (rs := [9]) (by kernel_rfl) (by simp) (AllReadyH.cons rfl (fun K' hK => ?_) AllReadyH.nil)
  have ht := there_mid (hV.row (g := gr) (x := bxK z0) (by simp)) 0 32 (by rw [VI_size, lz0.out]; decide)
  refine if_pos_mpr (by kernel_rfl) (wp_store_mid 23 (.tmp 6) (.tmp 59) rfl gr 0 (VI .u8 z) (by kernel_rfl) (by kernel_rfl) (by rw [VI_size, lz.out]; exact ht) (infoK lz.out) (VI_one _ _) ?_)
  have hE := hV.set rfl hT (but_setCells gr (z.map (Value.int .u8)) 0 w3) (whole_setK (hV.row (g := gr) (x := bxK z0) (by simp)) (by rw [lz.out, lz0.out]))
  refine hK.out _ _ ⟨_, _, hE⟩ (fun hH => ?_)
  clear hK K'
  try simp only [Act.put, List.getElem_toArray, List.getElem_cons_succ, List.getElem_cons_zero, List.getElem?_toArray, List.getElem?_cons_succ, List.getElem?_cons_zero, List.setIfInBounds_toArray, List.set_cons_zero, List.set_cons_succ]
  refine wpAnyH_done (by kernel_rfl) ?_ _
  try simp only [Act.put, List.getElem_toArray, List.getElem_cons_succ, List.getElem_cons_zero, List.getElem?_toArray, List.getElem?_cons_succ, List.getElem?_cons_zero, List.setIfInBounds_toArray, List.set_cons_zero, List.set_cons_succ]
  exact HH.out _ hE
end Go.Proofs.Ytlffamcifahbjaa
