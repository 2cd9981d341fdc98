import Derived.Deep.RegionHeld3
import Derived.Test.YtlffamcifahbjaaMgax
namespace Go.Proofs.Ytlffamcifahbjaa
set_option linter.unusedSimpArgs false
set_option linter.unusedVariables false
open Go.ChangeShapes Go.WideShapes Go.ChangeAt Go.RowKit Go.Pin Go.Fld
noncomputable def rgT3 : Code := ((Try.f33.body.bind (findReg 3)).getD .skip)
set_option maxRecDepth 100000 in
set_option maxHeartbeats 8000000 in
theorem step_r3 {Q : Exit → Act → World → Prop} {B : Nat} {w W : World} {bx : List (Nat × Obj)} {gc gd gp : Nat} {c d n p r : List Int}  {c0 c1 c2 c3 c4 c5 c6 c7 c10 c11 c12 c13 c15 c16 c17 c18 c19 c20 c21 c22 c23 c24 c25 c26 c27 c28 c29 c30 c31 c32 c33 c34 c35 c36 c37 c38 c39 c40 c41 c42 c43 c44 c45 c46 c47 c48 c49 c50 c51 c52 c53 c54 c55 c56 c57 c58 c59 c60 c61 c62 c63 c64 c65 c66 c67 c68 c69 c70 c71 c72 : Value}
    (l_c : Hid (c.length = 16)) (l_d : Hid (d.length = 16)) (l_p : Hid (p.length = 16)) (l_r : Hid (r.length = 16))
    (HC_2 : Hid (∀ w, Calls Try.prog 52 #[.agg (VI .i64 c), .agg (VI .i64 d)] w fun e w' => e = .returned (.agg (VI .i64 n)) ∧ Below w.heap.size w w'))
    (HC_4 : Hid (∀ w, Calls Try.prog 35 #[.agg (VI .i64 n), .agg (VI .i64 p)] w fun e w' => e = .returned (.agg (VI .i64 r)) ∧ Below w.heap.size w w'))
    (m_gc : (gc, bxL c) ∈ bx) (m_gd : (gd, bxL d) ∈ bx) (m_gp : (gp, bxL p) ∈ bx)
    (XX : Ev B w (.pointer none) [] bx W)
    (HPN : ∀ c (a : Act) d v w, Q (.panic c) (a.put d v) w → Q (.panic c) a w)
    (H : ∀ g W', Ev B w (.pointer none) [] ((g, bxL r) :: bx) W' → (∀ p ∈ bx, p.1 ≠ g) → Q .normal ⟨#[c0, c1, c2, c3, c4, c5, c6, c7, .pointer (some ⟨gc, 0, none⟩), .pointer (some ⟨gd, 0, none⟩), c10, c11, c12, c13, .pointer (some ⟨gp, 0, none⟩), c15, .pointer (some ⟨g, 0, none⟩), c17, c18, c19, c20, c21, c22, c23, c24, c25, c26, c27, c28, c29, .agg (VI .i64 c), .agg (VI .i64 d), .agg (VI .i64 n), .agg (VI .i64 p), .agg (VI .i64 r), c35, c36, c37, c38, c39, c40, c41, c42, c43, c44, c45, c46, c47, c48, c49, c50, c51, c52, c53, c54, c55, c56, c57, c58, c59, c60, c61, c62, c63, c64, c65, c66, c67, c68, c69, c70, c71, c72], []⟩ W') :
    Code.wp Try.prog rgT3 Q ⟨#[c0, c1, c2, c3, c4, c5, c6, c7, .pointer (some ⟨gc, 0, none⟩), .pointer (some ⟨gd, 0, none⟩), c10, c11, c12, c13, .pointer (some ⟨gp, 0, none⟩), c15, c16, c17, c18, c19, c20, c21, c22, c23, c24, c25, c26, c27, c28, c29, c30, c31, c32, c33, c34, c35, c36, c37, c38, c39, c40, c41, c42, c43, c44, c45, c46, c47, c48, c49, c50, c51, c52, c53, c54, c55, c56, c57, c58, c59, c60, c61, c62, c63, c64, c65, c66, c67, c68, c69, c70, c71, c72], []⟩ W := by
  have HH : Hid (∀ g W', Ev B w (.pointer none) [] ((g, bxL r) :: bx) W' → (∀ p ∈ bx, p.1 ≠ g) → Q .normal ⟨#[c0, c1, c2, c3, c4, c5, c6, c7, .pointer (some ⟨gc, 0, none⟩), .pointer (some ⟨gd, 0, none⟩), c10, c11, c12, c13, .pointer (some ⟨gp, 0, none⟩), c15, .pointer (some ⟨g, 0, none⟩), c17, c18, c19, c20, c21, c22, c23, c24, c25, c26, c27, c28, c29, .agg (VI .i64 c), .agg (VI .i64 d), .agg (VI .i64 n), .agg (VI .i64 p), .agg (VI .i64 r), c35, c36, c37, c38, c39, c40, c41, c42, c43, c44, c45, c46, c47, c48, c49, c50, c51, c52, c53, c54, c55, c56, c57, c58, c59, c60, c61, c62, c63, c64, c65, c66, c67, c68, c69, c70, c71, c72], []⟩ W') := H
  clear H
  conv => arg 2; whnf
  refine wp_region_held_drew (S := fun Y => Ev B w (.pointer none) [] bx Y) (by kernel_rfl) XX.drew (fun hH => ?_)
  have hV := XX.drew
  clear XX
  obtain ⟨V0, hV0⟩ : ∃ V, W.drew = V := ⟨_, rfl⟩
  rw [hV0] at hH hV ⊢
  clear hV0
  refine wpAnyH_take (i := 0) (v := .agg (VI .i64 c)) rfl (by kernel_rfl) (by kernel_rfl) (by kernel_rfl) (fun _ _ _ h => HPN _ _ _ _ _ h) (yieldsIf_load_row (by kernel_rfl) 65 (.tmp 8) rfl gc (by kernel_rfl) 65 (VI .i64 c) (0, 0) _ (fun Y hY => (by skip; exact hY.row (g := gc) (x := bxL c) (by simp [m_gc]))) Try.underlying65 rfl (infoNm l_c.out)) hH ?_
  try simp only [Act.put, List.getElem_toArray, List.getElem_cons_succ, List.getElem_cons_zero, List.getElem?_toArray, List.getElem?_cons_succ, List.getElem?_cons_zero, List.setIfInBounds_toArray, List.set_cons_zero, List.set_cons_succ]
  refine wpAnyH_take (i := 1) (v := .agg (VI .i64 d)) rfl (by kernel_rfl) (by kernel_rfl) (by kernel_rfl) (fun _ _ _ h => HPN _ _ _ _ _ h) (yieldsIf_load_row (by kernel_rfl) 65 (.tmp 9) rfl gd (by kernel_rfl) 65 (VI .i64 d) (0, 0) _ (fun Y hY => (by skip; exact hY.row (g := gd) (x := bxL d) (by simp [m_gd]))) Try.underlying65 rfl (infoNm l_d.out)) hH ?_
  try simp only [Act.put, List.getElem_toArray, List.getElem_cons_succ, List.getElem_cons_zero, List.getElem?_toArray, List.getElem?_cons_succ, List.getElem?_cons_zero, List.setIfInBounds_toArray, List.set_cons_zero, List.set_cons_succ]
  refine wpAnyH_take (i := 3) (v := .agg (VI .i64 p)) rfl (by kernel_rfl) (by kernel_rfl) (by kernel_rfl) (fun _ _ _ h => HPN _ _ _ _ _ h) (yieldsIf_load_row (by kernel_rfl) 65 (.tmp 14) rfl gp (by kernel_rfl) 65 (VI .i64 p) (0, 0) _ (fun Y hY => (by skip; exact hY.row (g := gp) (x := bxL p) (by simp [m_gp]))) Try.underlying65 rfl (infoNm l_p.out)) hH ?_
  try simp only [Act.put, List.getElem_toArray, List.getElem_cons_succ, List.getElem_cons_zero, List.getElem?_toArray, List.getElem?_cons_succ, List.getElem?_cons_zero, List.setIfInBounds_toArray, List.set_cons_zero, List.set_cons_succ]
  refine wpAnyH_ready (rs := [2, 5]) (by kernel_rfl) (by simp) (AllReadyH.cons rfl (fun K' hK => ?_) (AllReadyH.cons rfl (fun K' hK => ?_) AllReadyH.nil))
  · go_simp
    refine (HC_2.out _).mono ?_
    rintro e w1 ⟨rfl, hb⟩
    have hN := hV.below hb
    clear hb
    go_wp2_with fail
    refine hK.out _ _ hN (fun hH => ?_)
    clear hK K' hV
    have hV := hN
    clear hN
    try simp only [Act.put, List.getElem_toArray, List.getElem_cons_succ, List.getElem_cons_zero, List.getElem?_toArray, List.getElem?_cons_succ, List.getElem?_cons_zero, List.setIfInBounds_toArray, List.set_cons_zero, List.set_cons_succ]
    refine wpAnyH_ready (rs := [4, 5]) (by kernel_rfl) (by simp) (AllReadyH.cons rfl (fun K' hK => ?_) (AllReadyH.cons rfl (fun K' hK => ?_) AllReadyH.nil))
    · go_simp
      refine (HC_4.out _).mono ?_
      rintro e w2 ⟨rfl, hb⟩
      have hN := hV.below hb
      clear hb
      go_wp2_with fail
      refine hK.out _ _ hN (fun hH => ?_)
      clear hK K' hV
      have hV := hN
      clear hN
      try simp only [Act.put, List.getElem_toArray, List.getElem_cons_succ, List.getElem_cons_zero, List.getElem?_toArray, List.getElem?_cons_succ, List.getElem?_cons_zero, List.setIfInBounds_toArray, List.set_cons_zero, List.set_cons_succ]
      refine wpAnyH_ready (rs := [5]) (by kernel_rfl) (by simp) (AllReadyH.cons rfl (fun K' hK => ?_) AllReadyH.nil)
      go_simp
      have hZ := hV.new (bxL (List.replicate 16 0))
      have hf := hV.fresh
      obtain ⟨g, hg⟩ : ∃ g, w2.heap.size = g := ⟨_, rfl⟩
      rw [hg] at hZ hf
      try simp only [hg]
      obtain ⟨w3, hZ0⟩ : ∃ Z, w2.alloc (.cells #[.int .i64 0, .int .i64 0, .int .i64 0, .int .i64 0, .int .i64 0, .int .i64 0, .int .i64 0, .int .i64 0, .int .i64 0, .int .i64 0, .int .i64 0, .int .i64 0, .int .i64 0, .int .i64 0, .int .i64 0, .int .i64 0] 65) = Z := ⟨_, rfl⟩
      rw [show w2.alloc (bxL (List.replicate 16 0)) = w3 from hZ0] at hZ
      rw [hZ0]
      clear hZ0 hg
      refine hK.out _ _ (hZ.sub (fun p hp => List.mem_cons_of_mem _ hp)) (fun hH => ?_)
      clear hK K' hV
      have hV := hZ
      clear hZ
      try simp only [Act.put, List.getElem_toArray, List.getElem_cons_succ, List.getElem_cons_zero, List.getElem?_toArray, List.getElem?_cons_succ, List.getElem?_cons_zero, List.setIfInBounds_toArray, List.set_cons_zero, List.set_cons_succ]
      refine wpAnyH_ready (rs := [6]) (by kernel_rfl) (by simp) (AllReadyH.cons rfl (fun K' hK => ?_) AllReadyH.nil)
      have ht := there_mid (hV.row (g := g) (x := bxL (List.replicate 16 0)) (by simp)) 0 16 (by simp [VI])
      refine if_pos_mpr (by kernel_rfl) (wp_store_mid 65 (.tmp 16) (.tmp 34) rfl g 0 (VI .i64 r) (by kernel_rfl) (by kernel_rfl) (by rw [VI_size, l_r.out]; exact ht) (infoNm l_r.out) (VI_one _ _) ?_)
      have hE := hV.set rfl hf (but_setCells g (r.map (Value.int .i64)) 0 w3) (whole_setN (hV.row (g := g) (x := bxL (List.replicate 16 0)) (by simp)) (by rw [l_r.out]; rfl))
      refine hK.out _ _ (hE.sub (fun p hp => List.mem_cons_of_mem _ hp)) (fun hH => ?_)
      clear hK K'
      try simp only [Act.put, List.getElem_toArray, List.getElem_cons_succ, List.getElem_cons_zero, List.getElem?_toArray, List.getElem?_cons_succ, List.getElem?_cons_zero, List.setIfInBounds_toArray, List.set_cons_zero, List.set_cons_succ]
      refine wpAnyH_done (by kernel_rfl) ?_ _
      try simp only [Act.put, List.getElem_toArray, List.getElem_cons_succ, List.getElem_cons_zero, List.getElem?_toArray, List.getElem?_cons_succ, List.getElem?_cons_zero, List.setIfInBounds_toArray, List.set_cons_zero, List.set_cons_succ]
      exact HH.out g _ hE hf
    · go_simp
      have hZ := hV.new (bxL (List.replicate 16 0))
      have hf := hV.fresh
      obtain ⟨g, hg⟩ : ∃ g, w1.heap.size = g := ⟨_, rfl⟩
      rw [hg] at hZ hf
      try simp only [hg]
      obtain ⟨w2, hZ0⟩ : ∃ Z, w1.alloc (.cells #[.int .i64 0, .int .i64 0, .int .i64 0, .int .i64 0, .int .i64 0, .int .i64 0, .int .i64 0, .int .i64 0, .int .i64 0, .int .i64 0, .int .i64 0, .int .i64 0, .int .i64 0, .int .i64 0, .int .i64 0, .int .i64 0] 65) = Z := ⟨_, rfl⟩
      rw [show w1.alloc (bxL (List.replicate 16 0)) = w2 from hZ0] at hZ
      rw [hZ0]
      clear hZ0 hg
      refine hK.out _ _ (hZ.sub (fun p hp => List.mem_cons_of_mem _ hp)) (fun hH => ?_)
      clear hK K' hV
      have hV := hZ
      clear hZ
      try simp only [Act.put, List.getElem_toArray, List.getElem_cons_succ, List.getElem_cons_zero, List.getElem?_toArray, List.getElem?_cons_succ, List.getElem?_cons_zero, List.setIfInBounds_toArray, List.set_cons_zero, List.set_cons_succ]
      refine wpAnyH_ready (rs := [4]) (by kernel_rfl) (by simp) (AllReadyH.cons rfl (fun K' hK => ?_) AllReadyH.nil)
      go_simp
      refine (HC_4.out _).mono ?_
      rintro e w3 ⟨rfl, hb⟩
      have hN := hV.below hb
      clear hb
      go_wp2_with fail
      refine hK.out _ _ (hN.sub (fun p hp => List.mem_cons_of_mem _ hp)) (fun hH => ?_)
      clear hK K' hV
      have hV := hN
      clear hN
      try simp only [Act.put, List.getElem_toArray, List.getElem_cons_succ, List.getElem_cons_zero, List.getElem?_toArray, List.getElem?_cons_succ, List.getElem?_cons_zero, List.setIfInBounds_toArray, List.set_cons_zero, List.set_cons_succ]
      refine wpAnyH_ready (rs := [6]) (by kernel_rfl) (by simp) (AllReadyH.cons rfl (fun K' hK => ?_) AllReadyH.nil)
      have ht := there_mid (hV.row (g := g) (x := bxL (List.replicate 16 0)) (by simp)) 0 16 (by simp [VI])
      refine if_pos_mpr (by kernel_rfl) (wp_store_mid 65 (.tmp 16) (.tmp 34) rfl g 0 (VI .i64 r) (by kernel_rfl) (by kernel_rfl) (by rw [VI_size, l_r.out]; exact ht) (infoNm l_r.out) (VI_one _ _) ?_)
      have hE := hV.set rfl hf (but_setCells g (r.map (Value.int .i64)) 0 w3) (whole_setN (hV.row (g := g) (x := bxL (List.replicate 16 0)) (by simp)) (by rw [l_r.out]; rfl))
      refine hK.out _ _ (hE.sub (fun p hp => List.mem_cons_of_mem _ hp)) (fun hH => ?_)
      clear hK K'
      try simp only [Act.put, List.getElem_toArray, List.getElem_cons_succ, List.getElem_cons_zero, List.getElem?_toArray, List.getElem?_cons_succ, List.getElem?_cons_zero, List.setIfInBounds_toArray, List.set_cons_zero, List.set_cons_succ]
      refine wpAnyH_done (by kernel_rfl) ?_ _
      try simp only [Act.put, List.getElem_toArray, List.getElem_cons_succ, List.getElem_cons_zero, List.getElem?_toArray, List.getElem?_cons_succ, List.getElem?_cons_zero, List.setIfInBounds_toArray, List.set_cons_zero, List.set_cons_succ]
      exact HH.out g _ hE hf
  · go_simp
    have hZ := hV.new (bxL (List.replicate 16 0))
    have hf := hV.fresh
    obtain ⟨g, hg⟩ : ∃ g, V0.heap.size = g := ⟨_, rfl⟩
    rw [hg] at hZ hf
    try simp only [hg]
    obtain ⟨w1, hZ0⟩ : ∃ Z, V0.alloc (.cells #[.int .i64 0, .int .i64 0, .int .i64 0, .int .i64 0, .int .i64 0, .int .i64 0, .int .i64 0, .int .i64 0, .int .i64 0, .int .i64 0, .int .i64 0, .int .i64 0, .int .i64 0, .int .i64 0, .int .i64 0, .int .i64 0] 65) = Z := ⟨_, rfl⟩
    rw [show V0.alloc (bxL (List.replicate 16 0)) = w1 from hZ0] at hZ
    rw [hZ0]
    clear hZ0 hg
    refine hK.out _ _ (hZ.sub (fun p hp => List.mem_cons_of_mem _ hp)) (fun hH => ?_)
    clear hK K' hV
    have hV := hZ
    clear hZ
    try simp only [Act.put, List.getElem_toArray, List.getElem_cons_succ, List.getElem_cons_zero, List.getElem?_toArray, List.getElem?_cons_succ, List.getElem?_cons_zero, List.setIfInBounds_toArray, List.set_cons_zero, List.set_cons_succ]
    refine wpAnyH_ready (rs := [2]) (by kernel_rfl) (by simp) (AllReadyH.cons rfl (fun K' hK => ?_) AllReadyH.nil)
    go_simp
    refine (HC_2.out _).mono ?_
    rintro e w2 ⟨rfl, hb⟩
    have hN := hV.below hb
    clear hb
    go_wp2_with fail
    refine hK.out _ _ (hN.sub (fun p hp => List.mem_cons_of_mem _ hp)) (fun hH => ?_)
    clear hK K' hV
    have hV := hN
    clear hN
    try simp only [Act.put, List.getElem_toArray, List.getElem_cons_succ, List.getElem_cons_zero, List.getElem?_toArray, List.getElem?_cons_succ, List.getElem?_cons_zero, List.setIfInBounds_toArray, List.set_cons_zero, List.set_cons_succ]
    refine wpAnyH_ready (rs := [4]) (by kernel_rfl) (by simp) (AllReadyH.cons rfl (fun K' hK => ?_) AllReadyH.nil)
    go_simp
    refine (HC_4.out _).mono ?_
    rintro e w3 ⟨rfl, hb⟩
    have hN := hV.below hb
    clear hb
    go_wp2_with fail
    refine hK.out _ _ (hN.sub (fun p hp => List.mem_cons_of_mem _ hp)) (fun hH => ?_)
    clear hK K' hV
    have hV := hN
    clear hN
    try simp only [Act.put, List.getElem_toArray, List.getElem_cons_succ, List.getElem_cons_zero, List.getElem?_toArray, List.getElem?_cons_succ, List.getElem?_cons_zero, List.setIfInBounds_toArray, List.set_cons_zero, List.set_cons_succ]
    refine wpAnyH_ready (rs := [6]) (by kernel_rfl) (by simp) (AllReadyH.cons rfl (fun K' hK => ?_) AllReadyH.nil)
    have ht := there_mid (hV.row (g := g) (x := bxL (List.replicate 16 0)) (by simp)) 0 16 (by simp [VI])
    refine if_pos_mpr (by kernel_rfl) (wp_store_mid 65 (.tmp 16) (.tmp 34) rfl g 0 (VI .i64 r) (by kernel_rfl) (by kernel_rfl) (by rw [VI_size, l_r.out]; exact ht) (infoNm l_r.out) (VI_one _ _) ?_)
    have hE := hV.set rfl hf (but_setCells g (r.map (Value.int .i64)) 0 w3) (whole_setN (hV.row (g := g) (x := bxL (List.replicate 16 0)) (by simp)) (by rw [l_r.out]; rfl))
    refine hK.out _ _ (hE.sub (fun p hp => List.mem_cons_of_mem _ hp)) (fun hH => ?_)
    clear hK K'
    try simp only [Act.put, List.getElem_toArray, List.getElem_cons_succ, List.getElem_cons_zero, List.getElem?_toArray, List.getElem?_cons_succ, List.getElem?_cons_zero, List.setIfInBounds_toArray, List.set_cons_zero, List.set_cons_succ]
    refine wpAnyH_done (by kernel_rfl) ?_ _
    try simp only [Act.put, List.getElem_toArray, List.getElem_cons_succ, List.getElem_cons_zero, List.getElem?_toArray, List.getElem?_cons_succ, List.getElem?_cons_zero, List.setIfInBounds_toArray, List.set_cons_zero, List.set_cons_succ]
    exact HH.out g _ hE hf
noncomputable def rgT4 : Code := ((Try.f33.body.bind (findReg 4)).getD .skip)
set_option maxRecDepth 100000 in
set_option maxHeartbeats 8000000 in
theorem step_r4 {Q : Exit → Act → World → Prop} {B : Nat} {w W : World} {bx : List (Nat × Obj)} {gc gd gq : Nat} {c d m q s : List Int}  {c0 c1 c2 c3 c4 c5 c6 c7 c10 c11 c12 c13 c14 c16 c17 c18 c19 c20 c21 c22 c23 c24 c25 c26 c27 c28 c29 c30 c31 c32 c33 c34 c35 c36 c37 c38 c39 c40 c41 c42 c43 c44 c45 c46 c47 c48 c49 c50 c51 c52 c53 c54 c55 c56 c57 c58 c59 c60 c61 c62 c63 c64 c65 c66 c67 c68 c69 c70 c71 c72 : Value}
    (l_c : Hid (c.length = 16)) (l_d : Hid (d.length = 16)) (l_q : Hid (q.length = 16)) (l_s : Hid (s.length = 16))
    (HC_2 : Hid (∀ w, Calls Try.prog 51 #[.agg (VI .i64 c), .agg (VI .i64 d)] w fun e w' => e = .returned (.agg (VI .i64 m)) ∧ Below w.heap.size w w'))
    (HC_4 : Hid (∀ w, Calls Try.prog 35 #[.agg (VI .i64 m), .agg (VI .i64 q)] w fun e w' => e = .returned (.agg (VI .i64 s)) ∧ Below w.heap.size w w'))
    (m_gc : (gc, bxL c) ∈ bx) (m_gd : (gd, bxL d) ∈ bx) (m_gq : (gq, bxL q) ∈ bx)
    (XX : Ev B w (.pointer none) [] bx W)
    (HPN : ∀ c (a : Act) d v w, Q (.panic c) (a.put d v) w → Q (.panic c) a w)
    (H : ∀ g W', Ev B w (.pointer none) [] ((g, bxL s) :: bx) W' → (∀ p ∈ bx, p.1 ≠ g) → Q .normal ⟨#[c0, c1, c2, c3, c4, c5, c6, c7, .pointer (some ⟨gc, 0, none⟩), .pointer (some ⟨gd, 0, none⟩), c10, c11, c12, c13, c14, .pointer (some ⟨gq, 0, none⟩), c16, .pointer (some ⟨g, 0, none⟩), c18, c19, c20, c21, c22, c23, c24, c25, c26, c27, c28, c29, c30, c31, c32, c33, c34, .agg (VI .i64 c), .agg (VI .i64 d), .agg (VI .i64 m), .agg (VI .i64 q), .agg (VI .i64 s), c40, c41, c42, c43, c44, c45, c46, c47, c48, c49, c50, c51, c52, c53, c54, c55, c56, c57, c58, c59, c60, c61, c62, c63, c64, c65, c66, c67, c68, c69, c70, c71, c72], []⟩ W') :
    Code.wp Try.prog rgT4 Q ⟨#[c0, c1, c2, c3, c4, c5, c6, c7, .pointer (some ⟨gc, 0, none⟩), .pointer (some ⟨gd, 0, none⟩), c10, c11, c12, c13, c14, .pointer (some ⟨gq, 0, none⟩), c16, c17, c18, c19, c20, c21, c22, c23, c24, c25, c26, c27, c28, c29, c30, c31, c32, c33, c34, c35, c36, c37, c38, c39, c40, c41, c42, c43, c44, c45, c46, c47, c48, c49, c50, c51, c52, c53, c54, c55, c56, c57, c58, c59, c60, c61, c62, c63, c64, c65, c66, c67, c68, c69, c70, c71, c72], []⟩ W := by
  have HH : Hid (∀ g W', Ev B w (.pointer none) [] ((g, bxL s) :: bx) W' → (∀ p ∈ bx, p.1 ≠ g) → Q .normal ⟨#[c0, c1, c2, c3, c4, c5, c6, c7, .pointer (some ⟨gc, 0, none⟩), .pointer (some ⟨gd, 0, none⟩), c10, c11, c12, c13, c14, .pointer (some ⟨gq, 0, none⟩), c16, .pointer (some ⟨g, 0, none⟩), c18, c19, c20, c21, c22, c23, c24, c25, c26, c27, c28, c29, c30, c31, c32, c33, c34, .agg (VI .i64 c), .agg (VI .i64 d), .agg (VI .i64 m), .agg (VI .i64 q), .agg (VI .i64 s), c40, c41, c42, c43, c44, c45, c46, c47, c48, c49, c50, c51, c52, c53, c54, c55, c56, c57, c58, c59, c60, c61, c62, c63, c64, c65, c66, c67, c68, c69, c70, c71, c72], []⟩ W') := H
  clear H
  conv => arg 2; whnf
  refine wp_region_held_drew (S := fun Y => Ev B w (.pointer none) [] bx Y) (by kernel_rfl) XX.drew (fun hH => ?_)
  have hV := XX.drew
  clear XX
  obtain ⟨V0, hV0⟩ : ∃ V, W.drew = V := ⟨_, rfl⟩
  rw [hV0] at hH hV ⊢
  clear hV0
  refine wpAnyH_take (i := 0) (v := .agg (VI .i64 c)) rfl (by kernel_rfl) (by kernel_rfl) (by kernel_rfl) (fun _ _ _ h => HPN _ _ _ _ _ h) (yieldsIf_load_row (by kernel_rfl) 65 (.tmp 8) rfl gc (by kernel_rfl) 65 (VI .i64 c) (0, 0) _ (fun Y hY => (by skip; exact hY.row (g := gc) (x := bxL c) (by simp [m_gc]))) Try.underlying65 rfl (infoNm l_c.out)) hH ?_
  try simp only [Act.put, List.getElem_toArray, List.getElem_cons_succ, List.getElem_cons_zero, List.getElem?_toArray, List.getElem?_cons_succ, List.getElem?_cons_zero, List.setIfInBounds_toArray, List.set_cons_zero, List.set_cons_succ]
  refine wpAnyH_take (i := 1) (v := .agg (VI .i64 d)) rfl (by kernel_rfl) (by kernel_rfl) (by kernel_rfl) (fun _ _ _ h => HPN _ _ _ _ _ h) (yieldsIf_load_row (by kernel_rfl) 65 (.tmp 9) rfl gd (by kernel_rfl) 65 (VI .i64 d) (0, 0) _ (fun Y hY => (by skip; exact hY.row (g := gd) (x := bxL d) (by simp [m_gd]))) Try.underlying65 rfl (infoNm l_d.out)) hH ?_
  try simp only [Act.put, List.getElem_toArray, List.getElem_cons_succ, List.getElem_cons_zero, List.getElem?_toArray, List.getElem?_cons_succ, List.getElem?_cons_zero, List.setIfInBounds_toArray, List.set_cons_zero, List.set_cons_succ]
  refine wpAnyH_take (i := 3) (v := .agg (VI .i64 q)) rfl (by kernel_rfl) (by kernel_rfl) (by kernel_rfl) (fun _ _ _ h => HPN _ _ _ _ _ h) (yieldsIf_load_row (by kernel_rfl) 65 (.tmp 15) rfl gq (by kernel_rfl) 65 (VI .i64 q) (0, 0) _ (fun Y hY => (by skip; exact hY.row (g := gq) (x := bxL q) (by simp [m_gq]))) Try.underlying65 rfl (infoNm l_q.out)) hH ?_
  try simp only [Act.put, List.getElem_toArray, List.getElem_cons_succ, List.getElem_cons_zero, List.getElem?_toArray, List.getElem?_cons_succ, List.getElem?_cons_zero, List.setIfInBounds_toArray, List.set_cons_zero, List.set_cons_succ]
  refine wpAnyH_ready (rs := [2, 5]) (by kernel_rfl) (by simp) (AllReadyH.cons rfl (fun K' hK => ?_) (AllReadyH.cons rfl (fun K' hK => ?_) AllReadyH.nil))
  · go_simp
    refine (HC_2.out _).mono ?_
    rintro e w1 ⟨rfl, hb⟩
    have hN := hV.below hb
    clear hb
    go_wp2_with fail
    refine hK.out _ _ hN (fun hH => ?_)
    clear hK K' hV
    have hV := hN
    clear hN
    try simp only [Act.put, List.getElem_toArray, List.getElem_cons_succ, List.getElem_cons_zero, List.getElem?_toArray, List.getElem?_cons_succ, List.getElem?_cons_zero, List.setIfInBounds_toArray, List.set_cons_zero, List.set_cons_succ]
    refine wpAnyH_ready (rs := [4, 5]) (by kernel_rfl) (by simp) (AllReadyH.cons rfl (fun K' hK => ?_) (AllReadyH.cons rfl (fun K' hK => ?_) AllReadyH.nil))
    · go_simp
      refine (HC_4.out _).mono ?_
      rintro e w2 ⟨rfl, hb⟩
      have hN := hV.below hb
      clear hb
      go_wp2_with fail
      refine hK.out _ _ hN (fun hH => ?_)
      clear hK K' hV
      have hV := hN
      clear hN
      try simp only [Act.put, List.getElem_toArray, List.getElem_cons_succ, List.getElem_cons_zero, List.getElem?_toArray, List.getElem?_cons_succ, List.getElem?_cons_zero, List.setIfInBounds_toArray, List.set_cons_zero, List.set_cons_succ]
      refine wpAnyH_ready (rs := [5]) (by kernel_rfl) (by simp) (AllReadyH.cons rfl (fun K' hK => ?_) AllReadyH.nil)
      go_simp
      have hZ := hV.new (bxL (List.replicate 16 0))
      have hf := hV.fresh
      obtain ⟨g, hg⟩ : ∃ g, w2.heap.size = g := ⟨_, rfl⟩
      rw [hg] at hZ hf
      try simp only [hg]
      obtain ⟨w3, hZ0⟩ : ∃ Z, w2.alloc (.cells #[.int .i64 0, .int .i64 0, .int .i64 0, .int .i64 0, .int .i64 0, .int .i64 0, .int .i64 0, .int .i64 0, .int .i64 0, .int .i64 0, .int .i64 0, .int .i64 0, .int .i64 0, .int .i64 0, .int .i64 0, .int .i64 0] 65) = Z := ⟨_, rfl⟩
      rw [show w2.alloc (bxL (List.replicate 16 0)) = w3 from hZ0] at hZ
      rw [hZ0]
      clear hZ0 hg
      refine hK.out _ _ (hZ.sub (fun p hp => List.mem_cons_of_mem _ hp)) (fun hH => ?_)
      clear hK K' hV
      have hV := hZ
      clear hZ
      try simp only [Act.put, List.getElem_toArray, List.getElem_cons_succ, List.getElem_cons_zero, List.getElem?_toArray, List.getElem?_cons_succ, List.getElem?_cons_zero, List.setIfInBounds_toArray, List.set_cons_zero, List.set_cons_succ]
      refine wpAnyH_ready (rs := [6]) (by kernel_rfl) (by simp) (AllReadyH.cons rfl (fun K' hK => ?_) AllReadyH.nil)
      have ht := there_mid (hV.row (g := g) (x := bxL (List.replicate 16 0)) (by simp)) 0 16 (by simp [VI])
      refine if_pos_mpr (by kernel_rfl) (wp_store_mid 65 (.tmp 17) (.tmp 39) rfl g 0 (VI .i64 s) (by kernel_rfl) (by kernel_rfl) (by rw [VI_size, l_s.out]; exact ht) (infoNm l_s.out) (VI_one _ _) ?_)
      have hE := hV.set rfl hf (but_setCells g (s.map (Value.int .i64)) 0 w3) (whole_setN (hV.row (g := g) (x := bxL (List.replicate 16 0)) (by simp)) (by rw [l_s.out]; rfl))
      refine hK.out _ _ (hE.sub (fun p hp => List.mem_cons_of_mem _ hp)) (fun hH => ?_)
      clear hK K'
      try simp only [Act.put, List.getElem_toArray, List.getElem_cons_succ, List.getElem_cons_zero, List.getElem?_toArray, List.getElem?_cons_succ, List.getElem?_cons_zero, List.setIfInBounds_toArray, List.set_cons_zero, List.set_cons_succ]
      refine wpAnyH_done (by kernel_rfl) ?_ _
      try simp only [Act.put, List.getElem_toArray, List.getElem_cons_succ, List.getElem_cons_zero, List.getElem?_toArray, List.getElem?_cons_succ, List.getElem?_cons_zero, List.setIfInBounds_toArray, List.set_cons_zero, List.set_cons_succ]
      exact HH.out g _ hE hf
    · go_simp
      have hZ := hV.new (bxL (List.replicate 16 0))
      have hf := hV.fresh
      obtain ⟨g, hg⟩ : ∃ g, w1.heap.size = g := ⟨_, rfl⟩
      rw [hg] at hZ hf
      try simp only [hg]
      obtain ⟨w2, hZ0⟩ : ∃ Z, w1.alloc (.cells #[.int .i64 0, .int .i64 0, .int .i64 0, .int .i64 0, .int .i64 0, .int .i64 0, .int .i64 0, .int .i64 0, .int .i64 0, .int .i64 0, .int .i64 0, .int .i64 0, .int .i64 0, .int .i64 0, .int .i64 0, .int .i64 0] 65) = Z := ⟨_, rfl⟩
      rw [show w1.alloc (bxL (List.replicate 16 0)) = w2 from hZ0] at hZ
      rw [hZ0]
      clear hZ0 hg
      refine hK.out _ _ (hZ.sub (fun p hp => List.mem_cons_of_mem _ hp)) (fun hH => ?_)
      clear hK K' hV
      have hV := hZ
      clear hZ
      try simp only [Act.put, List.getElem_toArray, List.getElem_cons_succ, List.getElem_cons_zero, List.getElem?_toArray, List.getElem?_cons_succ, List.getElem?_cons_zero, List.setIfInBounds_toArray, List.set_cons_zero, List.set_cons_succ]
      refine wpAnyH_ready (rs := [4]) (by kernel_rfl) (by simp) (AllReadyH.cons rfl (fun K' hK => ?_) AllReadyH.nil)
      go_simp
      refine (HC_4.out _).mono ?_
      rintro e w3 ⟨rfl, hb⟩
      have hN := hV.below hb
      clear hb
      go_wp2_with fail
      refine hK.out _ _ (hN.sub (fun p hp => List.mem_cons_of_mem _ hp)) (fun hH => ?_)
      clear hK K' hV
      have hV := hN
      clear hN
      try simp only [Act.put, List.getElem_toArray, List.getElem_cons_succ, List.getElem_cons_zero, List.getElem?_toArray, List.getElem?_cons_succ, List.getElem?_cons_zero, List.setIfInBounds_toArray, List.set_cons_zero, List.set_cons_succ]
      refine wpAnyH_ready (rs := [6]) (by kernel_rfl) (by simp) (AllReadyH.cons rfl (fun K' hK => ?_) AllReadyH.nil)
      have ht := there_mid (hV.row (g := g) (x := bxL (List.replicate 16 0)) (by simp)) 0 16 (by simp [VI])
      refine if_pos_mpr (by kernel_rfl) (wp_store_mid 65 (.tmp 17) (.tmp 39) rfl g 0 (VI .i64 s) (by kernel_rfl) (by kernel_rfl) (by rw [VI_size, l_s.out]; exact ht) (infoNm l_s.out) (VI_one _ _) ?_)
      have hE := hV.set rfl hf (but_setCells g (s.map (Value.int .i64)) 0 w3) (whole_setN (hV.row (g := g) (x := bxL (List.replicate 16 0)) (by simp)) (by rw [l_s.out]; rfl))
      refine hK.out _ _ (hE.sub (fun p hp => List.mem_cons_of_mem _ hp)) (fun hH => ?_)
      clear hK K'
      try simp only [Act.put, List.getElem_toArray, List.getElem_cons_succ, List.getElem_cons_zero, List.getElem?_toArray, List.getElem?_cons_succ, List.getElem?_cons_zero, List.setIfInBounds_toArray, List.set_cons_zero, List.set_cons_succ]
      refine wpAnyH_done (by kernel_rfl) ?_ _
      try simp only [Act.put, List.getElem_toArray, List.getElem_cons_succ, List.getElem_cons_zero, List.getElem?_toArray, List.getElem?_cons_succ, List.getElem?_cons_zero, List.setIfInBounds_toArray, List.set_cons_zero, List.set_cons_succ]
      exact HH.out g _ hE hf
  · go_simp
    have hZ := hV.new (bxL (List.replicate 16 0))
    have hf := hV.fresh
    obtain ⟨g, hg⟩ : ∃ g, V0.heap.size = g := ⟨_, rfl⟩
    rw [hg] at hZ hf
    try simp only [hg]
    obtain ⟨w1, hZ0⟩ : ∃ Z, V0.alloc (.cells #[.int .i64 0, .int .i64 0, .int .i64 0, .int .i64 0, .int .i64 0, .int .i64 0, .int .i64 0, .int .i64 0, .int .i64 0, .int .i64 0, .int .i64 0, .int .i64 0, .int .i64 0, .int .i64 0, .int .i64 0, .int .i64 0] 65) = Z := ⟨_, rfl⟩
    rw [show V0.alloc (bxL (List.replicate 16 0)) = w1 from hZ0] at hZ
    rw [hZ0]
    clear hZ0 hg
    refine hK.out _ _ (hZ.sub (fun p hp => List.mem_cons_of_mem _ hp)) (fun hH => ?_)
    clear hK K' hV
    have hV := hZ
    clear hZ
    try simp only [Act.put, List.getElem_toArray, List.getElem_cons_succ, List.getElem_cons_zero, List.getElem?_toArray, List.getElem?_cons_succ, List.getElem?_cons_zero, List.setIfInBounds_toArray, List.set_cons_zero, List.set_cons_succ]
    refine wpAnyH_ready (rs := [2]) (by kernel_rfl) (by simp) (AllReadyH.cons rfl (fun K' hK => ?_) AllReadyH.nil)
    go_simp
    refine (HC_2.out _).mono ?_
    rintro e w2 ⟨rfl, hb⟩
    have hN := hV.below hb
    clear hb
    go_wp2_with fail
    refine hK.out _ _ (hN.sub (fun p hp => List.mem_cons_of_mem _ hp)) (fun hH => ?_)
    clear hK K' hV
    have hV := hN
    clear hN
    try simp only [Act.put, List.getElem_toArray, List.getElem_cons_succ, List.getElem_cons_zero, List.getElem?_toArray, List.getElem?_cons_succ, List.getElem?_cons_zero, List.setIfInBounds_toArray, List.set_cons_zero, List.set_cons_succ]
    refine wpAnyH_ready (rs := [4]) (by kernel_rfl) (by simp) (AllReadyH.cons rfl (fun K' hK => ?_) AllReadyH.nil)
    go_simp
    refine (HC_4.out _).mono ?_
    rintro e w3 ⟨rfl, hb⟩
    have hN := hV.below hb
    clear hb
    go_wp2_with fail
    refine hK.out _ _ (hN.sub (fun p hp => List.mem_cons_of_mem _ hp)) (fun hH => ?_)
    clear hK K' hV
    have hV := hN
    clear hN
    try simp only [Act.put, List.getElem_toArray, List.getElem_cons_succ, List.getElem_cons_zero, List.getElem?_toArray, List.getElem?_cons_succ, List.getElem?_cons_zero, List.setIfInBounds_toArray, List.set_cons_zero, List.set_cons_succ]
    refine wpAnyH_ready (rs := [6]) (by kernel_rfl) (by simp) (AllReadyH.cons rfl (fun K' hK => ?_) AllReadyH.nil)
    have ht := there_mid (hV.row (g := g) (x := bxL (List.replicate 16 0)) (by simp)) 0 16 (by simp [VI])
    refine if_pos_mpr (by kernel_rfl) (wp_store_mid 65 (.tmp 17) (.tmp 39) rfl g 0 (VI .i64 s) (by kernel_rfl) (by kernel_rfl) (by rw [VI_size, l_s.out]; exact ht) (infoNm l_s.out) (VI_one _ _) ?_)
    have hE := hV.set rfl hf (but_setCells g (s.map (Value.int .i64)) 0 w3) (whole_setN (hV.row (g := g) (x := bxL (List.replicate 16 0)) (by simp)) (by rw [l_s.out]; rfl))
    refine hK.out _ _ (hE.sub (fun p hp => List.mem_cons_of_mem _ hp)) (fun hH => ?_)
    clear hK K'
    try simp only [Act.put, List.getElem_toArray, List.getElem_cons_succ, List.getElem_cons_zero, List.getElem?_toArray, List.getElem?_cons_succ, List.getElem?_cons_zero, List.setIfInBounds_toArray, List.set_cons_zero, List.set_cons_succ]
    refine wpAnyH_done (by kernel_rfl) ?_ _
    try simp only [Act.put, List.getElem_toArray, List.getElem_cons_succ, List.getElem_cons_zero, List.getElem?_toArray, List.getElem?_cons_succ, List.getElem?_cons_zero, List.setIfInBounds_toArray, List.set_cons_zero, List.set_cons_succ]
    exact HH.out g _ hE hf
end Go.Proofs.Ytlffamcifahbjaa
