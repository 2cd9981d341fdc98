import Derived.Test.YtfeoamkngnpcmaaPrkC
namespace Go.Proofs.Ytfeoamkngnpcmaa
set_option linter.unusedSimpArgs false
set_option linter.unusedVariables false
open Go.ChangeShapes Go.WideShapes Go.ChangeAt Go.RowKit Go.Pin Go.Prm
noncomputable def rgS18 : Code := ((Try.f10.body.bind (findReg 18)).getD .skip)
set_option maxRecDepth 100000 in
set_option maxHeartbeats 8000000 in
theorem step_r18 {Q : Exit → Act → World → Prop} {W : World} {B g : Nat} {S : Nat → Prop} {es : Nat → List Int} {ns : Nat → Nat} {rv vs : Value} {lr ll : List (Int × Int)} {c1 c2 c3 c4 c5 c6 c7 c8 c9 c10 c11 c12 c13 c14 c15 c16 c17 c18 c19 c20 c21 c22 c23 c24 c25 c26 c27 c28 c29 c30 c31 c32 c33 c34 c35 c36 c37 c38 c39 c40 c41 c42 c43 c44 c45 c46 c47 c48 c49 c50 c51 c52 c53 c54 c55 c56 c57 c58 c59 c60 c61 c62 c63 c64 c65 c66 c67 c68 c69 c70 c71 c72 c73 c74 c75 c76 c77 c78 c79 c80 c81 c82 c83 c84 c85 c86 c87 c88 c89 c90 c91 c92 c93 c94 c95 c96 c97 c98 c99 c100 c101 c102 c103 c104 c105 c106 c107 c108 c109 c110 c111 c112 c113 c114 c115 c116 c117 c118 c119 c120 c121 c122 c123 c124 c125 c126 c127 c128 c129 c130 c131 c132 c133 c134 c135 c136 c137 c138 c139 c140 c141 c142 c143 c144 c145 c146 c147 c148 c149 c150 c151 c152 c153 c154 c155 c156 c157 c158 c159 c160 c161 c162 c163 c164 c165 c166 c167 c168 c169 c170 c171 c172 c173 c174 c175 c176 c177 c178 c179 c180 c181 c182 c183 c184 c185 c186 c187 c188 c189 c190 c191 c192 c193 c194 c195 c196 : Value}
    (HST : Hid (St B g S es ns rv lr ll vs W)) (hl : ll.length ≤ 1000000)
    (HPN : ∀ x (a : Act) d v w, Q (.panic x) (a.put d v) w → Q (.panic x) a w)
    (H : ∀ (b : Nat) (vs' : Value) (S' : Nat → Prop) (w' : World), St B g S' es ns rv lr (ll ++ [(3, 12)]) vs' w' → Grow S W w' → (∀ k, S' k → S k ∨ W.heap.size ≤ k) → Q .normal ⟨#[.pointer (some ⟨g, 0, none⟩), c1, c2, c3, c4, c5, c6, c7, c8, c9, c10, c11, c12, c13, c14, c15, c16, c17, c18, c19, c20, c21, c22, c23, c24, c25, c26, c27, c28, c29, c30, c31, c32, c33, c34, c35, c36, c37, c38, c39, c40, c41, c42, c43, c44, c45, c46, c47, c48, c49, c50, c51, c52, c53, c54, c55, c56, c57, c58, c59, c60, c61, c62, c63, c64, c65, c66, c67, c68, c69, c70, c71, c72, c73, c74, c75, c76, c77, c78, c79, c80, c81, c82, c83, c84, c85, c86, c87, c88, c89, c90, c91, c92, c93, c94, c95, c96, c97, c98, c99, c100, c101, c102, c103, c104, c105, c106, c107, c108, c109, c110, c111, c112, c113, c114, c115, c116, c117, c118, c119, c120, c121, c122, c123, c124, c125, c126, c127, c128, c129, c130, c131, c132, c133, c134, c135, c136, c137, c138, c139, c140, c141, c142, c143, c144, c145, c146, c147, c148, .pointer (some ⟨g, 0, none⟩), .pointer (some ⟨g, 0, none⟩), .pointer (some ⟨g, 0, none⟩), .pointer (some ⟨g, 177, none⟩), vs, .agg #[.int .i64 3, .int .i64 12], .slice (some ⟨b, 0, none⟩) 1 1, vs', .pointer (some ⟨g, 0, none⟩), .pointer (some ⟨g, 177, none⟩), c159, c160, c161, c162, c163, c164, c165, c166, c167, c168, c169, c170, c171, c172, c173, c174, c175, c176, c177, c178, c179, c180, c181, c182, c183, c184, c185, c186, c187, c188, c189, c190, c191, c192, c193, c194, c195, c196], []⟩ w') :
    Code.wp Try.prog rgS18 Q ⟨#[.pointer (some ⟨g, 0, none⟩), c1, c2, c3, c4, c5, c6, c7, c8, c9, c10, c11, c12, c13, c14, c15, c16, c17, c18, c19, c20, c21, c22, c23, c24, c25, c26, c27, c28, c29, c30, c31, c32, c33, c34, c35, c36, c37, c38, c39, c40, c41, c42, c43, c44, c45, c46, c47, c48, c49, c50, c51, c52, c53, c54, c55, c56, c57, c58, c59, c60, c61, c62, c63, c64, c65, c66, c67, c68, c69, c70, c71, c72, c73, c74, c75, c76, c77, c78, c79, c80, c81, c82, c83, c84, c85, c86, c87, c88, c89, c90, c91, c92, c93, c94, c95, c96, c97, c98, c99, c100, c101, c102, c103, c104, c105, c106, c107, c108, c109, c110, c111, c112, c113, c114, c115, c116, c117, c118, c119, c120, c121, c122, c123, c124, c125, c126, c127, c128, c129, c130, c131, c132, c133, c134, c135, c136, c137, c138, c139, c140, c141, c142, c143, c144, c145, c146, c147, c148, c149, c150, c151, c152, c153, c154, c155, c156, c157, c158, c159, c160, c161, c162, c163, c164, c165, c166, c167, c168, c169, c170, c171, c172, c173, c174, c175, c176, c177, c178, c179, c180, c181, c182, c183, c184, c185, c186, c187, c188, c189, c190, c191, c192, c193, c194, c195, c196], []⟩ W := by
  have HH : Hid (∀ (b : Nat) (vs' : Value) (S' : Nat → Prop) (w' : World), St B g S' es ns rv lr (ll ++ [(3, 12)]) vs' w' → Grow S W w' → (∀ k, S' k → S k ∨ W.heap.size ≤ k) → Q .normal ⟨#[.pointer (some ⟨g, 0, none⟩), c1, c2, c3, c4, c5, c6, c7, c8, c9, c10, c11, c12, c13, c14, c15, c16, c17, c18, c19, c20, c21, c22, c23, c24, c25, c26, c27, c28, c29, c30, c31, c32, c33, c34, c35, c36, c37, c38, c39, c40, c41, c42, c43, c44, c45, c46, c47, c48, c49, c50, c51, c52, c53, c54, c55, c56, c57, c58, c59, c60, c61, c62, c63, c64, c65, c66, c67, c68, c69, c70, c71, c72, c73, c74, c75, c76, c77, c78, c79, c80, c81, c82, c83, c84, c85, c86, c87, c88, c89, c90, c91, c92, c93, c94, c95, c96, c97, c98, c99, c100, c101, c102, c103, c104, c105, c106, c107, c108, c109, c110, c111, c112, c113, c114, c115, c116, c117, c118, c119, c120, c121, c122, c123, c124, c125, c126, c127, c128, c129, c130, c131, c132, c133, c134, c135, c136, c137, c138, c139, c140, c141, c142, c143, c144, c145, c146, c147, c148, .pointer (some ⟨g, 0, none⟩), .pointer (some ⟨g, 0, none⟩), .pointer (some ⟨g, 0, none⟩), .pointer (some ⟨g, 177, none⟩), vs, .agg #[.int .i64 3, .int .i64 12], .slice (some ⟨b, 0, none⟩) 1 1, vs', .pointer (some ⟨g, 0, none⟩), .pointer (some ⟨g, 177, none⟩), c159, c160, c161, c162, c163, c164, c165, c166, c167, c168, c169, c170, c171, c172, c173, c174, c175, c176, c177, c178, c179, c180, c181, c182, c183, c184, c185, c186, c187, c188, c189, c190, c191, c192, c193, c194, c195, c196], []⟩ w') := H
  clear H
  have hcl : W.cell? ⟨g, 177, none⟩ = some vs := HST.out.bn.l
  conv => arg 2; whnf
  refine wp_region_held_drew (S := fun _ => True) (by kernel_rfl) (trivial) (fun hH => ?_)
  refine wpAnyH_take (i := 0) (v := .pointer (some ⟨g, 0, none⟩)) rfl (by kernel_rfl) (by kernel_rfl) (by kernel_rfl) (fun _ _ _ h => HPN _ _ _ _ _ h) (Or.inl ⟨by kernel_rfl, fun W hW => ?_⟩) hH ?_
  · go_simp
  try simp only [Act.put, List.getElem_toArray, List.getElem_cons_succ, List.getElem_cons_zero, List.getElem?_toArray, List.getElem?_cons_succ, List.getElem?_cons_zero, List.setIfInBounds_toArray, List.set_cons_zero, List.set_cons_succ]
  refine wpAnyH_take (i := 1) (v := .pointer (some ⟨g, 0, none⟩)) rfl (by kernel_rfl) (by kernel_rfl) (by kernel_rfl) (fun _ _ _ h => HPN _ _ _ _ _ h) (Or.inl ⟨by kernel_rfl, fun W hW => ?_⟩) hH ?_
  · go_simp
  try simp only [Act.put, List.getElem_toArray, List.getElem_cons_succ, List.getElem_cons_zero, List.getElem?_toArray, List.getElem?_cons_succ, List.getElem?_cons_zero, List.setIfInBounds_toArray, List.set_cons_zero, List.set_cons_succ]
  refine wpAnyH_take (i := 2) (v := .pointer (some ⟨g, 0, none⟩)) rfl (by kernel_rfl) (by kernel_rfl) (by kernel_rfl) (fun _ _ _ h => HPN _ _ _ _ _ h) (Or.inl ⟨by kernel_rfl, fun W hW => ?_⟩) hH ?_
  · go_simp
  try simp only [Act.put, List.getElem_toArray, List.getElem_cons_succ, List.getElem_cons_zero, List.getElem?_toArray, List.getElem?_cons_succ, List.getElem?_cons_zero, List.setIfInBounds_toArray, List.set_cons_zero, List.set_cons_succ]
  refine wpAnyH_take (i := 3) (v := .pointer (some ⟨g, 177, none⟩)) rfl (by kernel_rfl) (by kernel_rfl) (by kernel_rfl) (fun _ _ _ h => HPN _ _ _ _ _ h) (Or.inl ⟨by kernel_rfl, fun W hW => ?_⟩) hH ?_
  · go_simp
  try simp only [Act.put, List.getElem_toArray, List.getElem_cons_succ, List.getElem_cons_zero, List.getElem?_toArray, List.getElem?_cons_succ, List.getElem?_cons_zero, List.setIfInBounds_toArray, List.set_cons_zero, List.set_cons_succ]
  refine wpAnyH_ready (rs := [4, 5]) (by kernel_rfl) (by simp) (AllReadyH.cons rfl (fun K' hK => ?_) (AllReadyH.cons rfl (fun K' hK => ?_) AllReadyH.nil))
  · go_simp
    refine hK.out _ _ trivial (fun hH => ?_)
    clear hK K'
    try simp only [Act.put, List.getElem_toArray, List.getElem_cons_succ, List.getElem_cons_zero, List.getElem?_toArray, List.getElem?_cons_succ, List.getElem?_cons_zero, List.setIfInBounds_toArray, List.set_cons_zero, List.set_cons_succ]
    refine wpAnyH_ready (rs := [5]) (by kernel_rfl) (by simp) (AllReadyH.cons rfl (fun K' hK => ?_) AllReadyH.nil)
    go_simp
    refine (rop_any 12 _).mono ?_
    rintro e w2 ⟨rfl, hb2⟩
    have HS2 : Hid (St B g S es ns rv lr ll vs w2) := HST.out.drew.below hb2
    have HB2 : Hid (Below W.heap.size W w2) := (Below.refl _ _).drew.trans hb2
    have hcl2 : w2.cell? ⟨g, 177, none⟩ = some vs := HS2.out.bn.l
    clear hb2
    go_wp2_with fail
    refine hK.out _ _ trivial (fun hH => ?_)
    clear hK K'
    try simp only [Act.put, List.getElem_toArray, List.getElem_cons_succ, List.getElem_cons_zero, List.getElem?_toArray, List.getElem?_cons_succ, List.getElem?_cons_zero, List.setIfInBounds_toArray, List.set_cons_zero, List.set_cons_succ]
    refine wpAnyH_ready (rs := [6]) (by kernel_rfl) (by simp) (AllReadyH.cons rfl (fun K' hK => ?_) AllReadyH.nil)
    go_simp
    obtain ⟨b, hb⟩ : ∃ b, w2.heap.size = b := ⟨_, rfl⟩
    have HS3 : Hid (St B g S es ns rv lr ll vs (w2.alloc (.cells #[.int .i64 3, .int .i64 12] 64))) := HS2.out.below ((Below.refl _ _).alloc (Nat.le_refl _) _)
    have HB3 : Hid (Below W.heap.size W (w2.alloc (.cells #[.int .i64 3, .int .i64 12] 64))) := HB2.out.alloc HB2.out.size _
    have hb0 : (w2.alloc (.cells #[.int .i64 3, .int .i64 12] 64)).cell? ⟨b, 0, none⟩ = some (.int .i64 3) := by rw [← hb, cell_of_row _ _ _ _ _ _ (heap_alloc_new w2 _)]; rfl
    have hb1 : (w2.alloc (.cells #[.int .i64 3, .int .i64 12] 64)).cell? ⟨b, 1, none⟩ = some (.int .i64 12) := by rw [← hb, cell_of_row _ _ _ _ _ _ (heap_alloc_new w2 _)]; rfl
    obtain ⟨w3, hw3⟩ : ∃ w3, w2.alloc (.cells #[.int .i64 3, .int .i64 12] 64) = w3 := ⟨_, rfl⟩
    rw [hw3] at HS3 HB3 hb0 hb1 ⊢
    simp only [hb]
    have hcl3 : w3.cell? ⟨g, 177, none⟩ = some vs := HS3.out.bn.l
    clear hw3 hb
    refine hK.out _ _ trivial (fun hH => ?_)
    clear hK K'
    try simp only [Act.put, List.getElem_toArray, List.getElem_cons_succ, List.getElem_cons_zero, List.getElem?_toArray, List.getElem?_cons_succ, List.getElem?_cons_zero, List.setIfInBounds_toArray, List.set_cons_zero, List.set_cons_succ]
    refine wpAnyH_ready (rs := [7]) (by kernel_rfl) (by simp) (AllReadyH.cons rfl (fun K' hK => ?_) AllReadyH.nil)
    refine if_pos_mpr (by kernel_rfl) (wp_app_ev (.tmp 153) (.tmp 155) rfl B vs ll (by kernel_rfl) HS3.out.own b 12 (by kernel_rfl) hb0 hb1 hl (by have := HS3.out.bn.lt; have := (HS3.out.hS g HS3.out.hg).1; omega) ?_)
    intro vs' w4 hown' hgrow hat
    obtain ⟨hc4, hf4, S', hS', hG', hk'⟩ := HS3.out.app hown' hgrow hat
    obtain ⟨q', cap', hvq⟩ : ∃ q cap, vs' = .slice (some ⟨q, 0, none⟩) (ll.length + 1) cap := by
      rcases hown'.2 with ⟨_, h0⟩ | ⟨q, cap, _, e, _⟩
      · simp at h0
      · exact ⟨q, cap, by rw [e]; simp⟩
    have HS4 : Hid (St B g S' es ns rv lr (ll ++ [(3, 12)]) vs' (w4.setCell ⟨g, 177, none⟩ vs')) := hS'
    have HG4 : Hid (Grow S w3 (w4.setCell ⟨g, 177, none⟩ vs')) := hG'
    have HK4 : Hid (∀ k, S' k → S k ∨ w3.heap.size ≤ k) := hk'
    clear hown' hgrow hat hS' hG' hk'
    refine hK.out _ _ trivial (fun hH => ?_)
    clear hK K'
    try simp only [Act.put, List.getElem_toArray, List.getElem_cons_succ, List.getElem_cons_zero, List.getElem?_toArray, List.getElem?_cons_succ, List.getElem?_cons_zero, List.setIfInBounds_toArray, List.set_cons_zero, List.set_cons_succ]
    subst hvq
    refine wpAnyH_take (i := 8) (v := .pointer (some ⟨g, 0, none⟩)) rfl (by kernel_rfl) (by kernel_rfl) (by kernel_rfl) (fun _ _ _ h => HPN _ _ _ _ _ h) (Or.inl ⟨by kernel_rfl, fun W hW => ?_⟩) hH ?_
    · go_simp
    try simp only [Act.put, List.getElem_toArray, List.getElem_cons_succ, List.getElem_cons_zero, List.getElem?_toArray, List.getElem?_cons_succ, List.getElem?_cons_zero, List.setIfInBounds_toArray, List.set_cons_zero, List.set_cons_succ]
    refine wpAnyH_take (i := 9) (v := .pointer (some ⟨g, 177, none⟩)) rfl (by kernel_rfl) (by kernel_rfl) (by kernel_rfl) (fun _ _ _ h => HPN _ _ _ _ _ h) (Or.inl ⟨by kernel_rfl, fun W hW => ?_⟩) hH ?_
    · go_simp
    try simp only [Act.put, List.getElem_toArray, List.getElem_cons_succ, List.getElem_cons_zero, List.getElem?_toArray, List.getElem?_cons_succ, List.getElem?_cons_zero, List.setIfInBounds_toArray, List.set_cons_zero, List.set_cons_succ]
    refine wpAnyH_ready (rs := [10]) (by kernel_rfl) (by simp) (AllReadyH.cons rfl (fun K' hK => ?_) AllReadyH.nil)
    go_simp
    refine hK.out _ _ trivial (fun hH => ?_)
    clear hK K'
    try simp only [Act.put, List.getElem_toArray, List.getElem_cons_succ, List.getElem_cons_zero, List.getElem?_toArray, List.getElem?_cons_succ, List.getElem?_cons_zero, List.setIfInBounds_toArray, List.set_cons_zero, List.set_cons_succ]
    refine wpAnyH_done (by kernel_rfl) ?_ _
    try simp only [Act.put, List.getElem_toArray, List.getElem_cons_succ, List.getElem_cons_zero, List.getElem?_toArray, List.getElem?_cons_succ, List.getElem?_cons_zero, List.setIfInBounds_toArray, List.set_cons_zero, List.set_cons_succ]
    exact HH.out b _ S' _ HS4.out ((Grow.of_below HB3.out).trans HG4.out) (fun k hk => by rcases HK4.out k hk with h | h; exact .inl h; exact .inr (Nat.le_trans HB3.out.size h))
  · go_simp
    refine (rop_any 12 _).mono ?_
    rintro e w2 ⟨rfl, hb2⟩
    have HS2 : Hid (St B g S es ns rv lr ll vs w2) := HST.out.drew.below hb2
    have HB2 : Hid (Below W.heap.size W w2) := (Below.refl _ _).drew.trans hb2
    have hcl2 : w2.cell? ⟨g, 177, none⟩ = some vs := HS2.out.bn.l
    clear hb2
    go_wp2_with fail
    refine hK.out _ _ trivial (fun hH => ?_)
    clear hK K'
    try simp only [Act.put, List.getElem_toArray, List.getElem_cons_succ, List.getElem_cons_zero, List.getElem?_toArray, List.getElem?_cons_succ, List.getElem?_cons_zero, List.setIfInBounds_toArray, List.set_cons_zero, List.set_cons_succ]
    refine wpAnyH_ready (rs := [4, 6]) (by kernel_rfl) (by simp) (AllReadyH.cons rfl (fun K' hK => ?_) (AllReadyH.cons rfl (fun K' hK => ?_) AllReadyH.nil))
    · go_simp
      refine hK.out _ _ trivial (fun hH => ?_)
      clear hK K'
      try simp only [Act.put, List.getElem_toArray, List.getElem_cons_succ, List.getElem_cons_zero, List.getElem?_toArray, List.getElem?_cons_succ, List.getElem?_cons_zero, List.setIfInBounds_toArray, List.set_cons_zero, List.set_cons_succ]
      refine wpAnyH_ready (rs := [6]) (by kernel_rfl) (by simp) (AllReadyH.cons rfl (fun K' hK => ?_) AllReadyH.nil)
      go_simp
      obtain ⟨b, hb⟩ : ∃ b, w2.heap.size = b := ⟨_, rfl⟩
      have HS3 : Hid (St B g S es ns rv lr ll vs (w2.alloc (.cells #[.int .i64 3, .int .i64 12] 64))) := HS2.out.below ((Below.refl _ _).alloc (Nat.le_refl _) _)
      have HB3 : Hid (Below W.heap.size W (w2.alloc (.cells #[.int .i64 3, .int .i64 12] 64))) := HB2.out.alloc HB2.out.size _
      have hb0 : (w2.alloc (.cells #[.int .i64 3, .int .i64 12] 64)).cell? ⟨b, 0, none⟩ = some (.int .i64 3) := by rw [← hb, cell_of_row _ _ _ _ _ _ (heap_alloc_new w2 _)]; rfl
      have hb1 : (w2.alloc (.cells #[.int .i64 3, .int .i64 12] 64)).cell? ⟨b, 1, none⟩ = some (.int .i64 12) := by rw [← hb, cell_of_row _ _ _ _ _ _ (heap_alloc_new w2 _)]; rfl
      obtain ⟨w3, hw3⟩ : ∃ w3, w2.alloc (.cells #[.int .i64 3, .int .i64 12] 64) = w3 := ⟨_, rfl⟩
      rw [hw3] at HS3 HB3 hb0 hb1 ⊢
      simp only [hb]
      have hcl3 : w3.cell? ⟨g, 177, none⟩ = some vs := HS3.out.bn.l
      clear hw3 hb
      refine hK.out _ _ trivial (fun hH => ?_)
      clear hK K'
      try simp only [Act.put, List.getElem_toArray, List.getElem_cons_succ, List.getElem_cons_zero, List.getElem?_toArray, List.getElem?_cons_succ, List.getElem?_cons_zero, List.setIfInBounds_toArray, List.set_cons_zero, List.set_cons_succ]
      refine wpAnyH_ready (rs := [7]) (by kernel_rfl) (by simp) (AllReadyH.cons rfl (fun K' hK => ?_) AllReadyH.nil)
      refine if_pos_mpr (by kernel_rfl) (wp_app_ev (.tmp 153) (.tmp 155) rfl B vs ll (by kernel_rfl) HS3.out.own b 12 (by kernel_rfl) hb0 hb1 hl (by have := HS3.out.bn.lt; have := (HS3.out.hS g HS3.out.hg).1; omega) ?_)
      intro vs' w4 hown' hgrow hat
      obtain ⟨hc4, hf4, S', hS', hG', hk'⟩ := HS3.out.app hown' hgrow hat
      obtain ⟨q', cap', hvq⟩ : ∃ q cap, vs' = .slice (some ⟨q, 0, none⟩) (ll.length + 1) cap := by
        rcases hown'.2 with ⟨_, h0⟩ | ⟨q, cap, _, e, _⟩
        · simp at h0
        · exact ⟨q, cap, by rw [e]; simp⟩
      have HS4 : Hid (St B g S' es ns rv lr (ll ++ [(3, 12)]) vs' (w4.setCell ⟨g, 177, none⟩ vs')) := hS'
      have HG4 : Hid (Grow S w3 (w4.setCell ⟨g, 177, none⟩ vs')) := hG'
      have HK4 : Hid (∀ k, S' k → S k ∨ w3.heap.size ≤ k) := hk'
      clear hown' hgrow hat hS' hG' hk'
      refine hK.out _ _ trivial (fun hH => ?_)
      clear hK K'
      try simp only [Act.put, List.getElem_toArray, List.getElem_cons_succ, List.getElem_cons_zero, List.getElem?_toArray, List.getElem?_cons_succ, List.getElem?_cons_zero, List.setIfInBounds_toArray, List.set_cons_zero, List.set_cons_succ]
      subst hvq
      refine wpAnyH_take (i := 8) (v := .pointer (some ⟨g, 0, none⟩)) rfl (by kernel_rfl) (by kernel_rfl) (by kernel_rfl) (fun _ _ _ h => HPN _ _ _ _ _ h) (Or.inl ⟨by kernel_rfl, fun W hW => ?_⟩) hH ?_
      · go_simp
      try simp only [Act.put, List.getElem_toArray, List.getElem_cons_succ, List.getElem_cons_zero, List.getElem?_toArray, List.getElem?_cons_succ, List.getElem?_cons_zero, List.setIfInBounds_toArray, List.set_cons_zero, List.set_cons_succ]
      refine wpAnyH_take (i := 9) (v := .pointer (some ⟨g, 177, none⟩)) rfl (by kernel_rfl) (by kernel_rfl) (by kernel_rfl) (fun _ _ _ h => HPN _ _ _ _ _ h) (Or.inl ⟨by kernel_rfl, fun W hW => ?_⟩) hH ?_
      · go_simp
      try simp only [Act.put, List.getElem_toArray, List.getElem_cons_succ, List.getElem_cons_zero, List.getElem?_toArray, List.getElem?_cons_succ, List.getElem?_cons_zero, List.setIfInBounds_toArray, List.set_cons_zero, List.set_cons_succ]
      refine wpAnyH_ready (rs := [10]) (by kernel_rfl) (by simp) (AllReadyH.cons rfl (fun K' hK => ?_) AllReadyH.nil)
      go_simp
      refine hK.out _ _ trivial (fun hH => ?_)
      clear hK K'
      try simp only [Act.put, List.getElem_toArray, List.getElem_cons_succ, List.getElem_cons_zero, List.getElem?_toArray, List.getElem?_cons_succ, List.getElem?_cons_zero, List.setIfInBounds_toArray, List.set_cons_zero, List.set_cons_succ]
      refine wpAnyH_done (by kernel_rfl) ?_ _
      try simp only [Act.put, List.getElem_toArray, List.getElem_cons_succ, List.getElem_cons_zero, List.getElem?_toArray, List.getElem?_cons_succ, List.getElem?_cons_zero, List.setIfInBounds_toArray, List.set_cons_zero, List.set_cons_succ]
      exact HH.out b _ S' _ HS4.out ((Grow.of_below HB3.out).trans HG4.out) (fun k hk => by rcases HK4.out k hk with h | h; exact .inl h; exact .inr (Nat.le_trans HB3.out.size h))
    · go_simp
      obtain ⟨b, hb⟩ : ∃ b, w2.heap.size = b := ⟨_, rfl⟩
      have HS3 : Hid (St B g S es ns rv lr ll vs (w2.alloc (.cells #[.int .i64 3, .int .i64 12] 64))) := HS2.out.below ((Below.refl _ _).alloc (Nat.le_refl _) _)
      have HB3 : Hid (Below W.heap.size W (w2.alloc (.cells #[.int .i64 3, .int .i64 12] 64))) := HB2.out.alloc HB2.out.size _
      have hb0 : (w2.alloc (.cells #[.int .i64 3, .int .i64 12] 64)).cell? ⟨b, 0, none⟩ = some (.int .i64 3) := by rw [← hb, cell_of_row _ _ _ _ _ _ (heap_alloc_new w2 _)]; rfl
      have hb1 : (w2.alloc (.cells #[.int .i64 3, .int .i64 12] 64)).cell? ⟨b, 1, none⟩ = some (.int .i64 12) := by rw [← hb, cell_of_row _ _ _ _ _ _ (heap_alloc_new w2 _)]; rfl
      obtain ⟨w3, hw3⟩ : ∃ w3, w2.alloc (.cells #[.int .i64 3, .int .i64 12] 64) = w3 := ⟨_, rfl⟩
      rw [hw3] at HS3 HB3 hb0 hb1 ⊢
      simp only [hb]
      have hcl3 : w3.cell? ⟨g, 177, none⟩ = some vs := HS3.out.bn.l
      clear hw3 hb
      refine hK.out _ _ trivial (fun hH => ?_)
      clear hK K'
      try simp only [Act.put, List.getElem_toArray, List.getElem_cons_succ, List.getElem_cons_zero, List.getElem?_toArray, List.getElem?_cons_succ, List.getElem?_cons_zero, List.setIfInBounds_toArray, List.set_cons_zero, List.set_cons_succ]
      refine wpAnyH_ready (rs := [4]) (by kernel_rfl) (by simp) (AllReadyH.cons rfl (fun K' hK => ?_) AllReadyH.nil)
      go_simp
      refine hK.out _ _ trivial (fun hH => ?_)
      clear hK K'
      try simp only [Act.put, List.getElem_toArray, List.getElem_cons_succ, List.getElem_cons_zero, List.getElem?_toArray, List.getElem?_cons_succ, List.getElem?_cons_zero, List.setIfInBounds_toArray, List.set_cons_zero, List.set_cons_succ]
      refine wpAnyH_ready (rs := [7]) (by kernel_rfl) (by simp) (AllReadyH.cons rfl (fun K' hK => ?_) AllReadyH.nil)
      refine if_pos_mpr (by kernel_rfl) (wp_app_ev (.tmp 153) (.tmp 155) rfl B vs ll (by kernel_rfl) HS3.out.own b 12 (by kernel_rfl) hb0 hb1 hl (by have := HS3.out.bn.lt; have := (HS3.out.hS g HS3.out.hg).1; omega) ?_)
      intro vs' w4 hown' hgrow hat
      obtain ⟨hc4, hf4, S', hS', hG', hk'⟩ := HS3.out.app hown' hgrow hat
      obtain ⟨q', cap', hvq⟩ : ∃ q cap, vs' = .slice (some ⟨q, 0, none⟩) (ll.length + 1) cap := by
        rcases hown'.2 with ⟨_, h0⟩ | ⟨q, cap, _, e, _⟩
        · simp at h0
        · exact ⟨q, cap, by rw [e]; simp⟩
      have HS4 : Hid (St B g S' es ns rv lr (ll ++ [(3, 12)]) vs' (w4.setCell ⟨g, 177, none⟩ vs')) := hS'
      have HG4 : Hid (Grow S w3 (w4.setCell ⟨g, 177, none⟩ vs')) := hG'
      have HK4 : Hid (∀ k, S' k → S k ∨ w3.heap.size ≤ k) := hk'
      clear hown' hgrow hat hS' hG' hk'
      refine hK.out _ _ trivial (fun hH => ?_)
      clear hK K'
      try simp only [Act.put, List.getElem_toArray, List.getElem_cons_succ, List.getElem_cons_zero, List.getElem?_toArray, List.getElem?_cons_succ, List.getElem?_cons_zero, List.setIfInBounds_toArray, List.set_cons_zero, List.set_cons_succ]
      subst hvq
      refine wpAnyH_take (i := 8) (v := .pointer (some ⟨g, 0, none⟩)) rfl (by kernel_rfl) (by kernel_rfl) (by kernel_rfl) (fun _ _ _ h => HPN _ _ _ _ _ h) (Or.inl ⟨by kernel_rfl, fun W hW => ?_⟩) hH ?_
      · go_simp
      try simp only [Act.put, List.getElem_toArray, List.getElem_cons_succ, List.getElem_cons_zero, List.getElem?_toArray, List.getElem?_cons_succ, List.getElem?_cons_zero, List.setIfInBounds_toArray, List.set_cons_zero, List.set_cons_succ]
      refine wpAnyH_take (i := 9) (v := .pointer (some ⟨g, 177, none⟩)) rfl (by kernel_rfl) (by kernel_rfl) (by kernel_rfl) (fun _ _ _ h => HPN _ _ _ _ _ h) (Or.inl ⟨by kernel_rfl, fun W hW => ?_⟩) hH ?_
      · go_simp
      try simp only [Act.put, List.getElem_toArray, List.getElem_cons_succ, List.getElem_cons_zero, List.getElem?_toArray, List.getElem?_cons_succ, List.getElem?_cons_zero, List.setIfInBounds_toArray, List.set_cons_zero, List.set_cons_succ]
      refine wpAnyH_ready (rs := [10]) (by kernel_rfl) (by simp) (AllReadyH.cons rfl (fun K' hK => ?_) AllReadyH.nil)
      go_simp
      refine hK.out _ _ trivial (fun hH => ?_)
      clear hK K'
      try simp only [Act.put, List.getElem_toArray, List.getElem_cons_succ, List.getElem_cons_zero, List.getElem?_toArray, List.getElem?_cons_succ, List.getElem?_cons_zero, List.setIfInBounds_toArray, List.set_cons_zero, List.set_cons_succ]
      refine wpAnyH_done (by kernel_rfl) ?_ _
      try simp only [Act.put, List.getElem_toArray, List.getElem_cons_succ, List.getElem_cons_zero, List.getElem?_toArray, List.getElem?_cons_succ, List.getElem?_cons_zero, List.setIfInBounds_toArray, List.set_cons_zero, List.set_cons_succ]
      exact HH.out b _ S' _ HS4.out ((Grow.of_below HB3.out).trans HG4.out) (fun k hk => by rcases HK4.out k hk with h | h; exact .inl h; exact .inr (Nat.le_trans HB3.out.size h))
end Go.Proofs.Ytfeoamkngnpcmaa
