import Derived.Test.YtfeoamkngnpcmaaPrmBe
namespace Go.Proofs.Ytfeoamkngnpcmaa
set_option linter.unusedSimpArgs false
set_option linter.unusedVariables false
open Go.ChangeShapes Go.WideShapes Go.ChangeAt Go.RowKit Go.Pin Go.Prm
noncomputable def rgB4 : Code := ((Try.f7.body.bind (findReg 4)).getD .skip)
noncomputable def rgB5 : Code := ((Try.f7.body.bind (findReg 5)).getD .skip)
set_option maxRecDepth 100000 in
set_option maxHeartbeats 8000000 in
theorem byts_r4 {Q : Exit → Act → World → Prop} {w W : World}  {ka x : List Int} {g5 g3 g4 w_heap_size : Nat} {e12x0 e12x1 e12x2 e12x3 e12x4 e8x0 e8x1 e8x2 e8x3 e8x4 e15x0 e15x1 e15x2 e15x3 e15x4 e16x0 e16x1 e16x2 e16x3 e16x4 : Int} {c0 c1 c2 c4 c5 c6 c7 c8 c9 c10 c11 c12 c13 c14 c15 c16 c17 c18 c19 c20 c21 c22 c23 c24 c25 c26 c27 c28 c29 c30 c31 c32 c33 c34 c35 c36 c37 c38 c39 c40 c41 c42 : Value}
    (HX : Hid (Key17 x))
    (Kka : Hid (Key17 ka))
    (C14 : Hid (∀ w, Calls Try.prog 17 #[.int .u8 251, .int .u8 255, .int .u8 3] w fun e w' => e = .returned (.agg (VI .u8 (rw17 251 255 3))) ∧ Below w.heap.size w w'))
    (C15 : Hid (∀ w, Calls Try.prog 14 #[.agg (VI .u8 (rw17 251 255 3))] w fun e w' => e = .returned (.agg #[.int .u64 e15x0, .int .u64 e15x1, .int .u64 e15x2, .int .u64 e15x3, .int .u64 e15x4]) ∧ Below w.heap.size w w'))
    (C16 : Hid (∀ w, Calls Try.prog 15 #[.pointer none, .agg #[.int .u64 e8x0, .int .u64 e8x1, .int .u64 e8x2, .int .u64 e8x3, .int .u64 e8x4], .agg #[.int .u64 e15x0, .int .u64 e15x1, .int .u64 e15x2, .int .u64 e15x3, .int .u64 e15x4]] w fun e w' => e = .returned (.agg #[.int .u64 e16x0, .int .u64 e16x1, .int .u64 e16x2, .int .u64 e16x3, .int .u64 e16x4]) ∧ Below w.heap.size w w'))
    (XX : Bs w [(g4, ka), (w_heap_size, x)] [(g5, [e12x0, e12x1, e12x2, e12x3, e12x4]), (g3, [e8x0, e8x1, e8x2, e8x3, e8x4])] W)
    (HPN : ∀ c (a : Act) d v w, Q (.panic c) (a.put d v) w → Q (.panic c) a w)
    (H : ∀ g W', Bs w [(g4, ka), (w_heap_size, x)] ((g, [e16x0, e16x1, e16x2, e16x3, e16x4]) :: [(g5, [e12x0, e12x1, e12x2, e12x3, e12x4]), (g3, [e8x0, e8x1, e8x2, e8x3, e8x4])]) W' → Q .normal ⟨#[c0, c1, c2, .pointer (some ⟨g3, 0, none⟩), c4, c5, .pointer (some ⟨g, 0, none⟩), c7, c8, c9, c10, c11, c12, .agg #[.int .u64 e8x0, .int .u64 e8x1, .int .u64 e8x2, .int .u64 e8x3, .int .u64 e8x4], .agg (VI .u8 (rw17 251 255 3)), .agg #[.int .u64 e15x0, .int .u64 e15x1, .int .u64 e15x2, .int .u64 e15x3, .int .u64 e15x4], .agg #[.int .u64 e16x0, .int .u64 e16x1, .int .u64 e16x2, .int .u64 e16x3, .int .u64 e16x4], c17, c18, c19, c20, c21, c22, c23, c24, c25, c26, c27, c28, c29, c30, c31, c32, c33, c34, c35, c36, c37, c38, c39, c40, c41, c42], []⟩ W') :
    Code.wp Try.prog rgB4 Q ⟨#[c0, c1, c2, .pointer (some ⟨g3, 0, none⟩), c4, c5, c6, c7, c8, c9, c10, c11, c12, c13, c14, c15, c16, c17, c18, c19, c20, c21, c22, c23, c24, c25, c26, c27, c28, c29, c30, c31, c32, c33, c34, c35, c36, c37, c38, c39, c40, c41, c42], []⟩ W := by
  have HH : Hid (∀ g W', Bs w [(g4, ka), (w_heap_size, x)] ((g, [e16x0, e16x1, e16x2, e16x3, e16x4]) :: [(g5, [e12x0, e12x1, e12x2, e12x3, e12x4]), (g3, [e8x0, e8x1, e8x2, e8x3, e8x4])]) W' → Q .normal ⟨#[c0, c1, c2, .pointer (some ⟨g3, 0, none⟩), c4, c5, .pointer (some ⟨g, 0, none⟩), c7, c8, c9, c10, c11, c12, .agg #[.int .u64 e8x0, .int .u64 e8x1, .int .u64 e8x2, .int .u64 e8x3, .int .u64 e8x4], .agg (VI .u8 (rw17 251 255 3)), .agg #[.int .u64 e15x0, .int .u64 e15x1, .int .u64 e15x2, .int .u64 e15x3, .int .u64 e15x4], .agg #[.int .u64 e16x0, .int .u64 e16x1, .int .u64 e16x2, .int .u64 e16x3, .int .u64 e16x4], c17, c18, c19, c20, c21, c22, c23, c24, c25, c26, c27, c28, c29, c30, c31, c32, c33, c34, c35, c36, c37, c38, c39, c40, c41, c42], []⟩ W') := H
  clear H
  conv => arg 2; whnf
  refine wp_region_held_drew (S := fun Y => Bs w [(g4, ka), (w_heap_size, x)] [(g5, [e12x0, e12x1, e12x2, e12x3, e12x4]), (g3, [e8x0, e8x1, e8x2, e8x3, e8x4])] Y) (by kernel_rfl) (XX.drew) (fun hH => ?_)
  clear XX
  obtain ⟨V0, hV0⟩ : ∃ V, W.drew = V := ⟨_, rfl⟩
  rw [hV0] at hH ⊢
  clear hV0
  refine wpAnyH_take (i := 0) (v := .agg #[.int .u64 e8x0, .int .u64 e8x1, .int .u64 e8x2, .int .u64 e8x3, .int .u64 e8x4]) rfl (by kernel_rfl) (by kernel_rfl) (by kernel_rfl) (fun _ _ _ h => HPN _ _ _ _ _ h) (Or.inl ⟨by kernel_rfl, fun W hW => ?_⟩) hH ?_
  · obtain ⟨d0, d1, d2, d3, d4⟩ := cells5 (hW.row (g := g3) (x := [e8x0, e8x1, e8x2, e8x3, e8x4]) (by simp)); go_simp
  try simp only [Act.put, List.setIfInBounds_toArray, List.set_cons_zero, List.set_cons_succ]
  refine wpAnyH_ready (rs := [1, 4]) (by kernel_rfl) (by simp) (AllReadyH.cons rfl (fun K' hK => ?_) (AllReadyH.cons rfl (fun K' hK => ?_) AllReadyH.nil))
  · go_simp
    refine (C14.out _).mono ?_
    rintro e w1 ⟨rfl, hb⟩
    go_wp2_with fail
    refine hK.out _ _ (hH.below hb) (fun hH => ?_)
    clear hK K'
    clear hb
    try simp only [Act.put, List.setIfInBounds_toArray, List.set_cons_zero, List.set_cons_succ]
    refine wpAnyH_ready (rs := [2, 4]) (by kernel_rfl) (by simp) (AllReadyH.cons rfl (fun K' hK => ?_) (AllReadyH.cons rfl (fun K' hK => ?_) AllReadyH.nil))
    · go_simp
      refine (C15.out _).mono ?_
      rintro e w2 ⟨rfl, hb⟩
      go_wp2_with fail
      refine hK.out _ _ (hH.below hb) (fun hH => ?_)
      clear hK K'
      clear hb
      try simp only [Act.put, List.setIfInBounds_toArray, List.set_cons_zero, List.set_cons_succ]
      refine wpAnyH_ready (rs := [3, 4]) (by kernel_rfl) (by simp) (AllReadyH.cons rfl (fun K' hK => ?_) (AllReadyH.cons rfl (fun K' hK => ?_) AllReadyH.nil))
      · go_simp
        refine (C16.out _).mono ?_
        rintro e w3 ⟨rfl, hb⟩
        go_wp2_with fail
        refine hK.out _ _ (hH.below hb) (fun hH => ?_)
        clear hK K'
        clear hb
        try simp only [Act.put, List.setIfInBounds_toArray, List.set_cons_zero, List.set_cons_succ]
        refine wpAnyH_ready (rs := [4]) (by kernel_rfl) (by simp) (AllReadyH.cons rfl (fun K' hK => ?_) AllReadyH.nil)
        go_simp
        have hZ := hH.new [0, 0, 0, 0, 0]
        obtain ⟨g, hg⟩ : ∃ g, w3.heap.size = g := ⟨_, rfl⟩
        obtain ⟨f1, f2, f3⟩ := hH.fresh hg
        rw [hg] at hZ
        try simp only [hg]
        obtain ⟨Z0, hZ0⟩ : ∃ Z, w3.alloc (.cells #[.int .u64 0, .int .u64 0, .int .u64 0, .int .u64 0, .int .u64 0] 29) = Z := ⟨_, rfl⟩
        rw [show w3.alloc (.cells (VI .u64 [0, 0, 0, 0, 0]) 29) = Z0 from hZ0] at hZ
        rw [hZ0]
        clear hZ0 hg
        refine hK.out _ _ (hZ.sub (fun p hp => List.mem_cons_of_mem _ hp)) (fun hH => ?_)
        clear hK K'
        try simp only [Act.put, List.setIfInBounds_toArray, List.set_cons_zero, List.set_cons_succ]
        refine wpAnyH_ready (rs := [5]) (by kernel_rfl) (by simp) (AllReadyH.cons rfl (fun K' hK => ?_) AllReadyH.nil)
        obtain ⟨_, _, _, _, _, _, hy0, hy1, hy2, hy3, hy4, hz0, hz1, hz2, hz3, hz4⟩ := row5 (hZ.row (g := g) (x := [0, 0, 0, 0, 0]) (by simp)) rfl
        go_simp
        have hE := hZ.store5 f1 f2 f3 rfl e16x0 e16x1 e16x2 e16x3 e16x4
        refine hK.out _ _ (hE.sub (fun p hp => List.mem_cons_of_mem _ hp)) (fun hH => ?_)
        clear hK K'
        try simp only [Act.put, List.setIfInBounds_toArray, List.set_cons_zero, List.set_cons_succ]
        refine wpAnyH_done (by kernel_rfl) ?_ _
        try simp only [Act.put, List.getElem_toArray, List.getElem_cons_succ, List.getElem_cons_zero, List.getElem?_toArray, List.getElem?_cons_succ, List.getElem?_cons_zero, List.setIfInBounds_toArray, List.set_cons_zero, List.set_cons_succ]
        exact HH.out g _ hE
      · go_simp
        have hZ := hH.new [0, 0, 0, 0, 0]
        obtain ⟨g, hg⟩ : ∃ g, w2.heap.size = g := ⟨_, rfl⟩
        obtain ⟨f1, f2, f3⟩ := hH.fresh hg
        rw [hg] at hZ
        try simp only [hg]
        obtain ⟨Z0, hZ0⟩ : ∃ Z, w2.alloc (.cells #[.int .u64 0, .int .u64 0, .int .u64 0, .int .u64 0, .int .u64 0] 29) = Z := ⟨_, rfl⟩
        rw [show w2.alloc (.cells (VI .u64 [0, 0, 0, 0, 0]) 29) = Z0 from hZ0] at hZ
        rw [hZ0]
        clear hZ0 hg
        refine hK.out _ _ (hZ.sub (fun p hp => List.mem_cons_of_mem _ hp)) (fun hH => ?_)
        clear hK K'
        try simp only [Act.put, List.setIfInBounds_toArray, List.set_cons_zero, List.set_cons_succ]
        refine wpAnyH_ready (rs := [3]) (by kernel_rfl) (by simp) (AllReadyH.cons rfl (fun K' hK => ?_) AllReadyH.nil)
        go_simp
        refine (C16.out _).mono ?_
        rintro e w3 ⟨rfl, hb⟩
        go_wp2_with fail
        refine hK.out _ _ (hH.below hb) (fun hH => ?_)
        clear hK K'
        have hZ := hZ.below hb
        clear hb
        try simp only [Act.put, List.setIfInBounds_toArray, List.set_cons_zero, List.set_cons_succ]
        refine wpAnyH_ready (rs := [5]) (by kernel_rfl) (by simp) (AllReadyH.cons rfl (fun K' hK => ?_) AllReadyH.nil)
        obtain ⟨_, _, _, _, _, _, hy0, hy1, hy2, hy3, hy4, hz0, hz1, hz2, hz3, hz4⟩ := row5 (hZ.row (g := g) (x := [0, 0, 0, 0, 0]) (by simp)) rfl
        go_simp
        have hE := hZ.store5 f1 f2 f3 rfl e16x0 e16x1 e16x2 e16x3 e16x4
        refine hK.out _ _ (hE.sub (fun p hp => List.mem_cons_of_mem _ hp)) (fun hH => ?_)
        clear hK K'
        try simp only [Act.put, List.setIfInBounds_toArray, List.set_cons_zero, List.set_cons_succ]
        refine wpAnyH_done (by kernel_rfl) ?_ _
        try simp only [Act.put, List.getElem_toArray, List.getElem_cons_succ, List.getElem_cons_zero, List.getElem?_toArray, List.getElem?_cons_succ, List.getElem?_cons_zero, List.setIfInBounds_toArray, List.set_cons_zero, List.set_cons_succ]
        exact HH.out g _ hE
    · go_simp
      have hZ := hH.new [0, 0, 0, 0, 0]
      obtain ⟨g, hg⟩ : ∃ g, w1.heap.size = g := ⟨_, rfl⟩
      obtain ⟨f1, f2, f3⟩ := hH.fresh hg
      rw [hg] at hZ
      try simp only [hg]
      obtain ⟨Z0, hZ0⟩ : ∃ Z, w1.alloc (.cells #[.int .u64 0, .int .u64 0, .int .u64 0, .int .u64 0, .int .u64 0] 29) = Z := ⟨_, rfl⟩
      rw [show w1.alloc (.cells (VI .u64 [0, 0, 0, 0, 0]) 29) = Z0 from hZ0] at hZ
      rw [hZ0]
      clear hZ0 hg
      refine hK.out _ _ (hZ.sub (fun p hp => List.mem_cons_of_mem _ hp)) (fun hH => ?_)
      clear hK K'
      try simp only [Act.put, List.setIfInBounds_toArray, List.set_cons_zero, List.set_cons_succ]
      refine wpAnyH_ready (rs := [2]) (by kernel_rfl) (by simp) (AllReadyH.cons rfl (fun K' hK => ?_) AllReadyH.nil)
      go_simp
      refine (C15.out _).mono ?_
      rintro e w2 ⟨rfl, hb⟩
      go_wp2_with fail
      refine hK.out _ _ (hH.below hb) (fun hH => ?_)
      clear hK K'
      have hZ := hZ.below hb
      clear hb
      try simp only [Act.put, List.setIfInBounds_toArray, List.set_cons_zero, List.set_cons_succ]
      refine wpAnyH_ready (rs := [3]) (by kernel_rfl) (by simp) (AllReadyH.cons rfl (fun K' hK => ?_) AllReadyH.nil)
      go_simp
      refine (C16.out _).mono ?_
      rintro e w3 ⟨rfl, hb⟩
      go_wp2_with fail
      refine hK.out _ _ (hH.below hb) (fun hH => ?_)
      clear hK K'
      have hZ := hZ.below hb
      clear hb
      try simp only [Act.put, List.setIfInBounds_toArray, List.set_cons_zero, List.set_cons_succ]
      refine wpAnyH_ready (rs := [5]) (by kernel_rfl) (by simp) (AllReadyH.cons rfl (fun K' hK => ?_) AllReadyH.nil)
      obtain ⟨_, _, _, _, _, _, hy0, hy1, hy2, hy3, hy4, hz0, hz1, hz2, hz3, hz4⟩ := row5 (hZ.row (g := g) (x := [0, 0, 0, 0, 0]) (by simp)) rfl
      go_simp
      have hE := hZ.store5 f1 f2 f3 rfl e16x0 e16x1 e16x2 e16x3 e16x4
      refine hK.out _ _ (hE.sub (fun p hp => List.mem_cons_of_mem _ hp)) (fun hH => ?_)
      clear hK K'
      try simp only [Act.put, List.setIfInBounds_toArray, List.set_cons_zero, List.set_cons_succ]
      refine wpAnyH_done (by kernel_rfl) ?_ _
      try simp only [Act.put, List.getElem_toArray, List.getElem_cons_succ, List.getElem_cons_zero, List.getElem?_toArray, List.getElem?_cons_succ, List.getElem?_cons_zero, List.setIfInBounds_toArray, List.set_cons_zero, List.set_cons_succ]
      exact HH.out g _ hE
  · go_simp
    have hZ := hH.new [0, 0, 0, 0, 0]
    obtain ⟨g, hg⟩ : ∃ g, V0.heap.size = g := ⟨_, rfl⟩
    obtain ⟨f1, f2, f3⟩ := hH.fresh hg
    rw [hg] at hZ
    try simp only [hg]
    obtain ⟨Z0, hZ0⟩ : ∃ Z, V0.alloc (.cells #[.int .u64 0, .int .u64 0, .int .u64 0, .int .u64 0, .int .u64 0] 29) = Z := ⟨_, rfl⟩
    rw [show V0.alloc (.cells (VI .u64 [0, 0, 0, 0, 0]) 29) = Z0 from hZ0] at hZ
    rw [hZ0]
    clear hZ0 hg
    refine hK.out _ _ (hZ.sub (fun p hp => List.mem_cons_of_mem _ hp)) (fun hH => ?_)
    clear hK K'
    try simp only [Act.put, List.setIfInBounds_toArray, List.set_cons_zero, List.set_cons_succ]
    refine wpAnyH_ready (rs := [1]) (by kernel_rfl) (by simp) (AllReadyH.cons rfl (fun K' hK => ?_) AllReadyH.nil)
    go_simp
    refine (C14.out _).mono ?_
    rintro e w1 ⟨rfl, hb⟩
    go_wp2_with fail
    refine hK.out _ _ (hH.below hb) (fun hH => ?_)
    clear hK K'
    have hZ := hZ.below hb
    clear hb
    try simp only [Act.put, List.setIfInBounds_toArray, List.set_cons_zero, List.set_cons_succ]
    refine wpAnyH_ready (rs := [2]) (by kernel_rfl) (by simp) (AllReadyH.cons rfl (fun K' hK => ?_) AllReadyH.nil)
    go_simp
    refine (C15.out _).mono ?_
    rintro e w2 ⟨rfl, hb⟩
    go_wp2_with fail
    refine hK.out _ _ (hH.below hb) (fun hH => ?_)
    clear hK K'
    have hZ := hZ.below hb
    clear hb
    try simp only [Act.put, List.setIfInBounds_toArray, List.set_cons_zero, List.set_cons_succ]
    refine wpAnyH_ready (rs := [3]) (by kernel_rfl) (by simp) (AllReadyH.cons rfl (fun K' hK => ?_) AllReadyH.nil)
    go_simp
    refine (C16.out _).mono ?_
    rintro e w3 ⟨rfl, hb⟩
    go_wp2_with fail
    refine hK.out _ _ (hH.below hb) (fun hH => ?_)
    clear hK K'
    have hZ := hZ.below hb
    clear hb
    try simp only [Act.put, List.setIfInBounds_toArray, List.set_cons_zero, List.set_cons_succ]
    refine wpAnyH_ready (rs := [5]) (by kernel_rfl) (by simp) (AllReadyH.cons rfl (fun K' hK => ?_) AllReadyH.nil)
    obtain ⟨_, _, _, _, _, _, hy0, hy1, hy2, hy3, hy4, hz0, hz1, hz2, hz3, hz4⟩ := row5 (hZ.row (g := g) (x := [0, 0, 0, 0, 0]) (by simp)) rfl
    go_simp
    have hE := hZ.store5 f1 f2 f3 rfl e16x0 e16x1 e16x2 e16x3 e16x4
    refine hK.out _ _ (hE.sub (fun p hp => List.mem_cons_of_mem _ hp)) (fun hH => ?_)
    clear hK K'
    try simp only [Act.put, List.setIfInBounds_toArray, List.set_cons_zero, List.set_cons_succ]
    refine wpAnyH_done (by kernel_rfl) ?_ _
    try simp only [Act.put, List.getElem_toArray, List.getElem_cons_succ, List.getElem_cons_zero, List.getElem?_toArray, List.getElem?_cons_succ, List.getElem?_cons_zero, List.setIfInBounds_toArray, List.set_cons_zero, List.set_cons_succ]
    exact HH.out g _ hE
end Go.Proofs.Ytfeoamkngnpcmaa
