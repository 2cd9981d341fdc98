import Derived.Test.YtfeoamkngnpcmaaPrmBe
namespace Go.Proofs.Ytfeoamkngnpcmaa
set_option linter.unusedSimpArgs false
set_option linter.unusedVariables false
open Go.ChangeShapes Go.WideShapes Go.ChangeAt Go.RowKit Go.Pin Go.Prm
noncomputable def rgF6 : Code := ((Try.f8.body.bind (findReg 6)).getD .skip)
noncomputable def rgF8 : Code := ((Try.f8.body.bind (findReg 8)).getD .skip)
set_option maxRecDepth 100000 in
set_option maxHeartbeats 8000000 in
theorem folds_r6 {Q : Exit → Act → World → Prop} {w W : World}  {x lo hi fv : List Int} {g5 g4 g3 w_heap_size : Nat} {e19x0 e19x1 e19x2 e19x3 e19x4 e21x0 e21x1 e21x2 e21x3 e21x4 e23x0 e23x1 e23x2 e23x3 e23x4 e24x0 e24x1 e24x2 e24x3 e24x4 e25x0 e25x1 e25x2 e25x3 e25x4 : Int} {c0 c1 c2 c6 c7 c8 c9 c10 c11 c12 c13 c14 c15 c16 c17 c18 c19 c20 c21 c22 c23 c24 c25 c26 c27 c28 c29 c30 c31 c32 c33 c34 c35 : Value}
    (HFV : Hid (Key17 fv))
    (HHI : Hid (Key17 hi))
    (HLO : Hid (Key17 lo))
    (HX : Hid (Key17 x))
    (C19 : Hid (∀ w, Calls Try.prog 14 #[.agg (VI .u8 lo)] w fun e w' => e = .returned (.agg #[.int .u64 e19x0, .int .u64 e19x1, .int .u64 e19x2, .int .u64 e19x3, .int .u64 e19x4]) ∧ Below w.heap.size w w'))
    (C21 : Hid (∀ w, Calls Try.prog 14 #[.agg (VI .u8 hi)] w fun e w' => e = .returned (.agg #[.int .u64 e21x0, .int .u64 e21x1, .int .u64 e21x2, .int .u64 e21x3, .int .u64 e21x4]) ∧ Below w.heap.size w w'))
    (C23 : Hid (∀ w, Calls Try.prog 14 #[.agg (VI .u8 fv)] w fun e w' => e = .returned (.agg #[.int .u64 e23x0, .int .u64 e23x1, .int .u64 e23x2, .int .u64 e23x3, .int .u64 e23x4]) ∧ Below w.heap.size w w'))
    (C24 : Hid (∀ w, Calls Try.prog 16 #[.pointer none, .agg #[.int .u64 e21x0, .int .u64 e21x1, .int .u64 e21x2, .int .u64 e21x3, .int .u64 e21x4], .agg #[.int .u64 e23x0, .int .u64 e23x1, .int .u64 e23x2, .int .u64 e23x3, .int .u64 e23x4]] w fun e w' => e = .returned (.agg #[.int .u64 e24x0, .int .u64 e24x1, .int .u64 e24x2, .int .u64 e24x3, .int .u64 e24x4]) ∧ Below w.heap.size w w'))
    (C25 : Hid (∀ w, Calls Try.prog 15 #[.pointer none, .agg #[.int .u64 e19x0, .int .u64 e19x1, .int .u64 e19x2, .int .u64 e19x3, .int .u64 e19x4], .agg #[.int .u64 e24x0, .int .u64 e24x1, .int .u64 e24x2, .int .u64 e24x3, .int .u64 e24x4]] w fun e w' => e = .returned (.agg #[.int .u64 e25x0, .int .u64 e25x1, .int .u64 e25x2, .int .u64 e25x3, .int .u64 e25x4]) ∧ Below w.heap.size w w'))
    (XX : Bs w [(g5, fv), (g4, hi), (g3, lo), (w_heap_size, x)] [] W)
    (HPN : ∀ c (a : Act) d v w, Q (.panic c) (a.put d v) w → Q (.panic c) a w)
    (H : ∀ g W', Bs w [(g5, fv), (g4, hi), (g3, lo), (w_heap_size, x)] ((g, [e25x0, e25x1, e25x2, e25x3, e25x4]) :: []) W' → Q .normal ⟨#[c0, c1, c2, .pointer (some ⟨g3, 0, none⟩), .pointer (some ⟨g4, 0, none⟩), .pointer (some ⟨g5, 0, none⟩), .pointer (some ⟨g, 0, none⟩), c7, c8, c9, c10, c11, c12, c13, c14, c15, c16, c17, .agg (VI .u8 lo), .agg #[.int .u64 e19x0, .int .u64 e19x1, .int .u64 e19x2, .int .u64 e19x3, .int .u64 e19x4], .agg (VI .u8 hi), .agg #[.int .u64 e21x0, .int .u64 e21x1, .int .u64 e21x2, .int .u64 e21x3, .int .u64 e21x4], .agg (VI .u8 fv), .agg #[.int .u64 e23x0, .int .u64 e23x1, .int .u64 e23x2, .int .u64 e23x3, .int .u64 e23x4], .agg #[.int .u64 e24x0, .int .u64 e24x1, .int .u64 e24x2, .int .u64 e24x3, .int .u64 e24x4], .agg #[.int .u64 e25x0, .int .u64 e25x1, .int .u64 e25x2, .int .u64 e25x3, .int .u64 e25x4], c26, c27, c28, c29, c30, c31, c32, c33, c34, c35], []⟩ W') :
    Code.wp Try.prog rgF6 Q ⟨#[c0, c1, c2, .pointer (some ⟨g3, 0, none⟩), .pointer (some ⟨g4, 0, none⟩), .pointer (some ⟨g5, 0, none⟩), c6, c7, c8, c9, c10, c11, c12, c13, c14, c15, c16, c17, c18, c19, c20, c21, c22, c23, c24, c25, c26, c27, c28, c29, c30, c31, c32, c33, c34, c35], []⟩ W := by
  have HH : Hid (∀ g W', Bs w [(g5, fv), (g4, hi), (g3, lo), (w_heap_size, x)] ((g, [e25x0, e25x1, e25x2, e25x3, e25x4]) :: []) W' → Q .normal ⟨#[c0, c1, c2, .pointer (some ⟨g3, 0, none⟩), .pointer (some ⟨g4, 0, none⟩), .pointer (some ⟨g5, 0, none⟩), .pointer (some ⟨g, 0, none⟩), c7, c8, c9, c10, c11, c12, c13, c14, c15, c16, c17, .agg (VI .u8 lo), .agg #[.int .u64 e19x0, .int .u64 e19x1, .int .u64 e19x2, .int .u64 e19x3, .int .u64 e19x4], .agg (VI .u8 hi), .agg #[.int .u64 e21x0, .int .u64 e21x1, .int .u64 e21x2, .int .u64 e21x3, .int .u64 e21x4], .agg (VI .u8 fv), .agg #[.int .u64 e23x0, .int .u64 e23x1, .int .u64 e23x2, .int .u64 e23x3, .int .u64 e23x4], .agg #[.int .u64 e24x0, .int .u64 e24x1, .int .u64 e24x2, .int .u64 e24x3, .int .u64 e24x4], .agg #[.int .u64 e25x0, .int .u64 e25x1, .int .u64 e25x2, .int .u64 e25x3, .int .u64 e25x4], c26, c27, c28, c29, c30, c31, c32, c33, c34, c35], []⟩ W') := H
  clear H
  conv => arg 2; whnf
  refine wp_region_held_drew (S := fun Y => Bs w [(g5, fv), (g4, hi), (g3, lo), (w_heap_size, x)] [] Y) (by kernel_rfl) (XX.drew) (fun hH => ?_)
  clear XX
  obtain ⟨V0, hV0⟩ : ∃ V, W.drew = V := ⟨_, rfl⟩
  rw [hV0] at hH ⊢
  clear hV0
  refine wpAnyH_take (i := 0) rfl (by kernel_rfl) (by kernel_rfl) (by kernel_rfl) (fun _ _ _ h => HPN _ _ _ _ _ h) (yields17 (by rfl) (.tmp 3) rfl (g3) rfl lo (HLO.out) (fun Y h => h.key (g := g3) (x := lo) (by simp))) hH ?_
  try simp only [Act.put, List.setIfInBounds_toArray, List.set_cons_zero, List.set_cons_succ]
  refine wpAnyH_take (i := 2) rfl (by kernel_rfl) (by kernel_rfl) (by kernel_rfl) (fun _ _ _ h => HPN _ _ _ _ _ h) (yields17 (by rfl) (.tmp 4) rfl (g4) rfl hi (HHI.out) (fun Y h => h.key (g := g4) (x := hi) (by simp))) hH ?_
  try simp only [Act.put, List.setIfInBounds_toArray, List.set_cons_zero, List.set_cons_succ]
  refine wpAnyH_take (i := 4) rfl (by kernel_rfl) (by kernel_rfl) (by kernel_rfl) (fun _ _ _ h => HPN _ _ _ _ _ h) (yields17 (by rfl) (.tmp 5) rfl (g5) rfl fv (HFV.out) (fun Y h => h.key (g := g5) (x := fv) (by simp))) hH ?_
  try simp only [Act.put, List.setIfInBounds_toArray, List.set_cons_zero, List.set_cons_succ]
  refine wpAnyH_ready (rs := [1, 8]) (by kernel_rfl) (by simp) (AllReadyH.cons rfl (fun K' hK => ?_) (AllReadyH.cons rfl (fun K' hK => ?_) AllReadyH.nil))
  · go_simp
    refine (C19.out _).mono ?_
    rintro e w1 ⟨rfl, hb⟩
    go_wp2_with fail
    refine hK.out _ _ (hH.below hb) (fun hH => ?_)
    clear hK K'
    clear hb
    try simp only [Act.put, List.setIfInBounds_toArray, List.set_cons_zero, List.set_cons_succ]
    refine wpAnyH_ready (rs := [3, 8]) (by kernel_rfl) (by simp) (AllReadyH.cons rfl (fun K' hK => ?_) (AllReadyH.cons rfl (fun K' hK => ?_) AllReadyH.nil))
    · go_simp
      refine (C21.out _).mono ?_
      rintro e w2 ⟨rfl, hb⟩
      go_wp2_with fail
      refine hK.out _ _ (hH.below hb) (fun hH => ?_)
      clear hK K'
      clear hb
      try simp only [Act.put, List.setIfInBounds_toArray, List.set_cons_zero, List.set_cons_succ]
      refine wpAnyH_ready (rs := [5, 8]) (by kernel_rfl) (by simp) (AllReadyH.cons rfl (fun K' hK => ?_) (AllReadyH.cons rfl (fun K' hK => ?_) AllReadyH.nil))
      · go_simp
        refine (C23.out _).mono ?_
        rintro e w3 ⟨rfl, hb⟩
        go_wp2_with fail
        refine hK.out _ _ (hH.below hb) (fun hH => ?_)
        clear hK K'
        clear hb
        try simp only [Act.put, List.setIfInBounds_toArray, List.set_cons_zero, List.set_cons_succ]
        refine wpAnyH_ready (rs := [6, 8]) (by kernel_rfl) (by simp) (AllReadyH.cons rfl (fun K' hK => ?_) (AllReadyH.cons rfl (fun K' hK => ?_) AllReadyH.nil))
        · go_simp
          refine (C24.out _).mono ?_
          rintro e w4 ⟨rfl, hb⟩
          go_wp2_with fail
          refine hK.out _ _ (hH.below hb) (fun hH => ?_)
          clear hK K'
          clear hb
          try simp only [Act.put, List.setIfInBounds_toArray, List.set_cons_zero, List.set_cons_succ]
          refine wpAnyH_ready (rs := [7, 8]) (by kernel_rfl) (by simp) (AllReadyH.cons rfl (fun K' hK => ?_) (AllReadyH.cons rfl (fun K' hK => ?_) AllReadyH.nil))
          · go_simp
            refine (C25.out _).mono ?_
            rintro e w5 ⟨rfl, hb⟩
            go_wp2_with fail
            refine hK.out _ _ (hH.below hb) (fun hH => ?_)
            clear hK K'
            clear hb
            try simp only [Act.put, List.setIfInBounds_toArray, List.set_cons_zero, List.set_cons_succ]
            refine wpAnyH_ready (rs := [8]) (by kernel_rfl) (by simp) (AllReadyH.cons rfl (fun K' hK => ?_) AllReadyH.nil)
            go_simp
            have hZ := hH.new [0, 0, 0, 0, 0]
            obtain ⟨g, hg⟩ : ∃ g, w5.heap.size = g := ⟨_, rfl⟩
            obtain ⟨f1, f2, f3⟩ := hH.fresh hg
            rw [hg] at hZ
            try simp only [hg]
            obtain ⟨Z0, hZ0⟩ : ∃ Z, w5.alloc (.cells #[.int .u64 0, .int .u64 0, .int .u64 0, .int .u64 0, .int .u64 0] 29) = Z := ⟨_, rfl⟩
            rw [show w5.alloc (.cells (VI .u64 [0, 0, 0, 0, 0]) 29) = Z0 from hZ0] at hZ
            rw [hZ0]
            clear hZ0 hg
            refine hK.out _ _ (hZ.sub (fun p hp => List.mem_cons_of_mem _ hp)) (fun hH => ?_)
            clear hK K'
            try simp only [Act.put, List.setIfInBounds_toArray, List.set_cons_zero, List.set_cons_succ]
            refine wpAnyH_ready (rs := [9]) (by kernel_rfl) (by simp) (AllReadyH.cons rfl (fun K' hK => ?_) AllReadyH.nil)
            obtain ⟨_, _, _, _, _, _, hy0, hy1, hy2, hy3, hy4, hz0, hz1, hz2, hz3, hz4⟩ := row5 (hZ.row (g := g) (x := [0, 0, 0, 0, 0]) (by simp)) rfl
            go_simp
            have hE := hZ.store5 f1 f2 f3 rfl e25x0 e25x1 e25x2 e25x3 e25x4
            refine hK.out _ _ (hE.sub (fun p hp => List.mem_cons_of_mem _ hp)) (fun hH => ?_)
            clear hK K'
            try simp only [Act.put, List.setIfInBounds_toArray, List.set_cons_zero, List.set_cons_succ]
            refine wpAnyH_done (by kernel_rfl) ?_ _
            try simp only [Act.put, List.getElem_toArray, List.getElem_cons_succ, List.getElem_cons_zero, List.getElem?_toArray, List.getElem?_cons_succ, List.getElem?_cons_zero, List.setIfInBounds_toArray, List.set_cons_zero, List.set_cons_succ]
            exact HH.out g _ hE
          · go_simp
            have hZ := hH.new [0, 0, 0, 0, 0]
            obtain ⟨g, hg⟩ : ∃ g, w4.heap.size = g := ⟨_, rfl⟩
            obtain ⟨f1, f2, f3⟩ := hH.fresh hg
            rw [hg] at hZ
            try simp only [hg]
            obtain ⟨Z0, hZ0⟩ : ∃ Z, w4.alloc (.cells #[.int .u64 0, .int .u64 0, .int .u64 0, .int .u64 0, .int .u64 0] 29) = Z := ⟨_, rfl⟩
            rw [show w4.alloc (.cells (VI .u64 [0, 0, 0, 0, 0]) 29) = Z0 from hZ0] at hZ
            rw [hZ0]
            clear hZ0 hg
            refine hK.out _ _ (hZ.sub (fun p hp => List.mem_cons_of_mem _ hp)) (fun hH => ?_)
            clear hK K'
            try simp only [Act.put, List.setIfInBounds_toArray, List.set_cons_zero, List.set_cons_succ]
            refine wpAnyH_ready (rs := [7]) (by kernel_rfl) (by simp) (AllReadyH.cons rfl (fun K' hK => ?_) AllReadyH.nil)
            go_simp
            refine (C25.out _).mono ?_
            rintro e w5 ⟨rfl, hb⟩
            go_wp2_with fail
            refine hK.out _ _ (hH.below hb) (fun hH => ?_)
            clear hK K'
            have hZ := hZ.below hb
            clear hb
            try simp only [Act.put, List.setIfInBounds_toArray, List.set_cons_zero, List.set_cons_succ]
            refine wpAnyH_ready (rs := [9]) (by kernel_rfl) (by simp) (AllReadyH.cons rfl (fun K' hK => ?_) AllReadyH.nil)
            obtain ⟨_, _, _, _, _, _, hy0, hy1, hy2, hy3, hy4, hz0, hz1, hz2, hz3, hz4⟩ := row5 (hZ.row (g := g) (x := [0, 0, 0, 0, 0]) (by simp)) rfl
            go_simp
            have hE := hZ.store5 f1 f2 f3 rfl e25x0 e25x1 e25x2 e25x3 e25x4
            refine hK.out _ _ (hE.sub (fun p hp => List.mem_cons_of_mem _ hp)) (fun hH => ?_)
            clear hK K'
            try simp only [Act.put, List.setIfInBounds_toArray, List.set_cons_zero, List.set_cons_succ]
            refine wpAnyH_done (by kernel_rfl) ?_ _
            try simp only [Act.put, List.getElem_toArray, List.getElem_cons_succ, List.getElem_cons_zero, List.getElem?_toArray, List.getElem?_cons_succ, List.getElem?_cons_zero, List.setIfInBounds_toArray, List.set_cons_zero, List.set_cons_succ]
            exact HH.out g _ hE
        · go_simp
          have hZ := hH.new [0, 0, 0, 0, 0]
          obtain ⟨g, hg⟩ : ∃ g, w3.heap.size = g := ⟨_, rfl⟩
          obtain ⟨f1, f2, f3⟩ := hH.fresh hg
          rw [hg] at hZ
          try simp only [hg]
          obtain ⟨Z0, hZ0⟩ : ∃ Z, w3.alloc (.cells #[.int .u64 0, .int .u64 0, .int .u64 0, .int .u64 0, .int .u64 0] 29) = Z := ⟨_, rfl⟩
          rw [show w3.alloc (.cells (VI .u64 [0, 0, 0, 0, 0]) 29) = Z0 from hZ0] at hZ
          rw [hZ0]
          clear hZ0 hg
          refine hK.out _ _ (hZ.sub (fun p hp => List.mem_cons_of_mem _ hp)) (fun hH => ?_)
          clear hK K'
          try simp only [Act.put, List.setIfInBounds_toArray, List.set_cons_zero, List.set_cons_succ]
          refine wpAnyH_ready (rs := [6]) (by kernel_rfl) (by simp) (AllReadyH.cons rfl (fun K' hK => ?_) AllReadyH.nil)
          go_simp
          refine (C24.out _).mono ?_
          rintro e w4 ⟨rfl, hb⟩
          go_wp2_with fail
          refine hK.out _ _ (hH.below hb) (fun hH => ?_)
          clear hK K'
          have hZ := hZ.below hb
          clear hb
          try simp only [Act.put, List.setIfInBounds_toArray, List.set_cons_zero, List.set_cons_succ]
          refine wpAnyH_ready (rs := [7]) (by kernel_rfl) (by simp) (AllReadyH.cons rfl (fun K' hK => ?_) AllReadyH.nil)
          go_simp
          refine (C25.out _).mono ?_
          rintro e w5 ⟨rfl, hb⟩
          go_wp2_with fail
          refine hK.out _ _ (hH.below hb) (fun hH => ?_)
          clear hK K'
          have hZ := hZ.below hb
          clear hb
          try simp only [Act.put, List.setIfInBounds_toArray, List.set_cons_zero, List.set_cons_succ]
          refine wpAnyH_ready (rs := [9]) (by kernel_rfl) (by simp) (AllReadyH.cons rfl (fun K' hK => ?_) AllReadyH.nil)
          obtain ⟨_, _, _, _, _, _, hy0, hy1, hy2, hy3, hy4, hz0, hz1, hz2, hz3, hz4⟩ := row5 (hZ.row (g := g) (x := [0, 0, 0, 0, 0]) (by simp)) rfl
          go_simp
          have hE := hZ.store5 f1 f2 f3 rfl e25x0 e25x1 e25x2 e25x3 e25x4
          refine hK.out _ _ (hE.sub (fun p hp => List.mem_cons_of_mem _ hp)) (fun hH => ?_)
          clear hK K'
          try simp only [Act.put, List.setIfInBounds_toArray, List.set_cons_zero, List.set_cons_succ]
          refine wpAnyH_done (by kernel_rfl) ?_ _
          try simp only [Act.put, List.getElem_toArray, List.getElem_cons_succ, List.getElem_cons_zero, List.getElem?_toArray, List.getElem?_cons_succ, List.getElem?_cons_zero, List.setIfInBounds_toArray, List.set_cons_zero, List.set_cons_succ]
          exact HH.out g _ hE
      · go_simp
        have hZ := hH.new [0, 0, 0, 0, 0]
        obtain ⟨g, hg⟩ : ∃ g, w2.heap.size = g := ⟨_, rfl⟩
        obtain ⟨f1, f2, f3⟩ := hH.fresh hg
        rw [hg] at hZ
        try simp only [hg]
        obtain ⟨Z0, hZ0⟩ : ∃ Z, w2.alloc (.cells #[.int .u64 0, .int .u64 0, .int .u64 0, .int .u64 0, .int .u64 0] 29) = Z := ⟨_, rfl⟩
        rw [show w2.alloc (.cells (VI .u64 [0, 0, 0, 0, 0]) 29) = Z0 from hZ0] at hZ
        rw [hZ0]
        clear hZ0 hg
        refine hK.out _ _ (hZ.sub (fun p hp => List.mem_cons_of_mem _ hp)) (fun hH => ?_)
        clear hK K'
        try simp only [Act.put, List.setIfInBounds_toArray, List.set_cons_zero, List.set_cons_succ]
        refine wpAnyH_ready (rs := [5]) (by kernel_rfl) (by simp) (AllReadyH.cons rfl (fun K' hK => ?_) AllReadyH.nil)
        go_simp
        refine (C23.out _).mono ?_
        rintro e w3 ⟨rfl, hb⟩
        go_wp2_with fail
        refine hK.out _ _ (hH.below hb) (fun hH => ?_)
        clear hK K'
        have hZ := hZ.below hb
        clear hb
        try simp only [Act.put, List.setIfInBounds_toArray, List.set_cons_zero, List.set_cons_succ]
        refine wpAnyH_ready (rs := [6]) (by kernel_rfl) (by simp) (AllReadyH.cons rfl (fun K' hK => ?_) AllReadyH.nil)
        go_simp
        refine (C24.out _).mono ?_
        rintro e w4 ⟨rfl, hb⟩
        go_wp2_with fail
        refine hK.out _ _ (hH.below hb) (fun hH => ?_)
        clear hK K'
        have hZ := hZ.below hb
        clear hb
        try simp only [Act.put, List.setIfInBounds_toArray, List.set_cons_zero, List.set_cons_succ]
        refine wpAnyH_ready (rs := [7]) (by kernel_rfl) (by simp) (AllReadyH.cons rfl (fun K' hK => ?_) AllReadyH.nil)
        go_simp
        refine (C25.out _).mono ?_
        rintro e w5 ⟨rfl, hb⟩
        go_wp2_with fail
        refine hK.out _ _ (hH.below hb) (fun hH => ?_)
        clear hK K'
        have hZ := hZ.below hb
        clear hb
        try simp only [Act.put, List.setIfInBounds_toArray, List.set_cons_zero, List.set_cons_succ]
        refine wpAnyH_ready (rs := [9]) (by kernel_rfl) (by simp) (AllReadyH.cons rfl (fun K' hK => ?_) AllReadyH.nil)
        obtain ⟨_, _, _, _, _, _, hy0, hy1, hy2, hy3, hy4, hz0, hz1, hz2, hz3, hz4⟩ := row5 (hZ.row (g := g) (x := [0, 0, 0, 0, 0]) (by simp)) rfl
        go_simp
        have hE := hZ.store5 f1 f2 f3 rfl e25x0 e25x1 e25x2 e25x3 e25x4
        refine hK.out _ _ (hE.sub (fun p hp => List.mem_cons_of_mem _ hp)) (fun hH => ?_)
        clear hK K'
        try simp only [Act.put, List.setIfInBounds_toArray, List.set_cons_zero, List.set_cons_succ]
        refine wpAnyH_done (by kernel_rfl) ?_ _
        try simp only [Act.put, List.getElem_toArray, List.getElem_cons_succ, List.getElem_cons_zero, List.getElem?_toArray, List.getElem?_cons_succ, List.getElem?_cons_zero, List.setIfInBounds_toArray, List.set_cons_zero, List.set_cons_succ]
        exact HH.out g _ hE
    · go_simp
      have hZ := hH.new [0, 0, 0, 0, 0]
      obtain ⟨g, hg⟩ : ∃ g, w1.heap.size = g := ⟨_, rfl⟩
      obtain ⟨f1, f2, f3⟩ := hH.fresh hg
      rw [hg] at hZ
      try simp only [hg]
      obtain ⟨Z0, hZ0⟩ : ∃ Z, w1.alloc (.cells #[.int .u64 0, .int .u64 0, .int .u64 0, .int .u64 0, .int .u64 0] 29) = Z := ⟨_, rfl⟩
      rw [show w1.alloc (.cells (VI .u64 [0, 0, 0, 0, 0]) 29) = Z0 from hZ0] at hZ
      rw [hZ0]
      clear hZ0 hg
      refine hK.out _ _ (hZ.sub (fun p hp => List.mem_cons_of_mem _ hp)) (fun hH => ?_)
      clear hK K'
      try simp only [Act.put, List.setIfInBounds_toArray, List.set_cons_zero, List.set_cons_succ]
      refine wpAnyH_ready (rs := [3]) (by kernel_rfl) (by simp) (AllReadyH.cons rfl (fun K' hK => ?_) AllReadyH.nil)
      go_simp
      refine (C21.out _).mono ?_
      rintro e w2 ⟨rfl, hb⟩
      go_wp2_with fail
      refine hK.out _ _ (hH.below hb) (fun hH => ?_)
      clear hK K'
      have hZ := hZ.below hb
      clear hb
      try simp only [Act.put, List.setIfInBounds_toArray, List.set_cons_zero, List.set_cons_succ]
      refine wpAnyH_ready (rs := [5]) (by kernel_rfl) (by simp) (AllReadyH.cons rfl (fun K' hK => ?_) AllReadyH.nil)
      go_simp
      refine (C23.out _).mono ?_
      rintro e w3 ⟨rfl, hb⟩
      go_wp2_with fail
      refine hK.out _ _ (hH.below hb) (fun hH => ?_)
      clear hK K'
      have hZ := hZ.below hb
      clear hb
      try simp only [Act.put, List.setIfInBounds_toArray, List.set_cons_zero, List.set_cons_succ]
      refine wpAnyH_ready (rs := [6]) (by kernel_rfl) (by simp) (AllReadyH.cons rfl (fun K' hK => ?_) AllReadyH.nil)
      go_simp
      refine (C24.out _).mono ?_
      rintro e w4 ⟨rfl, hb⟩
      go_wp2_with fail
      refine hK.out _ _ (hH.below hb) (fun hH => ?_)
      clear hK K'
      have hZ := hZ.below hb
      clear hb
      try simp only [Act.put, List.setIfInBounds_toArray, List.set_cons_zero, List.set_cons_succ]
      refine wpAnyH_ready (rs := [7]) (by kernel_rfl) (by simp) (AllReadyH.cons rfl (fun K' hK => ?_) AllReadyH.nil)
      go_simp
      refine (C25.out _).mono ?_
      rintro e w5 ⟨rfl, hb⟩
      go_wp2_with fail
      refine hK.out _ _ (hH.below hb) (fun hH => ?_)
      clear hK K'
      have hZ := hZ.below hb
      clear hb
      try simp only [Act.put, List.setIfInBounds_toArray, List.set_cons_zero, List.set_cons_succ]
      refine wpAnyH_ready (rs := [9]) (by kernel_rfl) (by simp) (AllReadyH.cons rfl (fun K' hK => ?_) AllReadyH.nil)
      obtain ⟨_, _, _, _, _, _, hy0, hy1, hy2, hy3, hy4, hz0, hz1, hz2, hz3, hz4⟩ := row5 (hZ.row (g := g) (x := [0, 0, 0, 0, 0]) (by simp)) rfl
      go_simp
      have hE := hZ.store5 f1 f2 f3 rfl e25x0 e25x1 e25x2 e25x3 e25x4
      refine hK.out _ _ (hE.sub (fun p hp => List.mem_cons_of_mem _ hp)) (fun hH => ?_)
      clear hK K'
      try simp only [Act.put, List.setIfInBounds_toArray, List.set_cons_zero, List.set_cons_succ]
      refine wpAnyH_done (by kernel_rfl) ?_ _
      try simp only [Act.put, List.getElem_toArray, List.getElem_cons_succ, List.getElem_cons_zero, List.getElem?_toArray, List.getElem?_cons_succ, List.getElem?_cons_zero, List.setIfInBounds_toArray, List.set_cons_zero, List.set_cons_succ]
      exact HH.out g _ hE
  · go_simp
    have hZ := hH.new [0, 0, 0, 0, 0]
    obtain ⟨g, hg⟩ : ∃ g, V0.heap.size = g := ⟨_, rfl⟩
    obtain ⟨f1, f2, f3⟩ := hH.fresh hg
    rw [hg] at hZ
    try simp only [hg]
    obtain ⟨Z0, hZ0⟩ : ∃ Z, V0.alloc (.cells #[.int .u64 0, .int .u64 0, .int .u64 0, .int .u64 0, .int .u64 0] 29) = Z := ⟨_, rfl⟩
    rw [show V0.alloc (.cells (VI .u64 [0, 0, 0, 0, 0]) 29) = Z0 from hZ0] at hZ
    rw [hZ0]
    clear hZ0 hg
    refine hK.out _ _ (hZ.sub (fun p hp => List.mem_cons_of_mem _ hp)) (fun hH => ?_)
    clear hK K'
    try simp only [Act.put, List.setIfInBounds_toArray, List.set_cons_zero, List.set_cons_succ]
    refine wpAnyH_ready (rs := [1]) (by kernel_rfl) (by simp) (AllReadyH.cons rfl (fun K' hK => ?_) AllReadyH.nil)
    go_simp
    refine (C19.out _).mono ?_
    rintro e w1 ⟨rfl, hb⟩
    go_wp2_with fail
    refine hK.out _ _ (hH.below hb) (fun hH => ?_)
    clear hK K'
    have hZ := hZ.below hb
    clear hb
    try simp only [Act.put, List.setIfInBounds_toArray, List.set_cons_zero, List.set_cons_succ]
    refine wpAnyH_ready (rs := [3]) (by kernel_rfl) (by simp) (AllReadyH.cons rfl (fun K' hK => ?_) AllReadyH.nil)
    go_simp
    refine (C21.out _).mono ?_
    rintro e w2 ⟨rfl, hb⟩
    go_wp2_with fail
    refine hK.out _ _ (hH.below hb) (fun hH => ?_)
    clear hK K'
    have hZ := hZ.below hb
    clear hb
    try simp only [Act.put, List.setIfInBounds_toArray, List.set_cons_zero, List.set_cons_succ]
    refine wpAnyH_ready (rs := [5]) (by kernel_rfl) (by simp) (AllReadyH.cons rfl (fun K' hK => ?_) AllReadyH.nil)
    go_simp
    refine (C23.out _).mono ?_
    rintro e w3 ⟨rfl, hb⟩
    go_wp2_with fail
    refine hK.out _ _ (hH.below hb) (fun hH => ?_)
    clear hK K'
    have hZ := hZ.below hb
    clear hb
    try simp only [Act.put, List.setIfInBounds_toArray, List.set_cons_zero, List.set_cons_succ]
    refine wpAnyH_ready (rs := [6]) (by kernel_rfl) (by simp) (AllReadyH.cons rfl (fun K' hK => ?_) AllReadyH.nil)
    go_simp
    refine (C24.out _).mono ?_
    rintro e w4 ⟨rfl, hb⟩
    go_wp2_with fail
    refine hK.out _ _ (hH.below hb) (fun hH => ?_)
    clear hK K'
    have hZ := hZ.below hb
    clear hb
    try simp only [Act.put, List.setIfInBounds_toArray, List.set_cons_zero, List.set_cons_succ]
    refine wpAnyH_ready (rs := [7]) (by kernel_rfl) (by simp) (AllReadyH.cons rfl (fun K' hK => ?_) AllReadyH.nil)
    go_simp
    refine (C25.out _).mono ?_
    rintro e w5 ⟨rfl, hb⟩
    go_wp2_with fail
    refine hK.out _ _ (hH.below hb) (fun hH => ?_)
    clear hK K'
    have hZ := hZ.below hb
    clear hb
    try simp only [Act.put, List.setIfInBounds_toArray, List.set_cons_zero, List.set_cons_succ]
    refine wpAnyH_ready (rs := [9]) (by kernel_rfl) (by simp) (AllReadyH.cons rfl (fun K' hK => ?_) AllReadyH.nil)
    obtain ⟨_, _, _, _, _, _, hy0, hy1, hy2, hy3, hy4, hz0, hz1, hz2, hz3, hz4⟩ := row5 (hZ.row (g := g) (x := [0, 0, 0, 0, 0]) (by simp)) rfl
    go_simp
    have hE := hZ.store5 f1 f2 f3 rfl e25x0 e25x1 e25x2 e25x3 e25x4
    refine hK.out _ _ (hE.sub (fun p hp => List.mem_cons_of_mem _ hp)) (fun hH => ?_)
    clear hK K'
    try simp only [Act.put, List.setIfInBounds_toArray, List.set_cons_zero, List.set_cons_succ]
    refine wpAnyH_done (by kernel_rfl) ?_ _
    try simp only [Act.put, List.getElem_toArray, List.getElem_cons_succ, List.getElem_cons_zero, List.getElem?_toArray, List.getElem?_cons_succ, List.getElem?_cons_zero, List.setIfInBounds_toArray, List.set_cons_zero, List.set_cons_succ]
    exact HH.out g _ hE
end Go.Proofs.Ytfeoamkngnpcmaa
