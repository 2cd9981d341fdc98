import Derived.Test.YtfkbgodfcnmepabDoorDigE
namespace Go.Proofs.YtfkbgodfcnmepabDoor
set_option linter.unusedSimpArgs false
set_option linter.unusedVariables false
open Go.ChangeShapes Go.WideShapes Go.ChangeAt Go.RowKit Go.Pin Go.Str Go.Dig
set_option maxRecDepth 100000 in
theorem round5_body : Tryd.f31.body = some (.seq (.region 0 (rO 4 38 2 12 "rounds.go:61") true) (.seq (.region 1 (rO 14 39 6 10 "rounds.go:62") true) (.seq (.region 2 (rO 24 40 0 11 "rounds.go:63") true) (.seq (.region 3 (rO 34 41 8 3 "rounds.go:64") true) (.seq (.region 4 (rO 44 42 4 13 "rounds.go:65") true) (.seq (.region 5 (rO 54 43 7 5 "rounds.go:66") true) (.seq (.region 6 (rO 64 44 15 14 "rounds.go:67") true) (.region 7 (rO 74 45 1 9 "rounds.go:68") true)))))))) := by kernel_rfl
set_option maxRecDepth 100000 in
set_option maxHeartbeats 8000000 in
theorem round5_any (g gm : Nat) (hgm : gm ≠ g) (L M : List Nat) (hL : S16 L) (hM : S16 M) (w : World) (h : RW w g L 73) (hm : RW w gm M 73) :
    Calls Tryd.prog 31 #[.pointer (some ⟨g, 0, none⟩), .pointer (some ⟨gm, 0, none⟩)] w fun e w' => e = .returned (.tuple #[]) ∧ But (fun k => k = g) w w' ∧ RW w' g (rnk (ord 5) M L 8) 73 := by
  have hc : ∀ i, i < 16 → ∀ Y, But (fun k => k = g) w Y → Y.cell? ⟨gm, i, none⟩ = some (.int .u32 ((M.getD i 0 : Nat) : Int)) := fun i hi Y hY => by
    rw [World.cell?_of_block (a := ⟨gm, i, none⟩) (hY.block gm hgm)]
    exact hm.cell (by rw [hM.len]; exact hi)
  have hx := fun i => hM.bd.at i
  have hS0 : S16 (rnk (ord 5) M L 0) := hL
  have hr0 : RW w g (rnk (ord 5) M L 0) 73 := h
  have b0 : But (fun k => k = g) w w := But.refl _ _
  refine calls_of_wp Tryd.func31 round5_body ?_
  obtain ⟨a0, ha⟩ : ∃ a : Act, a = { tmps := #[.pointer (some ⟨g, 0, none⟩), .pointer (some ⟨gm, 0, none⟩)] ++ Array.replicate (Tryd.f31.ntmps - #[Value.pointer (some ⟨g, 0, none⟩), .pointer (some ⟨gm, 0, none⟩)].size) undef, defers := [] } := ⟨_, rfl⟩
  rw [← ha]
  have s0 : a0.tmps.size = 84 := by rw [ha]; kernel_rfl
  have e0 : a0.eval (.tmp 0) = .pointer (some ⟨g, 0, none⟩) := by rw [ha]; kernel_rfl
  have e1 : a0.eval (.tmp 1) = .pointer (some ⟨gm, 0, none⟩) := by rw [ha]; kernel_rfl
  have d0 : a0.defers = [] := by rw [ha]
  clear ha
  have C0 : Calls Tryd.prog 38 #[.pointer (some ⟨g, 0, none⟩), .int .u32 ((M.getD 2 0 : Nat) : Int), .int .u32 ((M.getD 12 0 : Nat) : Int)] w.drew fun e w' => e = .returned (.tuple #[]) ∧ (fun w' => But (fun k => k = g) w w' ∧ RW w' g (rnk (ord 5) M L 1) 73) w' := (column0_any g (M.getD 2 0) (M.getD 12 0) (hx 2) (hx 12) _ hS0 w.drew hr0).mono (fun e w' h => ⟨h.1, but_trans b0.drew h.2.1, h.2.2⟩)
  refine rN (x := M.getD 2 0) (y := M.getD 12 0) (R := (fun w' => But (fun k => k = g) w w' ∧ RW w' g (rnk (ord 5) M L 1) 73)) (by kernel_rfl) (by decide) (by rw [s0]; decide) (by decide) (by decide) e0 e1 ⟨hc 2 (by decide) w b0, hc 12 (by decide) w b0⟩ (fun _ _ => rfl) C0 (fun w' h => ⟨hc 2 (by decide) w' h.1, hc 12 (by decide) w' h.1⟩) (fun _ _ d _ _ h => by cases d <;> exact h) ?_
  intro a1 w1 s1 e0_1 e1_1 d1 r1
  obtain ⟨b1, hr1⟩ := r1
  rw [s0] at s1
  rw [d0] at d1
  have hS1 : S16 (rnk (ord 5) M L 1) := ⟨by rw [rnk_len]; exact hL.len, rnk_w hL.bd _ _ _⟩
  clear C0 b0 hr0 hS0 s0 d0 e0 e1
  have C1 : Calls Tryd.prog 39 #[.pointer (some ⟨g, 0, none⟩), .int .u32 ((M.getD 6 0 : Nat) : Int), .int .u32 ((M.getD 10 0 : Nat) : Int)] w1.drew fun e w' => e = .returned (.tuple #[]) ∧ (fun w' => But (fun k => k = g) w w' ∧ RW w' g (rnk (ord 5) M L 2) 73) w' := (column1_any g (M.getD 6 0) (M.getD 10 0) (hx 6) (hx 10) _ hS1 w1.drew hr1).mono (fun e w' h => ⟨h.1, but_trans b1.drew h.2.1, h.2.2⟩)
  refine rN (x := M.getD 6 0) (y := M.getD 10 0) (R := (fun w' => But (fun k => k = g) w w' ∧ RW w' g (rnk (ord 5) M L 2) 73)) (by kernel_rfl) (by decide) (by rw [s1]; decide) (by decide) (by decide) e0_1 e1_1 ⟨hc 6 (by decide) w1 b1, hc 10 (by decide) w1 b1⟩ (fun _ _ => rfl) C1 (fun w' h => ⟨hc 6 (by decide) w' h.1, hc 10 (by decide) w' h.1⟩) (fun _ _ d _ _ h => by cases d <;> exact h) ?_
  intro a2 w2 s2 e0_2 e1_2 d2 r2
  obtain ⟨b2, hr2⟩ := r2
  rw [s1] at s2
  rw [d1] at d2
  have hS2 : S16 (rnk (ord 5) M L 2) := ⟨by rw [rnk_len]; exact hL.len, rnk_w hL.bd _ _ _⟩
  clear C1 b1 hr1 hS1 s1 d1 e0_1 e1_1
  have C2 : Calls Tryd.prog 40 #[.pointer (some ⟨g, 0, none⟩), .int .u32 ((M.getD 0 0 : Nat) : Int), .int .u32 ((M.getD 11 0 : Nat) : Int)] w2.drew fun e w' => e = .returned (.tuple #[]) ∧ (fun w' => But (fun k => k = g) w w' ∧ RW w' g (rnk (ord 5) M L 3) 73) w' := (column2_any g (M.getD 0 0) (M.getD 11 0) (hx 0) (hx 11) _ hS2 w2.drew hr2).mono (fun e w' h => ⟨h.1, but_trans b2.drew h.2.1, h.2.2⟩)
  refine rN (x := M.getD 0 0) (y := M.getD 11 0) (R := (fun w' => But (fun k => k = g) w w' ∧ RW w' g (rnk (ord 5) M L 3) 73)) (by kernel_rfl) (by decide) (by rw [s2]; decide) (by decide) (by decide) e0_2 e1_2 ⟨hc 0 (by decide) w2 b2, hc 11 (by decide) w2 b2⟩ (fun _ _ => rfl) C2 (fun w' h => ⟨hc 0 (by decide) w' h.1, hc 11 (by decide) w' h.1⟩) (fun _ _ d _ _ h => by cases d <;> exact h) ?_
  intro a3 w3 s3 e0_3 e1_3 d3 r3
  obtain ⟨b3, hr3⟩ := r3
  rw [s2] at s3
  rw [d2] at d3
  have hS3 : S16 (rnk (ord 5) M L 3) := ⟨by rw [rnk_len]; exact hL.len, rnk_w hL.bd _ _ _⟩
  clear C2 b2 hr2 hS2 s2 d2 e0_2 e1_2
  have C3 : Calls Tryd.prog 41 #[.pointer (some ⟨g, 0, none⟩), .int .u32 ((M.getD 8 0 : Nat) : Int), .int .u32 ((M.getD 3 0 : Nat) : Int)] w3.drew fun e w' => e = .returned (.tuple #[]) ∧ (fun w' => But (fun k => k = g) w w' ∧ RW w' g (rnk (ord 5) M L 4) 73) w' := (column3_any g (M.getD 8 0) (M.getD 3 0) (hx 8) (hx 3) _ hS3 w3.drew hr3).mono (fun e w' h => ⟨h.1, but_trans b3.drew h.2.1, h.2.2⟩)
  refine rN (x := M.getD 8 0) (y := M.getD 3 0) (R := (fun w' => But (fun k => k = g) w w' ∧ RW w' g (rnk (ord 5) M L 4) 73)) (by kernel_rfl) (by decide) (by rw [s3]; decide) (by decide) (by decide) e0_3 e1_3 ⟨hc 8 (by decide) w3 b3, hc 3 (by decide) w3 b3⟩ (fun _ _ => rfl) C3 (fun w' h => ⟨hc 8 (by decide) w' h.1, hc 3 (by decide) w' h.1⟩) (fun _ _ d _ _ h => by cases d <;> exact h) ?_
  intro a4 w4 s4 e0_4 e1_4 d4 r4
  obtain ⟨b4, hr4⟩ := r4
  rw [s3] at s4
  rw [d3] at d4
  have hS4 : S16 (rnk (ord 5) M L 4) := ⟨by rw [rnk_len]; exact hL.len, rnk_w hL.bd _ _ _⟩
  clear C3 b3 hr3 hS3 s3 d3 e0_3 e1_3
  have C4 : Calls Tryd.prog 42 #[.pointer (some ⟨g, 0, none⟩), .int .u32 ((M.getD 4 0 : Nat) : Int), .int .u32 ((M.getD 13 0 : Nat) : Int)] w4.drew fun e w' => e = .returned (.tuple #[]) ∧ (fun w' => But (fun k => k = g) w w' ∧ RW w' g (rnk (ord 5) M L 5) 73) w' := (diagonal0_any g (M.getD 4 0) (M.getD 13 0) (hx 4) (hx 13) _ hS4 w4.drew hr4).mono (fun e w' h => ⟨h.1, but_trans b4.drew h.2.1, h.2.2⟩)
  refine rN (x := M.getD 4 0) (y := M.getD 13 0) (R := (fun w' => But (fun k => k = g) w w' ∧ RW w' g (rnk (ord 5) M L 5) 73)) (by kernel_rfl) (by decide) (by rw [s4]; decide) (by decide) (by decide) e0_4 e1_4 ⟨hc 4 (by decide) w4 b4, hc 13 (by decide) w4 b4⟩ (fun _ _ => rfl) C4 (fun w' h => ⟨hc 4 (by decide) w' h.1, hc 13 (by decide) w' h.1⟩) (fun _ _ d _ _ h => by cases d <;> exact h) ?_
  intro a5 w5 s5 e0_5 e1_5 d5 r5
  obtain ⟨b5, hr5⟩ := r5
  rw [s4] at s5
  rw [d4] at d5
  have hS5 : S16 (rnk (ord 5) M L 5) := ⟨by rw [rnk_len]; exact hL.len, rnk_w hL.bd _ _ _⟩
  clear C4 b4 hr4 hS4 s4 d4 e0_4 e1_4
  have C5 : Calls Tryd.prog 43 #[.pointer (some ⟨g, 0, none⟩), .int .u32 ((M.getD 7 0 : Nat) : Int), .int .u32 ((M.getD 5 0 : Nat) : Int)] w5.drew fun e w' => e = .returned (.tuple #[]) ∧ (fun w' => But (fun k => k = g) w w' ∧ RW w' g (rnk (ord 5) M L 6) 73) w' := (diagonal1_any g (M.getD 7 0) (M.getD 5 0) (hx 7) (hx 5) _ hS5 w5.drew hr5).mono (fun e w' h => ⟨h.1, but_trans b5.drew h.2.1, h.2.2⟩)
  refine rN (x := M.getD 7 0) (y := M.getD 5 0) (R := (fun w' => But (fun k => k = g) w w' ∧ RW w' g (rnk (ord 5) M L 6) 73)) (by kernel_rfl) (by decide) (by rw [s5]; decide) (by decide) (by decide) e0_5 e1_5 ⟨hc 7 (by decide) w5 b5, hc 5 (by decide) w5 b5⟩ (fun _ _ => rfl) C5 (fun w' h => ⟨hc 7 (by decide) w' h.1, hc 5 (by decide) w' h.1⟩) (fun _ _ d _ _ h => by cases d <;> exact h) ?_
  intro a6 w6 s6 e0_6 e1_6 d6 r6
  obtain ⟨b6, hr6⟩ := r6
  rw [s5] at s6
  rw [d5] at d6
  have hS6 : S16 (rnk (ord 5) M L 6) := ⟨by rw [rnk_len]; exact hL.len, rnk_w hL.bd _ _ _⟩
  clear C5 b5 hr5 hS5 s5 d5 e0_5 e1_5
  have C6 : Calls Tryd.prog 44 #[.pointer (some ⟨g, 0, none⟩), .int .u32 ((M.getD 15 0 : Nat) : Int), .int .u32 ((M.getD 14 0 : Nat) : Int)] w6.drew fun e w' => e = .returned (.tuple #[]) ∧ (fun w' => But (fun k => k = g) w w' ∧ RW w' g (rnk (ord 5) M L 7) 73) w' := (diagonal2_any g (M.getD 15 0) (M.getD 14 0) (hx 15) (hx 14) _ hS6 w6.drew hr6).mono (fun e w' h => ⟨h.1, but_trans b6.drew h.2.1, h.2.2⟩)
  refine rN (x := M.getD 15 0) (y := M.getD 14 0) (R := (fun w' => But (fun k => k = g) w w' ∧ RW w' g (rnk (ord 5) M L 7) 73)) (by kernel_rfl) (by decide) (by rw [s6]; decide) (by decide) (by decide) e0_6 e1_6 ⟨hc 15 (by decide) w6 b6, hc 14 (by decide) w6 b6⟩ (fun _ _ => rfl) C6 (fun w' h => ⟨hc 15 (by decide) w' h.1, hc 14 (by decide) w' h.1⟩) (fun _ _ d _ _ h => by cases d <;> exact h) ?_
  intro a7 w7 s7 e0_7 e1_7 d7 r7
  obtain ⟨b7, hr7⟩ := r7
  rw [s6] at s7
  rw [d6] at d7
  have hS7 : S16 (rnk (ord 5) M L 7) := ⟨by rw [rnk_len]; exact hL.len, rnk_w hL.bd _ _ _⟩
  clear C6 b6 hr6 hS6 s6 d6 e0_6 e1_6
  have C7 : Calls Tryd.prog 45 #[.pointer (some ⟨g, 0, none⟩), .int .u32 ((M.getD 1 0 : Nat) : Int), .int .u32 ((M.getD 9 0 : Nat) : Int)] w7.drew fun e w' => e = .returned (.tuple #[]) ∧ (fun w' => But (fun k => k = g) w w' ∧ RW w' g (rnk (ord 5) M L 8) 73) w' := (diagonal3_any g (M.getD 1 0) (M.getD 9 0) (hx 1) (hx 9) _ hS7 w7.drew hr7).mono (fun e w' h => ⟨h.1, but_trans b7.drew h.2.1, h.2.2⟩)
  refine rG (x := M.getD 1 0) (y := M.getD 9 0) (R := (fun w' => But (fun k => k = g) w w' ∧ RW w' g (rnk (ord 5) M L 8) 73)) (by kernel_rfl) (by decide) (by rw [s7]; decide) (by decide) (by decide) e0_7 e1_7 ⟨hc 1 (by decide) w7 b7, hc 9 (by decide) w7 b7⟩ (fun _ _ => rfl) C7 (fun w' h => ⟨hc 1 (by decide) w' h.1, hc 9 (by decide) w' h.1⟩) (fun _ _ d _ _ h => by cases d <;> exact h) ?_
  intro a8 w8 s8 e0_8 e1_8 d8 r8
  obtain ⟨b8, hr8⟩ := r8
  rw [s7] at s8
  rw [d7] at d8
  have hS8 : S16 (rnk (ord 5) M L 8) := ⟨by rw [rnk_len]; exact hL.len, rnk_w hL.bd _ _ _⟩
  clear C7 b7 hr7 hS7 s7 d7 e0_7 e1_7
  exact bodyPost_end (results_none rfl _ _ _) d8 ⟨rfl, b8, hr8⟩
set_option maxRecDepth 100000 in
theorem round6_body : Tryd.f32.body = some (.seq (.region 0 (rO 4 38 12 5 "rounds.go:72") true) (.seq (.region 1 (rO 14 39 1 15 "rounds.go:73") true) (.seq (.region 2 (rO 24 40 14 13 "rounds.go:74") true) (.seq (.region 3 (rO 34 41 4 10 "rounds.go:75") true) (.seq (.region 4 (rO 44 42 0 7 "rounds.go:76") true) (.seq (.region 5 (rO 54 43 6 3 "rounds.go:77") true) (.seq (.region 6 (rO 64 44 9 2 "rounds.go:78") true) (.region 7 (rO 74 45 8 11 "rounds.go:79") true)))))))) := by kernel_rfl
set_option maxRecDepth 100000 in
set_option maxHeartbeats 8000000 in
theorem round6_any (g gm : Nat) (hgm : gm ≠ g) (L M : List Nat) (hL : S16 L) (hM : S16 M) (w : World) (h : RW w g L 73) (hm : RW w gm M 73) :
    Calls Tryd.prog 32 #[.pointer (some ⟨g, 0, none⟩), .pointer (some ⟨gm, 0, none⟩)] w fun e w' => e = .returned (.tuple #[]) ∧ But (fun k => k = g) w w' ∧ RW w' g (rnk (ord 6) M L 8) 73 := by
  have hc : ∀ i, i < 16 → ∀ Y, But (fun k => k = g) w Y → Y.cell? ⟨gm, i, none⟩ = some (.int .u32 ((M.getD i 0 : Nat) : Int)) := fun i hi Y hY => by
    rw [World.cell?_of_block (a := ⟨gm, i, none⟩) (hY.block gm hgm)]
    exact hm.cell (by rw [hM.len]; exact hi)
  have hx := fun i => hM.bd.at i
  have hS0 : S16 (rnk (ord 6) M L 0) := hL
  have hr0 : RW w g (rnk (ord 6) M L 0) 73 := h
  have b0 : But (fun k => k = g) w w := But.refl _ _
  refine calls_of_wp Tryd.func32 round6_body ?_
  obtain ⟨a0, ha⟩ : ∃ a : Act, a = { tmps := #[.pointer (some ⟨g, 0, none⟩), .pointer (some ⟨gm, 0, none⟩)] ++ Array.replicate (Tryd.f32.ntmps - #[Value.pointer (some ⟨g, 0, none⟩), .pointer (some ⟨gm, 0, none⟩)].size) undef, defers := [] } := ⟨_, rfl⟩
  rw [← ha]
  have s0 : a0.tmps.size = 84 := by rw [ha]; kernel_rfl
  have e0 : a0.eval (.tmp 0) = .pointer (some ⟨g, 0, none⟩) := by rw [ha]; kernel_rfl
  have e1 : a0.eval (.tmp 1) = .pointer (some ⟨gm, 0, none⟩) := by rw [ha]; kernel_rfl
  have d0 : a0.defers = [] := by rw [ha]
  clear ha
  have C0 : Calls Tryd.prog 38 #[.pointer (some ⟨g, 0, none⟩), .int .u32 ((M.getD 12 0 : Nat) : Int), .int .u32 ((M.getD 5 0 : Nat) : Int)] w.drew fun e w' => e = .returned (.tuple #[]) ∧ (fun w' => But (fun k => k = g) w w' ∧ RW w' g (rnk (ord 6) M L 1) 73) w' := (column0_any g (M.getD 12 0) (M.getD 5 0) (hx 12) (hx 5) _ hS0 w.drew hr0).mono (fun e w' h => ⟨h.1, but_trans b0.drew h.2.1, h.2.2⟩)
  refine rN (x := M.getD 12 0) (y := M.getD 5 0) (R := (fun w' => But (fun k => k = g) w w' ∧ RW w' g (rnk (ord 6) M L 1) 73)) (by kernel_rfl) (by decide) (by rw [s0]; decide) (by decide) (by decide) e0 e1 ⟨hc 12 (by decide) w b0, hc 5 (by decide) w b0⟩ (fun _ _ => rfl) C0 (fun w' h => ⟨hc 12 (by decide) w' h.1, hc 5 (by decide) w' h.1⟩) (fun _ _ d _ _ h => by cases d <;> exact h) ?_
  intro a1 w1 s1 e0_1 e1_1 d1 r1
  obtain ⟨b1, hr1⟩ := r1
  rw [s0] at s1
  rw [d0] at d1
  have hS1 : S16 (rnk (ord 6) M L 1) := ⟨by rw [rnk_len]; exact hL.len, rnk_w hL.bd _ _ _⟩
  clear C0 b0 hr0 hS0 s0 d0 e0 e1
  have C1 : Calls Tryd.prog 39 #[.pointer (some ⟨g, 0, none⟩), .int .u32 ((M.getD 1 0 : Nat) : Int), .int .u32 ((M.getD 15 0 : Nat) : Int)] w1.drew fun e w' => e = .returned (.tuple #[]) ∧ (fun w' => But (fun k => k = g) w w' ∧ RW w' g (rnk (ord 6) M L 2) 73) w' := (column1_any g (M.getD 1 0) (M.getD 15 0) (hx 1) (hx 15) _ hS1 w1.drew hr1).mono (fun e w' h => ⟨h.1, but_trans b1.drew h.2.1, h.2.2⟩)
  refine rN (x := M.getD 1 0) (y := M.getD 15 0) (R := (fun w' => But (fun k => k = g) w w' ∧ RW w' g (rnk (ord 6) M L 2) 73)) (by kernel_rfl) (by decide) (by rw [s1]; decide) (by decide) (by decide) e0_1 e1_1 ⟨hc 1 (by decide) w1 b1, hc 15 (by decide) w1 b1⟩ (fun _ _ => rfl) C1 (fun w' h => ⟨hc 1 (by decide) w' h.1, hc 15 (by decide) w' h.1⟩) (fun _ _ d _ _ h => by cases d <;> exact h) ?_
  intro a2 w2 s2 e0_2 e1_2 d2 r2
  obtain ⟨b2, hr2⟩ := r2
  rw [s1] at s2
  rw [d1] at d2
  have hS2 : S16 (rnk (ord 6) M L 2) := ⟨by rw [rnk_len]; exact hL.len, rnk_w hL.bd _ _ _⟩
  clear C1 b1 hr1 hS1 s1 d1 e0_1 e1_1
  have C2 : Calls Tryd.prog 40 #[.pointer (some ⟨g, 0, none⟩), .int .u32 ((M.getD 14 0 : Nat) : Int), .int .u32 ((M.getD 13 0 : Nat) : Int)] w2.drew fun e w' => e = .returned (.tuple #[]) ∧ (fun w' => But (fun k => k = g) w w' ∧ RW w' g (rnk (ord 6) M L 3) 73) w' := (column2_any g (M.getD 14 0) (M.getD 13 0) (hx 14) (hx 13) _ hS2 w2.drew hr2).mono (fun e w' h => ⟨h.1, but_trans b2.drew h.2.1, h.2.2⟩)
  refine rN (x := M.getD 14 0) (y := M.getD 13 0) (R := (fun w' => But (fun k => k = g) w w' ∧ RW w' g (rnk (ord 6) M L 3) 73)) (by kernel_rfl) (by decide) (by rw [s2]; decide) (by decide) (by decide) e0_2 e1_2 ⟨hc 14 (by decide) w2 b2, hc 13 (by decide) w2 b2⟩ (fun _ _ => rfl) C2 (fun w' h => ⟨hc 14 (by decide) w' h.1, hc 13 (by decide) w' h.1⟩) (fun _ _ d _ _ h => by cases d <;> exact h) ?_
  intro a3 w3 s3 e0_3 e1_3 d3 r3
  obtain ⟨b3, hr3⟩ := r3
  rw [s2] at s3
  rw [d2] at d3
  have hS3 : S16 (rnk (ord 6) M L 3) := ⟨by rw [rnk_len]; exact hL.len, rnk_w hL.bd _ _ _⟩
  clear C2 b2 hr2 hS2 s2 d2 e0_2 e1_2
  have C3 : Calls Tryd.prog 41 #[.pointer (some ⟨g, 0, none⟩), .int .u32 ((M.getD 4 0 : Nat) : Int), .int .u32 ((M.getD 10 0 : Nat) : Int)] w3.drew fun e w' => e = .returned (.tuple #[]) ∧ (fun w' => But (fun k => k = g) w w' ∧ RW w' g (rnk (ord 6) M L 4) 73) w' := (column3_any g (M.getD 4 0) (M.getD 10 0) (hx 4) (hx 10) _ hS3 w3.drew hr3).mono (fun e w' h => ⟨h.1, but_trans b3.drew h.2.1, h.2.2⟩)
  refine rN (x := M.getD 4 0) (y := M.getD 10 0) (R := (fun w' => But (fun k => k = g) w w' ∧ RW w' g (rnk (ord 6) M L 4) 73)) (by kernel_rfl) (by decide) (by rw [s3]; decide) (by decide) (by decide) e0_3 e1_3 ⟨hc 4 (by decide) w3 b3, hc 10 (by decide) w3 b3⟩ (fun _ _ => rfl) C3 (fun w' h => ⟨hc 4 (by decide) w' h.1, hc 10 (by decide) w' h.1⟩) (fun _ _ d _ _ h => by cases d <;> exact h) ?_
  intro a4 w4 s4 e0_4 e1_4 d4 r4
  obtain ⟨b4, hr4⟩ := r4
  rw [s3] at s4
  rw [d3] at d4
  have hS4 : S16 (rnk (ord 6) M L 4) := ⟨by rw [rnk_len]; exact hL.len, rnk_w hL.bd _ _ _⟩
  clear C3 b3 hr3 hS3 s3 d3 e0_3 e1_3
  have C4 : Calls Tryd.prog 42 #[.pointer (some ⟨g, 0, none⟩), .int .u32 ((M.getD 0 0 : Nat) : Int), .int .u32 ((M.getD 7 0 : Nat) : Int)] w4.drew fun e w' => e = .returned (.tuple #[]) ∧ (fun w' => But (fun k => k = g) w w' ∧ RW w' g (rnk (ord 6) M L 5) 73) w' := (diagonal0_any g (M.getD 0 0) (M.getD 7 0) (hx 0) (hx 7) _ hS4 w4.drew hr4).mono (fun e w' h => ⟨h.1, but_trans b4.drew h.2.1, h.2.2⟩)
  refine rN (x := M.getD 0 0) (y := M.getD 7 0) (R := (fun w' => But (fun k => k = g) w w' ∧ RW w' g (rnk (ord 6) M L 5) 73)) (by kernel_rfl) (by decide) (by rw [s4]; decide) (by decide) (by decide) e0_4 e1_4 ⟨hc 0 (by decide) w4 b4, hc 7 (by decide) w4 b4⟩ (fun _ _ => rfl) C4 (fun w' h => ⟨hc 0 (by decide) w' h.1, hc 7 (by decide) w' h.1⟩) (fun _ _ d _ _ h => by cases d <;> exact h) ?_
  intro a5 w5 s5 e0_5 e1_5 d5 r5
  obtain ⟨b5, hr5⟩ := r5
  rw [s4] at s5
  rw [d4] at d5
  have hS5 : S16 (rnk (ord 6) M L 5) := ⟨by rw [rnk_len]; exact hL.len, rnk_w hL.bd _ _ _⟩
  clear C4 b4 hr4 hS4 s4 d4 e0_4 e1_4
  have C5 : Calls Tryd.prog 43 #[.pointer (some ⟨g, 0, none⟩), .int .u32 ((M.getD 6 0 : Nat) : Int), .int .u32 ((M.getD 3 0 : Nat) : Int)] w5.drew fun e w' => e = .returned (.tuple #[]) ∧ (fun w' => But (fun k => k = g) w w' ∧ RW w' g (rnk (ord 6) M L 6) 73) w' := (diagonal1_any g (M.getD 6 0) (M.getD 3 0) (hx 6) (hx 3) _ hS5 w5.drew hr5).mono (fun e w' h => ⟨h.1, but_trans b5.drew h.2.1, h.2.2⟩)
  refine rN (x := M.getD 6 0) (y := M.getD 3 0) (R := (fun w' => But (fun k => k = g) w w' ∧ RW w' g (rnk (ord 6) M L 6) 73)) (by kernel_rfl) (by decide) (by rw [s5]; decide) (by decide) (by decide) e0_5 e1_5 ⟨hc 6 (by decide) w5 b5, hc 3 (by decide) w5 b5⟩ (fun _ _ => rfl) C5 (fun w' h => ⟨hc 6 (by decide) w' h.1, hc 3 (by decide) w' h.1⟩) (fun _ _ d _ _ h => by cases d <;> exact h) ?_
  intro a6 w6 s6 e0_6 e1_6 d6 r6
  obtain ⟨b6, hr6⟩ := r6
  rw [s5] at s6
  rw [d5] at d6
  have hS6 : S16 (rnk (ord 6) M L 6) := ⟨by rw [rnk_len]; exact hL.len, rnk_w hL.bd _ _ _⟩
  clear C5 b5 hr5 hS5 s5 d5 e0_5 e1_5
  have C6 : Calls Tryd.prog 44 #[.pointer (some ⟨g, 0, none⟩), .int .u32 ((M.getD 9 0 : Nat) : Int), .int .u32 ((M.getD 2 0 : Nat) : Int)] w6.drew fun e w' => e = .returned (.tuple #[]) ∧ (fun w' => But (fun k => k = g) w w' ∧ RW w' g (rnk (ord 6) M L 7) 73) w' := (diagonal2_any g (M.getD 9 0) (M.getD 2 0) (hx 9) (hx 2) _ hS6 w6.drew hr6).mono (fun e w' h => ⟨h.1, but_trans b6.drew h.2.1, h.2.2⟩)
  refine rN (x := M.getD 9 0) (y := M.getD 2 0) (R := (fun w' => But (fun k => k = g) w w' ∧ RW w' g (rnk (ord 6) M L 7) 73)) (by kernel_rfl) (by decide) (by rw [s6]; decide) (by decide) (by decide) e0_6 e1_6 ⟨hc 9 (by decide) w6 b6, hc 2 (by decide) w6 b6⟩ (fun _ _ => rfl) C6 (fun w' h => ⟨hc 9 (by decide) w' h.1, hc 2 (by decide) w' h.1⟩) (fun _ _ d _ _ h => by cases d <;> exact h) ?_
  intro a7 w7 s7 e0_7 e1_7 d7 r7
  obtain ⟨b7, hr7⟩ := r7
  rw [s6] at s7
  rw [d6] at d7
  have hS7 : S16 (rnk (ord 6) M L 7) := ⟨by rw [rnk_len]; exact hL.len, rnk_w hL.bd _ _ _⟩
  clear C6 b6 hr6 hS6 s6 d6 e0_6 e1_6
  have C7 : Calls Tryd.prog 45 #[.pointer (some ⟨g, 0, none⟩), .int .u32 ((M.getD 8 0 : Nat) : Int), .int .u32 ((M.getD 11 0 : Nat) : Int)] w7.drew fun e w' => e = .returned (.tuple #[]) ∧ (fun w' => But (fun k => k = g) w w' ∧ RW w' g (rnk (ord 6) M L 8) 73) w' := (diagonal3_any g (M.getD 8 0) (M.getD 11 0) (hx 8) (hx 11) _ hS7 w7.drew hr7).mono (fun e w' h => ⟨h.1, but_trans b7.drew h.2.1, h.2.2⟩)
  refine rG (x := M.getD 8 0) (y := M.getD 11 0) (R := (fun w' => But (fun k => k = g) w w' ∧ RW w' g (rnk (ord 6) M L 8) 73)) (by kernel_rfl) (by decide) (by rw [s7]; decide) (by decide) (by decide) e0_7 e1_7 ⟨hc 8 (by decide) w7 b7, hc 11 (by decide) w7 b7⟩ (fun _ _ => rfl) C7 (fun w' h => ⟨hc 8 (by decide) w' h.1, hc 11 (by decide) w' h.1⟩) (fun _ _ d _ _ h => by cases d <;> exact h) ?_
  intro a8 w8 s8 e0_8 e1_8 d8 r8
  obtain ⟨b8, hr8⟩ := r8
  rw [s7] at s8
  rw [d7] at d8
  have hS8 : S16 (rnk (ord 6) M L 8) := ⟨by rw [rnk_len]; exact hL.len, rnk_w hL.bd _ _ _⟩
  clear C7 b7 hr7 hS7 s7 d7 e0_7 e1_7
  exact bodyPost_end (results_none rfl _ _ _) d8 ⟨rfl, b8, hr8⟩
set_option maxRecDepth 100000 in
theorem round7_body : Tryd.f33.body = some (.seq (.region 0 (rO 4 38 13 11 "rounds.go:83") true) (.seq (.region 1 (rO 14 39 7 14 "rounds.go:84") true) (.seq (.region 2 (rO 24 40 12 1 "rounds.go:85") true) (.seq (.region 3 (rO 34 41 3 9 "rounds.go:86") true) (.seq (.region 4 (rO 44 42 5 0 "rounds.go:87") true) (.seq (.region 5 (rO 54 43 15 4 "rounds.go:88") true) (.seq (.region 6 (rO 64 44 8 6 "rounds.go:89") true) (.region 7 (rO 74 45 2 10 "rounds.go:90") true)))))))) := by kernel_rfl
set_option maxRecDepth 100000 in
set_option maxHeartbeats 8000000 in
theorem round7_any (g gm : Nat) (hgm : gm ≠ g) (L M : List Nat) (hL : S16 L) (hM : S16 M) (w : World) (h : RW w g L 73) (hm : RW w gm M 73) :
    Calls Tryd.prog 33 #[.pointer (some ⟨g, 0, none⟩), .pointer (some ⟨gm, 0, none⟩)] w fun e w' => e = .returned (.tuple #[]) ∧ But (fun k => k = g) w w' ∧ RW w' g (rnk (ord 7) M L 8) 73 := by
  have hc : ∀ i, i < 16 → ∀ Y, But (fun k => k = g) w Y → Y.cell? ⟨gm, i, none⟩ = some (.int .u32 ((M.getD i 0 : Nat) : Int)) := fun i hi Y hY => by
    rw [World.cell?_of_block (a := ⟨gm, i, none⟩) (hY.block gm hgm)]
    exact hm.cell (by rw [hM.len]; exact hi)
  have hx := fun i => hM.bd.at i
  have hS0 : S16 (rnk (ord 7) M L 0) := hL
  have hr0 : RW w g (rnk (ord 7) M L 0) 73 := h
  have b0 : But (fun k => k = g) w w := But.refl _ _
  refine calls_of_wp Tryd.func33 round7_body ?_
  obtain ⟨a0, ha⟩ : ∃ a : Act, a = { tmps := #[.pointer (some ⟨g, 0, none⟩), .pointer (some ⟨gm, 0, none⟩)] ++ Array.replicate (Tryd.f33.ntmps - #[Value.pointer (some ⟨g, 0, none⟩), .pointer (some ⟨gm, 0, none⟩)].size) undef, defers := [] } := ⟨_, rfl⟩
  rw [← ha]
  have s0 : a0.tmps.size = 84 := by rw [ha]; kernel_rfl
  have e0 : a0.eval (.tmp 0) = .pointer (some ⟨g, 0, none⟩) := by rw [ha]; kernel_rfl
  have e1 : a0.eval (.tmp 1) = .pointer (some ⟨gm, 0, none⟩) := by rw [ha]; kernel_rfl
  have d0 : a0.defers = [] := by rw [ha]
  clear ha
  have C0 : Calls Tryd.prog 38 #[.pointer (some ⟨g, 0, none⟩), .int .u32 ((M.getD 13 0 : Nat) : Int), .int .u32 ((M.getD 11 0 : Nat) : Int)] w.drew fun e w' => e = .returned (.tuple #[]) ∧ (fun w' => But (fun k => k = g) w w' ∧ RW w' g (rnk (ord 7) M L 1) 73) w' := (column0_any g (M.getD 13 0) (M.getD 11 0) (hx 13) (hx 11) _ hS0 w.drew hr0).mono (fun e w' h => ⟨h.1, but_trans b0.drew h.2.1, h.2.2⟩)
  refine rN (x := M.getD 13 0) (y := M.getD 11 0) (R := (fun w' => But (fun k => k = g) w w' ∧ RW w' g (rnk (ord 7) M L 1) 73)) (by kernel_rfl) (by decide) (by rw [s0]; decide) (by decide) (by decide) e0 e1 ⟨hc 13 (by decide) w b0, hc 11 (by decide) w b0⟩ (fun _ _ => rfl) C0 (fun w' h => ⟨hc 13 (by decide) w' h.1, hc 11 (by decide) w' h.1⟩) (fun _ _ d _ _ h => by cases d <;> exact h) ?_
  intro a1 w1 s1 e0_1 e1_1 d1 r1
  obtain ⟨b1, hr1⟩ := r1
  rw [s0] at s1
  rw [d0] at d1
  have hS1 : S16 (rnk (ord 7) M L 1) := ⟨by rw [rnk_len]; exact hL.len, rnk_w hL.bd _ _ _⟩
  clear C0 b0 hr0 hS0 s0 d0 e0 e1
  have C1 : Calls Tryd.prog 39 #[.pointer (some ⟨g, 0, none⟩), .int .u32 ((M.getD 7 0 : Nat) : Int), .int .u32 ((M.getD 14 0 : Nat) : Int)] w1.drew fun e w' => e = .returned (.tuple #[]) ∧ (fun w' => But (fun k => k = g) w w' ∧ RW w' g (rnk (ord 7) M L 2) 73) w' := (column1_any g (M.getD 7 0) (M.getD 14 0) (hx 7) (hx 14) _ hS1 w1.drew hr1).mono (fun e w' h => ⟨h.1, but_trans b1.drew h.2.1, h.2.2⟩)
  refine rN (x := M.getD 7 0) (y := M.getD 14 0) (R := (fun w' => But (fun k => k = g) w w' ∧ RW w' g (rnk (ord 7) M L 2) 73)) (by kernel_rfl) (by decide) (by rw [s1]; decide) (by decide) (by decide) e0_1 e1_1 ⟨hc 7 (by decide) w1 b1, hc 14 (by decide) w1 b1⟩ (fun _ _ => rfl) C1 (fun w' h => ⟨hc 7 (by decide) w' h.1, hc 14 (by decide) w' h.1⟩) (fun _ _ d _ _ h => by cases d <;> exact h) ?_
  intro a2 w2 s2 e0_2 e1_2 d2 r2
  obtain ⟨b2, hr2⟩ := r2
  rw [s1] at s2
  rw [d1] at d2
  have hS2 : S16 (rnk (ord 7) M L 2) := ⟨by rw [rnk_len]; exact hL.len, rnk_w hL.bd _ _ _⟩
  clear C1 b1 hr1 hS1 s1 d1 e0_1 e1_1
  have C2 : Calls Tryd.prog 40 #[.pointer (some ⟨g, 0, none⟩), .int .u32 ((M.getD 12 0 : Nat) : Int), .int .u32 ((M.getD 1 0 : Nat) : Int)] w2.drew fun e w' => e = .returned (.tuple #[]) ∧ (fun w' => But (fun k => k = g) w w' ∧ RW w' g (rnk (ord 7) M L 3) 73) w' := (column2_any g (M.getD 12 0) (M.getD 1 0) (hx 12) (hx 1) _ hS2 w2.drew hr2).mono (fun e w' h => ⟨h.1, but_trans b2.drew h.2.1, h.2.2⟩)
  refine rN (x := M.getD 12 0) (y := M.getD 1 0) (R := (fun w' => But (fun k => k = g) w w' ∧ RW w' g (rnk (ord 7) M L 3) 73)) (by kernel_rfl) (by decide) (by rw [s2]; decide) (by decide) (by decide) e0_2 e1_2 ⟨hc 12 (by decide) w2 b2, hc 1 (by decide) w2 b2⟩ (fun _ _ => rfl) C2 (fun w' h => ⟨hc 12 (by decide) w' h.1, hc 1 (by decide) w' h.1⟩) (fun _ _ d _ _ h => by cases d <;> exact h) ?_
  intro a3 w3 s3 e0_3 e1_3 d3 r3
  obtain ⟨b3, hr3⟩ := r3
  rw [s2] at s3
  rw [d2] at d3
  have hS3 : S16 (rnk (ord 7) M L 3) := ⟨by rw [rnk_len]; exact hL.len, rnk_w hL.bd _ _ _⟩
  clear C2 b2 hr2 hS2 s2 d2 e0_2 e1_2
  have C3 : Calls Tryd.prog 41 #[.pointer (some ⟨g, 0, none⟩), .int .u32 ((M.getD 3 0 : Nat) : Int), .int .u32 ((M.getD 9 0 : Nat) : Int)] w3.drew fun e w' => e = .returned (.tuple #[]) ∧ (fun w' => But (fun k => k = g) w w' ∧ RW w' g (rnk (ord 7) M L 4) 73) w' := (column3_any g (M.getD 3 0) (M.getD 9 0) (hx 3) (hx 9) _ hS3 w3.drew hr3).mono (fun e w' h => ⟨h.1, but_trans b3.drew h.2.1, h.2.2⟩)
  refine rN (x := M.getD 3 0) (y := M.getD 9 0) (R := (fun w' => But (fun k => k = g) w w' ∧ RW w' g (rnk (ord 7) M L 4) 73)) (by kernel_rfl) (by decide) (by rw [s3]; decide) (by decide) (by decide) e0_3 e1_3 ⟨hc 3 (by decide) w3 b3, hc 9 (by decide) w3 b3⟩ (fun _ _ => rfl) C3 (fun w' h => ⟨hc 3 (by decide) w' h.1, hc 9 (by decide) w' h.1⟩) (fun _ _ d _ _ h => by cases d <;> exact h) ?_
  intro a4 w4 s4 e0_4 e1_4 d4 r4
  obtain ⟨b4, hr4⟩ := r4
  rw [s3] at s4
  rw [d3] at d4
  have hS4 : S16 (rnk (ord 7) M L 4) := ⟨by rw [rnk_len]; exact hL.len, rnk_w hL.bd _ _ _⟩
  clear C3 b3 hr3 hS3 s3 d3 e0_3 e1_3
  have C4 : Calls Tryd.prog 42 #[.pointer (some ⟨g, 0, none⟩), .int .u32 ((M.getD 5 0 : Nat) : Int), .int .u32 ((M.getD 0 0 : Nat) : Int)] w4.drew fun e w' => e = .returned (.tuple #[]) ∧ (fun w' => But (fun k => k = g) w w' ∧ RW w' g (rnk (ord 7) M L 5) 73) w' := (diagonal0_any g (M.getD 5 0) (M.getD 0 0) (hx 5) (hx 0) _ hS4 w4.drew hr4).mono (fun e w' h => ⟨h.1, but_trans b4.drew h.2.1, h.2.2⟩)
  refine rN (x := M.getD 5 0) (y := M.getD 0 0) (R := (fun w' => But (fun k => k = g) w w' ∧ RW w' g (rnk (ord 7) M L 5) 73)) (by kernel_rfl) (by decide) (by rw [s4]; decide) (by decide) (by decide) e0_4 e1_4 ⟨hc 5 (by decide) w4 b4, hc 0 (by decide) w4 b4⟩ (fun _ _ => rfl) C4 (fun w' h => ⟨hc 5 (by decide) w' h.1, hc 0 (by decide) w' h.1⟩) (fun _ _ d _ _ h => by cases d <;> exact h) ?_
  intro a5 w5 s5 e0_5 e1_5 d5 r5
  obtain ⟨b5, hr5⟩ := r5
  rw [s4] at s5
  rw [d4] at d5
  have hS5 : S16 (rnk (ord 7) M L 5) := ⟨by rw [rnk_len]; exact hL.len, rnk_w hL.bd _ _ _⟩
  clear C4 b4 hr4 hS4 s4 d4 e0_4 e1_4
  have C5 : Calls Tryd.prog 43 #[.pointer (some ⟨g, 0, none⟩), .int .u32 ((M.getD 15 0 : Nat) : Int), .int .u32 ((M.getD 4 0 : Nat) : Int)] w5.drew fun e w' => e = .returned (.tuple #[]) ∧ (fun w' => But (fun k => k = g) w w' ∧ RW w' g (rnk (ord 7) M L 6) 73) w' := (diagonal1_any g (M.getD 15 0) (M.getD 4 0) (hx 15) (hx 4) _ hS5 w5.drew hr5).mono (fun e w' h => ⟨h.1, but_trans b5.drew h.2.1, h.2.2⟩)
  refine rN (x := M.getD 15 0) (y := M.getD 4 0) (R := (fun w' => But (fun k => k = g) w w' ∧ RW w' g (rnk (ord 7) M L 6) 73)) (by kernel_rfl) (by decide) (by rw [s5]; decide) (by decide) (by decide) e0_5 e1_5 ⟨hc 15 (by decide) w5 b5, hc 4 (by decide) w5 b5⟩ (fun _ _ => rfl) C5 (fun w' h => ⟨hc 15 (by decide) w' h.1, hc 4 (by decide) w' h.1⟩) (fun _ _ d _ _ h => by cases d <;> exact h) ?_
  intro a6 w6 s6 e0_6 e1_6 d6 r6
  obtain ⟨b6, hr6⟩ := r6
  rw [s5] at s6
  rw [d5] at d6
  have hS6 : S16 (rnk (ord 7) M L 6) := ⟨by rw [rnk_len]; exact hL.len, rnk_w hL.bd _ _ _⟩
  clear C5 b5 hr5 hS5 s5 d5 e0_5 e1_5
  have C6 : Calls Tryd.prog 44 #[.pointer (some ⟨g, 0, none⟩), .int .u32 ((M.getD 8 0 : Nat) : Int), .int .u32 ((M.getD 6 0 : Nat) : Int)] w6.drew fun e w' => e = .returned (.tuple #[]) ∧ (fun w' => But (fun k => k = g) w w' ∧ RW w' g (rnk (ord 7) M L 7) 73) w' := (diagonal2_any g (M.getD 8 0) (M.getD 6 0) (hx 8) (hx 6) _ hS6 w6.drew hr6).mono (fun e w' h => ⟨h.1, but_trans b6.drew h.2.1, h.2.2⟩)
  refine rN (x := M.getD 8 0) (y := M.getD 6 0) (R := (fun w' => But (fun k => k = g) w w' ∧ RW w' g (rnk (ord 7) M L 7) 73)) (by kernel_rfl) (by decide) (by rw [s6]; decide) (by decide) (by decide) e0_6 e1_6 ⟨hc 8 (by decide) w6 b6, hc 6 (by decide) w6 b6⟩ (fun _ _ => rfl) C6 (fun w' h => ⟨hc 8 (by decide) w' h.1, hc 6 (by decide) w' h.1⟩) (fun _ _ d _ _ h => by cases d <;> exact h) ?_
  intro a7 w7 s7 e0_7 e1_7 d7 r7
  obtain ⟨b7, hr7⟩ := r7
  rw [s6] at s7
  rw [d6] at d7
  have hS7 : S16 (rnk (ord 7) M L 7) := ⟨by rw [rnk_len]; exact hL.len, rnk_w hL.bd _ _ _⟩
  clear C6 b6 hr6 hS6 s6 d6 e0_6 e1_6
  have C7 : Calls Tryd.prog 45 #[.pointer (some ⟨g, 0, none⟩), .int .u32 ((M.getD 2 0 : Nat) : Int), .int .u32 ((M.getD 10 0 : Nat) : Int)] w7.drew fun e w' => e = .returned (.tuple #[]) ∧ (fun w' => But (fun k => k = g) w w' ∧ RW w' g (rnk (ord 7) M L 8) 73) w' := (diagonal3_any g (M.getD 2 0) (M.getD 10 0) (hx 2) (hx 10) _ hS7 w7.drew hr7).mono (fun e w' h => ⟨h.1, but_trans b7.drew h.2.1, h.2.2⟩)
  refine rG (x := M.getD 2 0) (y := M.getD 10 0) (R := (fun w' => But (fun k => k = g) w w' ∧ RW w' g (rnk (ord 7) M L 8) 73)) (by kernel_rfl) (by decide) (by rw [s7]; decide) (by decide) (by decide) e0_7 e1_7 ⟨hc 2 (by decide) w7 b7, hc 10 (by decide) w7 b7⟩ (fun _ _ => rfl) C7 (fun w' h => ⟨hc 2 (by decide) w' h.1, hc 10 (by decide) w' h.1⟩) (fun _ _ d _ _ h => by cases d <;> exact h) ?_
  intro a8 w8 s8 e0_8 e1_8 d8 r8
  obtain ⟨b8, hr8⟩ := r8
  rw [s7] at s8
  rw [d7] at d8
  have hS8 : S16 (rnk (ord 7) M L 8) := ⟨by rw [rnk_len]; exact hL.len, rnk_w hL.bd _ _ _⟩
  clear C7 b7 hr7 hS7 s7 d7 e0_7 e1_7
  exact bodyPost_end (results_none rfl _ _ _) d8 ⟨rfl, b8, hr8⟩
set_option maxRecDepth 100000 in
theorem round8_body : Tryd.f34.body = some (.seq (.region 0 (rO 4 38 6 15 "rounds.go:94") true) (.seq (.region 1 (rO 14 39 14 9 "rounds.go:95") true) (.seq (.region 2 (rO 24 40 11 3 "rounds.go:96") true) (.seq (.region 3 (rO 34 41 0 8 "rounds.go:97") true) (.seq (.region 4 (rO 44 42 12 2 "rounds.go:98") true) (.seq (.region 5 (rO 54 43 13 7 "rounds.go:99") true) (.seq (.region 6 (rO 64 44 1 4 "rounds.go:100") true) (.region 7 (rO 74 45 10 5 "rounds.go:101") true)))))))) := by kernel_rfl
set_option maxRecDepth 100000 in
set_option maxHeartbeats 8000000 in
theorem round8_any (g gm : Nat) (hgm : gm ≠ g) (L M : List Nat) (hL : S16 L) (hM : S16 M) (w : World) (h : RW w g L 73) (hm : RW w gm M 73) :
    Calls Tryd.prog 34 #[.pointer (some ⟨g, 0, none⟩), .pointer (some ⟨gm, 0, none⟩)] w fun e w' => e = .returned (.tuple #[]) ∧ But (fun k => k = g) w w' ∧ RW w' g (rnk (ord 8) M L 8) 73 := by
  have hc : ∀ i, i < 16 → ∀ Y, But (fun k => k = g) w Y → Y.cell? ⟨gm, i, none⟩ = some (.int .u32 ((M.getD i 0 : Nat) : Int)) := fun i hi Y hY => by
    rw [World.cell?_of_block (a := ⟨gm, i, none⟩) (hY.block gm hgm)]
    exact hm.cell (by rw [hM.len]; exact hi)
  have hx := fun i => hM.bd.at i
  have hS0 : S16 (rnk (ord 8) M L 0) := hL
  have hr0 : RW w g (rnk (ord 8) M L 0) 73 := h
  have b0 : But (fun k => k = g) w w := But.refl _ _
  refine calls_of_wp Tryd.func34 round8_body ?_
  obtain ⟨a0, ha⟩ : ∃ a : Act, a = { tmps := #[.pointer (some ⟨g, 0, none⟩), .pointer (some ⟨gm, 0, none⟩)] ++ Array.replicate (Tryd.f34.ntmps - #[Value.pointer (some ⟨g, 0, none⟩), .pointer (some ⟨gm, 0, none⟩)].size) undef, defers := [] } := ⟨_, rfl⟩
  rw [← ha]
  have s0 : a0.tmps.size = 84 := by rw [ha]; kernel_rfl
  have e0 : a0.eval (.tmp 0) = .pointer (some ⟨g, 0, none⟩) := by rw [ha]; kernel_rfl
  have e1 : a0.eval (.tmp 1) = .pointer (some ⟨gm, 0, none⟩) := by rw [ha]; kernel_rfl
  have d0 : a0.defers = [] := by rw [ha]
  clear ha
  have C0 : Calls Tryd.prog 38 #[.pointer (some ⟨g, 0, none⟩), .int .u32 ((M.getD 6 0 : Nat) : Int), .int .u32 ((M.getD 15 0 : Nat) : Int)] w.drew fun e w' => e = .returned (.tuple #[]) ∧ (fun w' => But (fun k => k = g) w w' ∧ RW w' g (rnk (ord 8) M L 1) 73) w' := (column0_any g (M.getD 6 0) (M.getD 15 0) (hx 6) (hx 15) _ hS0 w.drew hr0).mono (fun e w' h => ⟨h.1, but_trans b0.drew h.2.1, h.2.2⟩)
  refine rN (x := M.getD 6 0) (y := M.getD 15 0) (R := (fun w' => But (fun k => k = g) w w' ∧ RW w' g (rnk (ord 8) M L 1) 73)) (by kernel_rfl) (by decide) (by rw [s0]; decide) (by decide) (by decide) e0 e1 ⟨hc 6 (by decide) w b0, hc 15 (by decide) w b0⟩ (fun _ _ => rfl) C0 (fun w' h => ⟨hc 6 (by decide) w' h.1, hc 15 (by decide) w' h.1⟩) (fun _ _ d _ _ h => by cases d <;> exact h) ?_
  intro a1 w1 s1 e0_1 e1_1 d1 r1
  obtain ⟨b1, hr1⟩ := r1
  rw [s0] at s1
  rw [d0] at d1
  have hS1 : S16 (rnk (ord 8) M L 1) := ⟨by rw [rnk_len]; exact hL.len, rnk_w hL.bd _ _ _⟩
  clear C0 b0 hr0 hS0 s0 d0 e0 e1
  have C1 : Calls Tryd.prog 39 #[.pointer (some ⟨g, 0, none⟩), .int .u32 ((M.getD 14 0 : Nat) : Int), .int .u32 ((M.getD 9 0 : Nat) : Int)] w1.drew fun e w' => e = .returned (.tuple #[]) ∧ (fun w' => But (fun k => k = g) w w' ∧ RW w' g (rnk (ord 8) M L 2) 73) w' := (column1_any g (M.getD 14 0) (M.getD 9 0) (hx 14) (hx 9) _ hS1 w1.drew hr1).mono (fun e w' h => ⟨h.1, but_trans b1.drew h.2.1, h.2.2⟩)
  refine rN (x := M.getD 14 0) (y := M.getD 9 0) (R := (fun w' => But (fun k => k = g) w w' ∧ RW w' g (rnk (ord 8) M L 2) 73)) (by kernel_rfl) (by decide) (by rw [s1]; decide) (by decide) (by decide) e0_1 e1_1 ⟨hc 14 (by decide) w1 b1, hc 9 (by decide) w1 b1⟩ (fun _ _ => rfl) C1 (fun w' h => ⟨hc 14 (by decide) w' h.1, hc 9 (by decide) w' h.1⟩) (fun _ _ d _ _ h => by cases d <;> exact h) ?_
  intro a2 w2 s2 e0_2 e1_2 d2 r2
  obtain ⟨b2, hr2⟩ := r2
  rw [s1] at s2
  rw [d1] at d2
  have hS2 : S16 (rnk (ord 8) M L 2) := ⟨by rw [rnk_len]; exact hL.len, rnk_w hL.bd _ _ _⟩
  clear C1 b1 hr1 hS1 s1 d1 e0_1 e1_1
  have C2 : Calls Tryd.prog 40 #[.pointer (some ⟨g, 0, none⟩), .int .u32 ((M.getD 11 0 : Nat) : Int), .int .u32 ((M.getD 3 0 : Nat) : Int)] w2.drew fun e w' => e = .returned (.tuple #[]) ∧ (fun w' => But (fun k => k = g) w w' ∧ RW w' g (rnk (ord 8) M L 3) 73) w' := (column2_any g (M.getD 11 0) (M.getD 3 0) (hx 11) (hx 3) _ hS2 w2.drew hr2).mono (fun e w' h => ⟨h.1, but_trans b2.drew h.2.1, h.2.2⟩)
  refine rN (x := M.getD 11 0) (y := M.getD 3 0) (R := (fun w' => But (fun k => k = g) w w' ∧ RW w' g (rnk (ord 8) M L 3) 73)) (by kernel_rfl) (by decide) (by rw [s2]; decide) (by decide) (by decide) e0_2 e1_2 ⟨hc 11 (by decide) w2 b2, hc 3 (by decide) w2 b2⟩ (fun _ _ => rfl) C2 (fun w' h => ⟨hc 11 (by decide) w' h.1, hc 3 (by decide) w' h.1⟩) (fun _ _ d _ _ h => by cases d <;> exact h) ?_
  intro a3 w3 s3 e0_3 e1_3 d3 r3
  obtain ⟨b3, hr3⟩ := r3
  rw [s2] at s3
  rw [d2] at d3
  have hS3 : S16 (rnk (ord 8) M L 3) := ⟨by rw [rnk_len]; exact hL.len, rnk_w hL.bd _ _ _⟩
  clear C2 b2 hr2 hS2 s2 d2 e0_2 e1_2
  have C3 : Calls Tryd.prog 41 #[.pointer (some ⟨g, 0, none⟩), .int .u32 ((M.getD 0 0 : Nat) : Int), .int .u32 ((M.getD 8 0 : Nat) : Int)] w3.drew fun e w' => e = .returned (.tuple #[]) ∧ (fun w' => But (fun k => k = g) w w' ∧ RW w' g (rnk (ord 8) M L 4) 73) w' := (column3_any g (M.getD 0 0) (M.getD 8 0) (hx 0) (hx 8) _ hS3 w3.drew hr3).mono (fun e w' h => ⟨h.1, but_trans b3.drew h.2.1, h.2.2⟩)
  refine rN (x := M.getD 0 0) (y := M.getD 8 0) (R := (fun w' => But (fun k => k = g) w w' ∧ RW w' g (rnk (ord 8) M L 4) 73)) (by kernel_rfl) (by decide) (by rw [s3]; decide) (by decide) (by decide) e0_3 e1_3 ⟨hc 0 (by decide) w3 b3, hc 8 (by decide) w3 b3⟩ (fun _ _ => rfl) C3 (fun w' h => ⟨hc 0 (by decide) w' h.1, hc 8 (by decide) w' h.1⟩) (fun _ _ d _ _ h => by cases d <;> exact h) ?_
  intro a4 w4 s4 e0_4 e1_4 d4 r4
  obtain ⟨b4, hr4⟩ := r4
  rw [s3] at s4
  rw [d3] at d4
  have hS4 : S16 (rnk (ord 8) M L 4) := ⟨by rw [rnk_len]; exact hL.len, rnk_w hL.bd _ _ _⟩
  clear C3 b3 hr3 hS3 s3 d3 e0_3 e1_3
  have C4 : Calls Tryd.prog 42 #[.pointer (some ⟨g, 0, none⟩), .int .u32 ((M.getD 12 0 : Nat) : Int), .int .u32 ((M.getD 2 0 : Nat) : Int)] w4.drew fun e w' => e = .returned (.tuple #[]) ∧ (fun w' => But (fun k => k = g) w w' ∧ RW w' g (rnk (ord 8) M L 5) 73) w' := (diagonal0_any g (M.getD 12 0) (M.getD 2 0) (hx 12) (hx 2) _ hS4 w4.drew hr4).mono (fun e w' h => ⟨h.1, but_trans b4.drew h.2.1, h.2.2⟩)
  refine rN (x := M.getD 12 0) (y := M.getD 2 0) (R := (fun w' => But (fun k => k = g) w w' ∧ RW w' g (rnk (ord 8) M L 5) 73)) (by kernel_rfl) (by decide) (by rw [s4]; decide) (by decide) (by decide) e0_4 e1_4 ⟨hc 12 (by decide) w4 b4, hc 2 (by decide) w4 b4⟩ (fun _ _ => rfl) C4 (fun w' h => ⟨hc 12 (by decide) w' h.1, hc 2 (by decide) w' h.1⟩) (fun _ _ d _ _ h => by cases d <;> exact h) ?_
  intro a5 w5 s5 e0_5 e1_5 d5 r5
  obtain ⟨b5, hr5⟩ := r5
  rw [s4] at s5
  rw [d4] at d5
  have hS5 : S16 (rnk (ord 8) M L 5) := ⟨by rw [rnk_len]; exact hL.len, rnk_w hL.bd _ _ _⟩
  clear C4 b4 hr4 hS4 s4 d4 e0_4 e1_4
  have C5 : Calls Tryd.prog 43 #[.pointer (some ⟨g, 0, none⟩), .int .u32 ((M.getD 13 0 : Nat) : Int), .int .u32 ((M.getD 7 0 : Nat) : Int)] w5.drew fun e w' => e = .returned (.tuple #[]) ∧ (fun w' => But (fun k => k = g) w w' ∧ RW w' g (rnk (ord 8) M L 6) 73) w' := (diagonal1_any g (M.getD 13 0) (M.getD 7 0) (hx 13) (hx 7) _ hS5 w5.drew hr5).mono (fun e w' h => ⟨h.1, but_trans b5.drew h.2.1, h.2.2⟩)
  refine rN (x := M.getD 13 0) (y := M.getD 7 0) (R := (fun w' => But (fun k => k = g) w w' ∧ RW w' g (rnk (ord 8) M L 6) 73)) (by kernel_rfl) (by decide) (by rw [s5]; decide) (by decide) (by decide) e0_5 e1_5 ⟨hc 13 (by decide) w5 b5, hc 7 (by decide) w5 b5⟩ (fun _ _ => rfl) C5 (fun w' h => ⟨hc 13 (by decide) w' h.1, hc 7 (by decide) w' h.1⟩) (fun _ _ d _ _ h => by cases d <;> exact h) ?_
  intro a6 w6 s6 e0_6 e1_6 d6 r6
  obtain ⟨b6, hr6⟩ := r6
  rw [s5] at s6
  rw [d5] at d6
  have hS6 : S16 (rnk (ord 8) M L 6) := ⟨by rw [rnk_len]; exact hL.len, rnk_w hL.bd _ _ _⟩
  clear C5 b5 hr5 hS5 s5 d5 e0_5 e1_5
  have C6 : Calls Tryd.prog 44 #[.pointer (some ⟨g, 0, none⟩), .int .u32 ((M.getD 1 0 : Nat) : Int), .int .u32 ((M.getD 4 0 : Nat) : Int)] w6.drew fun e w' => e = .returned (.tuple #[]) ∧ (fun w' => But (fun k => k = g) w w' ∧ RW w' g (rnk (ord 8) M L 7) 73) w' := (diagonal2_any g (M.getD 1 0) (M.getD 4 0) (hx 1) (hx 4) _ hS6 w6.drew hr6).mono (fun e w' h => ⟨h.1, but_trans b6.drew h.2.1, h.2.2⟩)
  refine rN (x := M.getD 1 0) (y := M.getD 4 0) (R := (fun w' => But (fun k => k = g) w w' ∧ RW w' g (rnk (ord 8) M L 7) 73)) (by kernel_rfl) (by decide) (by rw [s6]; decide) (by decide) (by decide) e0_6 e1_6 ⟨hc 1 (by decide) w6 b6, hc 4 (by decide) w6 b6⟩ (fun _ _ => rfl) C6 (fun w' h => ⟨hc 1 (by decide) w' h.1, hc 4 (by decide) w' h.1⟩) (fun _ _ d _ _ h => by cases d <;> exact h) ?_
  intro a7 w7 s7 e0_7 e1_7 d7 r7
  obtain ⟨b7, hr7⟩ := r7
  rw [s6] at s7
  rw [d6] at d7
  have hS7 : S16 (rnk (ord 8) M L 7) := ⟨by rw [rnk_len]; exact hL.len, rnk_w hL.bd _ _ _⟩
  clear C6 b6 hr6 hS6 s6 d6 e0_6 e1_6
  have C7 : Calls Tryd.prog 45 #[.pointer (some ⟨g, 0, none⟩), .int .u32 ((M.getD 10 0 : Nat) : Int), .int .u32 ((M.getD 5 0 : Nat) : Int)] w7.drew fun e w' => e = .returned (.tuple #[]) ∧ (fun w' => But (fun k => k = g) w w' ∧ RW w' g (rnk (ord 8) M L 8) 73) w' := (diagonal3_any g (M.getD 10 0) (M.getD 5 0) (hx 10) (hx 5) _ hS7 w7.drew hr7).mono (fun e w' h => ⟨h.1, but_trans b7.drew h.2.1, h.2.2⟩)
  refine rG (x := M.getD 10 0) (y := M.getD 5 0) (R := (fun w' => But (fun k => k = g) w w' ∧ RW w' g (rnk (ord 8) M L 8) 73)) (by kernel_rfl) (by decide) (by rw [s7]; decide) (by decide) (by decide) e0_7 e1_7 ⟨hc 10 (by decide) w7 b7, hc 5 (by decide) w7 b7⟩ (fun _ _ => rfl) C7 (fun w' h => ⟨hc 10 (by decide) w' h.1, hc 5 (by decide) w' h.1⟩) (fun _ _ d _ _ h => by cases d <;> exact h) ?_
  intro a8 w8 s8 e0_8 e1_8 d8 r8
  obtain ⟨b8, hr8⟩ := r8
  rw [s7] at s8
  rw [d7] at d8
  have hS8 : S16 (rnk (ord 8) M L 8) := ⟨by rw [rnk_len]; exact hL.len, rnk_w hL.bd _ _ _⟩
  clear C7 b7 hr7 hS7 s7 d7 e0_7 e1_7
  exact bodyPost_end (results_none rfl _ _ _) d8 ⟨rfl, b8, hr8⟩
set_option maxRecDepth 100000 in
theorem round9_body : Tryd.f35.body = some (.seq (.region 0 (rO 4 38 10 2 "rounds.go:105") true) (.seq (.region 1 (rO 14 39 8 4 "rounds.go:106") true) (.seq (.region 2 (rO 24 40 7 6 "rounds.go:107") true) (.seq (.region 3 (rO 34 41 1 5 "rounds.go:108") true) (.seq (.region 4 (rO 44 42 15 11 "rounds.go:109") true) (.seq (.region 5 (rO 54 43 9 14 "rounds.go:110") true) (.seq (.region 6 (rO 64 44 3 12 "rounds.go:111") true) (.region 7 (rO 74 45 13 0 "rounds.go:112") true)))))))) := by kernel_rfl
set_option maxRecDepth 100000 in
set_option maxHeartbeats 8000000 in
theorem round9_any (g gm : Nat) (hgm : gm ≠ g) (L M : List Nat) (hL : S16 L) (hM : S16 M) (w : World) (h : RW w g L 73) (hm : RW w gm M 73) :
    Calls Tryd.prog 35 #[.pointer (some ⟨g, 0, none⟩), .pointer (some ⟨gm, 0, none⟩)] w fun e w' => e = .returned (.tuple #[]) ∧ But (fun k => k = g) w w' ∧ RW w' g (rnk (ord 9) M L 8) 73 := by
  have hc : ∀ i, i < 16 → ∀ Y, But (fun k => k = g) w Y → Y.cell? ⟨gm, i, none⟩ = some (.int .u32 ((M.getD i 0 : Nat) : Int)) := fun i hi Y hY => by
    rw [World.cell?_of_block (a := ⟨gm, i, none⟩) (hY.block gm hgm)]
    exact hm.cell (by rw [hM.len]; exact hi)
  have hx := fun i => hM.bd.at i
  have hS0 : S16 (rnk (ord 9) M L 0) := hL
  have hr0 : RW w g (rnk (ord 9) M L 0) 73 := h
  have b0 : But (fun k => k = g) w w := But.refl _ _
  refine calls_of_wp Tryd.func35 round9_body ?_
  obtain ⟨a0, ha⟩ : ∃ a : Act, a = { tmps := #[.pointer (some ⟨g, 0, none⟩), .pointer (some ⟨gm, 0, none⟩)] ++ Array.replicate (Tryd.f35.ntmps - #[Value.pointer (some ⟨g, 0, none⟩), .pointer (some ⟨gm, 0, none⟩)].size) undef, defers := [] } := ⟨_, rfl⟩
  rw [← ha]
  have s0 : a0.tmps.size = 84 := by rw [ha]; kernel_rfl
  have e0 : a0.eval (.tmp 0) = .pointer (some ⟨g, 0, none⟩) := by rw [ha]; kernel_rfl
  have e1 : a0.eval (.tmp 1) = .pointer (some ⟨gm, 0, none⟩) := by rw [ha]; kernel_rfl
  have d0 : a0.defers = [] := by rw [ha]
  clear ha
  have C0 : Calls Tryd.prog 38 #[.pointer (some ⟨g, 0, none⟩), .int .u32 ((M.getD 10 0 : Nat) : Int), .int .u32 ((M.getD 2 0 : Nat) : Int)] w.drew fun e w' => e = .returned (.tuple #[]) ∧ (fun w' => But (fun k => k = g) w w' ∧ RW w' g (rnk (ord 9) M L 1) 73) w' := (column0_any g (M.getD 10 0) (M.getD 2 0) (hx 10) (hx 2) _ hS0 w.drew hr0).mono (fun e w' h => ⟨h.1, but_trans b0.drew h.2.1, h.2.2⟩)
  refine rN (x := M.getD 10 0) (y := M.getD 2 0) (R := (fun w' => But (fun k => k = g) w w' ∧ RW w' g (rnk (ord 9) M L 1) 73)) (by kernel_rfl) (by decide) (by rw [s0]; decide) (by decide) (by decide) e0 e1 ⟨hc 10 (by decide) w b0, hc 2 (by decide) w b0⟩ (fun _ _ => rfl) C0 (fun w' h => ⟨hc 10 (by decide) w' h.1, hc 2 (by decide) w' h.1⟩) (fun _ _ d _ _ h => by cases d <;> exact h) ?_
  intro a1 w1 s1 e0_1 e1_1 d1 r1
  obtain ⟨b1, hr1⟩ := r1
  rw [s0] at s1
  rw [d0] at d1
  have hS1 : S16 (rnk (ord 9) M L 1) := ⟨by rw [rnk_len]; exact hL.len, rnk_w hL.bd _ _ _⟩
  clear C0 b0 hr0 hS0 s0 d0 e0 e1
  have C1 : Calls Tryd.prog 39 #[.pointer (some ⟨g, 0, none⟩), .int .u32 ((M.getD 8 0 : Nat) : Int), .int .u32 ((M.getD 4 0 : Nat) : Int)] w1.drew fun e w' => e = .returned (.tuple #[]) ∧ (fun w' => But (fun k => k = g) w w' ∧ RW w' g (rnk (ord 9) M L 2) 73) w' := (column1_any g (M.getD 8 0) (M.getD 4 0) (hx 8) (hx 4) _ hS1 w1.drew hr1).mono (fun e w' h => ⟨h.1, but_trans b1.drew h.2.1, h.2.2⟩)
  refine rN (x := M.getD 8 0) (y := M.getD 4 0) (R := (fun w' => But (fun k => k = g) w w' ∧ RW w' g (rnk (ord 9) M L 2) 73)) (by kernel_rfl) (by decide) (by rw [s1]; decide) (by decide) (by decide) e0_1 e1_1 ⟨hc 8 (by decide) w1 b1, hc 4 (by decide) w1 b1⟩ (fun _ _ => rfl) C1 (fun w' h => ⟨hc 8 (by decide) w' h.1, hc 4 (by decide) w' h.1⟩) (fun _ _ d _ _ h => by cases d <;> exact h) ?_
  intro a2 w2 s2 e0_2 e1_2 d2 r2
  obtain ⟨b2, hr2⟩ := r2
  rw [s1] at s2
  rw [d1] at d2
  have hS2 : S16 (rnk (ord 9) M L 2) := ⟨by rw [rnk_len]; exact hL.len, rnk_w hL.bd _ _ _⟩
  clear C1 b1 hr1 hS1 s1 d1 e0_1 e1_1
  have C2 : Calls Tryd.prog 40 #[.pointer (some ⟨g, 0, none⟩), .int .u32 ((M.getD 7 0 : Nat) : Int), .int .u32 ((M.getD 6 0 : Nat) : Int)] w2.drew fun e w' => e = .returned (.tuple #[]) ∧ (fun w' => But (fun k => k = g) w w' ∧ RW w' g (rnk (ord 9) M L 3) 73) w' := (column2_any g (M.getD 7 0) (M.getD 6 0) (hx 7) (hx 6) _ hS2 w2.drew hr2).mono (fun e w' h => ⟨h.1, but_trans b2.drew h.2.1, h.2.2⟩)
  refine rN (x := M.getD 7 0) (y := M.getD 6 0) (R := (fun w' => But (fun k => k = g) w w' ∧ RW w' g (rnk (ord 9) M L 3) 73)) (by kernel_rfl) (by decide) (by rw [s2]; decide) (by decide) (by decide) e0_2 e1_2 ⟨hc 7 (by decide) w2 b2, hc 6 (by decide) w2 b2⟩ (fun _ _ => rfl) C2 (fun w' h => ⟨hc 7 (by decide) w' h.1, hc 6 (by decide) w' h.1⟩) (fun _ _ d _ _ h => by cases d <;> exact h) ?_
  intro a3 w3 s3 e0_3 e1_3 d3 r3
  obtain ⟨b3, hr3⟩ := r3
  rw [s2] at s3
  rw [d2] at d3
  have hS3 : S16 (rnk (ord 9) M L 3) := ⟨by rw [rnk_len]; exact hL.len, rnk_w hL.bd _ _ _⟩
  clear C2 b2 hr2 hS2 s2 d2 e0_2 e1_2
  have C3 : Calls Tryd.prog 41 #[.pointer (some ⟨g, 0, none⟩), .int .u32 ((M.getD 1 0 : Nat) : Int), .int .u32 ((M.getD 5 0 : Nat) : Int)] w3.drew fun e w' => e = .returned (.tuple #[]) ∧ (fun w' => But (fun k => k = g) w w' ∧ RW w' g (rnk (ord 9) M L 4) 73) w' := (column3_any g (M.getD 1 0) (M.getD 5 0) (hx 1) (hx 5) _ hS3 w3.drew hr3).mono (fun e w' h => ⟨h.1, but_trans b3.drew h.2.1, h.2.2⟩)
  refine rN (x := M.getD 1 0) (y := M.getD 5 0) (R := (fun w' => But (fun k => k = g) w w' ∧ RW w' g (rnk (ord 9) M L 4) 73)) (by kernel_rfl) (by decide) (by rw [s3]; decide) (by decide) (by decide) e0_3 e1_3 ⟨hc 1 (by decide) w3 b3, hc 5 (by decide) w3 b3⟩ (fun _ _ => rfl) C3 (fun w' h => ⟨hc 1 (by decide) w' h.1, hc 5 (by decide) w' h.1⟩) (fun _ _ d _ _ h => by cases d <;> exact h) ?_
  intro a4 w4 s4 e0_4 e1_4 d4 r4
  obtain ⟨b4, hr4⟩ := r4
  rw [s3] at s4
  rw [d3] at d4
  have hS4 : S16 (rnk (ord 9) M L 4) := ⟨by rw [rnk_len]; exact hL.len, rnk_w hL.bd _ _ _⟩
  clear C3 b3 hr3 hS3 s3 d3 e0_3 e1_3
  have C4 : Calls Tryd.prog 42 #[.pointer (some ⟨g, 0, none⟩), .int .u32 ((M.getD 15 0 : Nat) : Int), .int .u32 ((M.getD 11 0 : Nat) : Int)] w4.drew fun e w' => e = .returned (.tuple #[]) ∧ (fun w' => But (fun k => k = g) w w' ∧ RW w' g (rnk (ord 9) M L 5) 73) w' := (diagonal0_any g (M.getD 15 0) (M.getD 11 0) (hx 15) (hx 11) _ hS4 w4.drew hr4).mono (fun e w' h => ⟨h.1, but_trans b4.drew h.2.1, h.2.2⟩)
  refine rN (x := M.getD 15 0) (y := M.getD 11 0) (R := (fun w' => But (fun k => k = g) w w' ∧ RW w' g (rnk (ord 9) M L 5) 73)) (by kernel_rfl) (by decide) (by rw [s4]; decide) (by decide) (by decide) e0_4 e1_4 ⟨hc 15 (by decide) w4 b4, hc 11 (by decide) w4 b4⟩ (fun _ _ => rfl) C4 (fun w' h => ⟨hc 15 (by decide) w' h.1, hc 11 (by decide) w' h.1⟩) (fun _ _ d _ _ h => by cases d <;> exact h) ?_
  intro a5 w5 s5 e0_5 e1_5 d5 r5
  obtain ⟨b5, hr5⟩ := r5
  rw [s4] at s5
  rw [d4] at d5
  have hS5 : S16 (rnk (ord 9) M L 5) := ⟨by rw [rnk_len]; exact hL.len, rnk_w hL.bd _ _ _⟩
  clear C4 b4 hr4 hS4 s4 d4 e0_4 e1_4
  have C5 : Calls Tryd.prog 43 #[.pointer (some ⟨g, 0, none⟩), .int .u32 ((M.getD 9 0 : Nat) : Int), .int .u32 ((M.getD 14 0 : Nat) : Int)] w5.drew fun e w' => e = .returned (.tuple #[]) ∧ (fun w' => But (fun k => k = g) w w' ∧ RW w' g (rnk (ord 9) M L 6) 73) w' := (diagonal1_any g (M.getD 9 0) (M.getD 14 0) (hx 9) (hx 14) _ hS5 w5.drew hr5).mono (fun e w' h => ⟨h.1, but_trans b5.drew h.2.1, h.2.2⟩)
  refine rN (x := M.getD 9 0) (y := M.getD 14 0) (R := (fun w' => But (fun k => k = g) w w' ∧ RW w' g (rnk (ord 9) M L 6) 73)) (by kernel_rfl) (by decide) (by rw [s5]; decide) (by decide) (by decide) e0_5 e1_5 ⟨hc 9 (by decide) w5 b5, hc 14 (by decide) w5 b5⟩ (fun _ _ => rfl) C5 (fun w' h => ⟨hc 9 (by decide) w' h.1, hc 14 (by decide) w' h.1⟩) (fun _ _ d _ _ h => by cases d <;> exact h) ?_
  intro a6 w6 s6 e0_6 e1_6 d6 r6
  obtain ⟨b6, hr6⟩ := r6
  rw [s5] at s6
  rw [d5] at d6
  have hS6 : S16 (rnk (ord 9) M L 6) := ⟨by rw [rnk_len]; exact hL.len, rnk_w hL.bd _ _ _⟩
  clear C5 b5 hr5 hS5 s5 d5 e0_5 e1_5
  have C6 : Calls Tryd.prog 44 #[.pointer (some ⟨g, 0, none⟩), .int .u32 ((M.getD 3 0 : Nat) : Int), .int .u32 ((M.getD 12 0 : Nat) : Int)] w6.drew fun e w' => e = .returned (.tuple #[]) ∧ (fun w' => But (fun k => k = g) w w' ∧ RW w' g (rnk (ord 9) M L 7) 73) w' := (diagonal2_any g (M.getD 3 0) (M.getD 12 0) (hx 3) (hx 12) _ hS6 w6.drew hr6).mono (fun e w' h => ⟨h.1, but_trans b6.drew h.2.1, h.2.2⟩)
  refine rN (x := M.getD 3 0) (y := M.getD 12 0) (R := (fun w' => But (fun k => k = g) w w' ∧ RW w' g (rnk (ord 9) M L 7) 73)) (by kernel_rfl) (by decide) (by rw [s6]; decide) (by decide) (by decide) e0_6 e1_6 ⟨hc 3 (by decide) w6 b6, hc 12 (by decide) w6 b6⟩ (fun _ _ => rfl) C6 (fun w' h => ⟨hc 3 (by decide) w' h.1, hc 12 (by decide) w' h.1⟩) (fun _ _ d _ _ h => by cases d <;> exact h) ?_
  intro a7 w7 s7 e0_7 e1_7 d7 r7
  obtain ⟨b7, hr7⟩ := r7
  rw [s6] at s7
  rw [d6] at d7
  have hS7 : S16 (rnk (ord 9) M L 7) := ⟨by rw [rnk_len]; exact hL.len, rnk_w hL.bd _ _ _⟩
  clear C6 b6 hr6 hS6 s6 d6 e0_6 e1_6
  have C7 : Calls Tryd.prog 45 #[.pointer (some ⟨g, 0, none⟩), .int .u32 ((M.getD 13 0 : Nat) : Int), .int .u32 ((M.getD 0 0 : Nat) : Int)] w7.drew fun e w' => e = .returned (.tuple #[]) ∧ (fun w' => But (fun k => k = g) w w' ∧ RW w' g (rnk (ord 9) M L 8) 73) w' := (diagonal3_any g (M.getD 13 0) (M.getD 0 0) (hx 13) (hx 0) _ hS7 w7.drew hr7).mono (fun e w' h => ⟨h.1, but_trans b7.drew h.2.1, h.2.2⟩)
  refine rG (x := M.getD 13 0) (y := M.getD 0 0) (R := (fun w' => But (fun k => k = g) w w' ∧ RW w' g (rnk (ord 9) M L 8) 73)) (by kernel_rfl) (by decide) (by rw [s7]; decide) (by decide) (by decide) e0_7 e1_7 ⟨hc 13 (by decide) w7 b7, hc 0 (by decide) w7 b7⟩ (fun _ _ => rfl) C7 (fun w' h => ⟨hc 13 (by decide) w' h.1, hc 0 (by decide) w' h.1⟩) (fun _ _ d _ _ h => by cases d <;> exact h) ?_
  intro a8 w8 s8 e0_8 e1_8 d8 r8
  obtain ⟨b8, hr8⟩ := r8
  rw [s7] at s8
  rw [d7] at d8
  have hS8 : S16 (rnk (ord 9) M L 8) := ⟨by rw [rnk_len]; exact hL.len, rnk_w hL.bd _ _ _⟩
  clear C7 b7 hr7 hS7 s7 d7 e0_7 e1_7
  exact bodyPost_end (results_none rfl _ _ _) d8 ⟨rfl, b8, hr8⟩
end Go.Proofs.YtfkbgodfcnmepabDoor
