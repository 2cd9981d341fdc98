import Derived.Test.YtfkbgodfcnmepabDoorDigC
namespace Go.Proofs.YtfkbgodfcnmepabDoor
set_option linter.unusedSimpArgs false
set_option linter.unusedVariables false
open Go.ChangeShapes Go.WideShapes Go.ChangeAt Go.RowKit Go.Pin Go.Str Go.Dig
theorem but_trans {S : Nat → Prop} {a b c : World} (h : But S a b) (k : But S b c) : But S a c :=
  ⟨k.os.trans h.os, k.tape.trans h.tape, k.output.trans h.output, k.size.trans h.size, fun i hi => (k.block i hi).trans (h.block i hi)⟩
theorem RW.but {w w' : World} {S : Nat → Prop} {g : Nat} {L : List Nat} {T : TypeId} (h : RW w g L T) (hb : But S w w') (hn : ¬ S g) : RW w' g L T := (hb.block g hn).trans h
structure S16 (s : List Nat) : Prop where
  len : s.length = 16
  bd : W32 s
theorem S16.mat {s : List Nat} (h : S16 s) (i j k m x y : Nat) : S16 (mat s i j k m x y) := ⟨by rw [mat_len, h.len], mat_w h.bd _ _ _ _ _ _⟩
set_option maxRecDepth 100000 in
set_option maxHeartbeats 4000000 in
theorem column0_any (g x y : Nat) (hx : x < 4294967296) (hy : y < 4294967296) (L : List Nat) (hL : S16 L) (w : World) (h : RW w g L 73) :
    Calls Tryd.prog 38 #[.pointer (some ⟨g, 0, none⟩), .int .u32 (x : Int), .int .u32 (y : Int)] w fun e w' => e = .returned (.tuple #[]) ∧ But (fun k => k = g) w w' ∧ RW w' g (mat L 0 4 8 12 x y) 73 := by
  have HC : Hid (∀ w', RW w' g L 73 → Calls Tryd.prog 47 #[.pointer (some ⟨g, 0, none⟩), .pointer (some ⟨g, 4, none⟩), .pointer (some ⟨g, 8, none⟩), .pointer (some ⟨g, 12, none⟩), .int .u32 (x : Int), .int .u32 (y : Int)] w' fun e w'' => e = .returned (.tuple #[]) ∧ But (fun k => k = g) w' w'' ∧ RW w'' g (mat L 0 4 8 12 x y) 73) :=
    fun w' h' => mix_any g 0 4 8 12 x y hx hy L 73 w' h' hL.bd (by rw [hL.len]; decide) (by rw [hL.len]; decide) (by rw [hL.len]; decide) (by rw [hL.len]; decide) (by decide) (by decide) (by decide) (by decide) (by decide) (by decide)
  have HW : Hid (RW w g L 73) := h
  clear h hx hy hL
  go_enter Tryd.func38, Tryd.ntmps38
  go_wp2
  go_region_with (go_at_call 47; refine (HC.out w.drew HW.out).mono ?_; rintro e w2 ⟨rfl, hb2, hr2⟩)
  have HN : Hid (But (fun k => k = g) w w2 ∧ RW w2 g (mat L 0 4 8 12 x y) 73) := ⟨but_trans (But.refl _ _).drew hb2, hr2⟩
  clear hb2 hr2
  go_wp2
  go_end0
  exact ⟨rfl, HN.out⟩
set_option maxRecDepth 100000 in
set_option maxHeartbeats 4000000 in
theorem column1_any (g x y : Nat) (hx : x < 4294967296) (hy : y < 4294967296) (L : List Nat) (hL : S16 L) (w : World) (h : RW w g L 73) :
    Calls Tryd.prog 39 #[.pointer (some ⟨g, 0, none⟩), .int .u32 (x : Int), .int .u32 (y : Int)] w fun e w' => e = .returned (.tuple #[]) ∧ But (fun k => k = g) w w' ∧ RW w' g (mat L 1 5 9 13 x y) 73 := by
  have HC : Hid (∀ w', RW w' g L 73 → Calls Tryd.prog 47 #[.pointer (some ⟨g, 1, none⟩), .pointer (some ⟨g, 5, none⟩), .pointer (some ⟨g, 9, none⟩), .pointer (some ⟨g, 13, none⟩), .int .u32 (x : Int), .int .u32 (y : Int)] w' fun e w'' => e = .returned (.tuple #[]) ∧ But (fun k => k = g) w' w'' ∧ RW w'' g (mat L 1 5 9 13 x y) 73) :=
    fun w' h' => mix_any g 1 5 9 13 x y hx hy L 73 w' h' hL.bd (by rw [hL.len]; decide) (by rw [hL.len]; decide) (by rw [hL.len]; decide) (by rw [hL.len]; decide) (by decide) (by decide) (by decide) (by decide) (by decide) (by decide)
  have HW : Hid (RW w g L 73) := h
  clear h hx hy hL
  go_enter Tryd.func39, Tryd.ntmps39
  go_wp2
  go_region_with (go_at_call 47; refine (HC.out w.drew HW.out).mono ?_; rintro e w2 ⟨rfl, hb2, hr2⟩)
  have HN : Hid (But (fun k => k = g) w w2 ∧ RW w2 g (mat L 1 5 9 13 x y) 73) := ⟨but_trans (But.refl _ _).drew hb2, hr2⟩
  clear hb2 hr2
  go_wp2
  go_end0
  exact ⟨rfl, HN.out⟩
set_option maxRecDepth 100000 in
set_option maxHeartbeats 4000000 in
theorem column2_any (g x y : Nat) (hx : x < 4294967296) (hy : y < 4294967296) (L : List Nat) (hL : S16 L) (w : World) (h : RW w g L 73) :
    Calls Tryd.prog 40 #[.pointer (some ⟨g, 0, none⟩), .int .u32 (x : Int), .int .u32 (y : Int)] w fun e w' => e = .returned (.tuple #[]) ∧ But (fun k => k = g) w w' ∧ RW w' g (mat L 2 6 10 14 x y) 73 := by
  have HC : Hid (∀ w', RW w' g L 73 → Calls Tryd.prog 47 #[.pointer (some ⟨g, 2, none⟩), .pointer (some ⟨g, 6, none⟩), .pointer (some ⟨g, 10, none⟩), .pointer (some ⟨g, 14, none⟩), .int .u32 (x : Int), .int .u32 (y : Int)] w' fun e w'' => e = .returned (.tuple #[]) ∧ But (fun k => k = g) w' w'' ∧ RW w'' g (mat L 2 6 10 14 x y) 73) :=
    fun w' h' => mix_any g 2 6 10 14 x y hx hy L 73 w' h' hL.bd (by rw [hL.len]; decide) (by rw [hL.len]; decide) (by rw [hL.len]; decide) (by rw [hL.len]; decide) (by decide) (by decide) (by decide) (by decide) (by decide) (by decide)
  have HW : Hid (RW w g L 73) := h
  clear h hx hy hL
  go_enter Tryd.func40, Tryd.ntmps40
  go_wp2
  go_region_with (go_at_call 47; refine (HC.out w.drew HW.out).mono ?_; rintro e w2 ⟨rfl, hb2, hr2⟩)
  have HN : Hid (But (fun k => k = g) w w2 ∧ RW w2 g (mat L 2 6 10 14 x y) 73) := ⟨but_trans (But.refl _ _).drew hb2, hr2⟩
  clear hb2 hr2
  go_wp2
  go_end0
  exact ⟨rfl, HN.out⟩
set_option maxRecDepth 100000 in
set_option maxHeartbeats 4000000 in
theorem column3_any (g x y : Nat) (hx : x < 4294967296) (hy : y < 4294967296) (L : List Nat) (hL : S16 L) (w : World) (h : RW w g L 73) :
    Calls Tryd.prog 41 #[.pointer (some ⟨g, 0, none⟩), .int .u32 (x : Int), .int .u32 (y : Int)] w fun e w' => e = .returned (.tuple #[]) ∧ But (fun k => k = g) w w' ∧ RW w' g (mat L 3 7 11 15 x y) 73 := by
  have HC : Hid (∀ w', RW w' g L 73 → Calls Tryd.prog 47 #[.pointer (some ⟨g, 3, none⟩), .pointer (some ⟨g, 7, none⟩), .pointer (some ⟨g, 11, none⟩), .pointer (some ⟨g, 15, none⟩), .int .u32 (x : Int), .int .u32 (y : Int)] w' fun e w'' => e = .returned (.tuple #[]) ∧ But (fun k => k = g) w' w'' ∧ RW w'' g (mat L 3 7 11 15 x y) 73) :=
    fun w' h' => mix_any g 3 7 11 15 x y hx hy L 73 w' h' hL.bd (by rw [hL.len]; decide) (by rw [hL.len]; decide) (by rw [hL.len]; decide) (by rw [hL.len]; decide) (by decide) (by decide) (by decide) (by decide) (by decide) (by decide)
  have HW : Hid (RW w g L 73) := h
  clear h hx hy hL
  go_enter Tryd.func41, Tryd.ntmps41
  go_wp2
  go_region_with (go_at_call 47; refine (HC.out w.drew HW.out).mono ?_; rintro e w2 ⟨rfl, hb2, hr2⟩)
  have HN : Hid (But (fun k => k = g) w w2 ∧ RW w2 g (mat L 3 7 11 15 x y) 73) := ⟨but_trans (But.refl _ _).drew hb2, hr2⟩
  clear hb2 hr2
  go_wp2
  go_end0
  exact ⟨rfl, HN.out⟩
set_option maxRecDepth 100000 in
set_option maxHeartbeats 4000000 in
theorem diagonal0_any (g x y : Nat) (hx : x < 4294967296) (hy : y < 4294967296) (L : List Nat) (hL : S16 L) (w : World) (h : RW w g L 73) :
    Calls Tryd.prog 42 #[.pointer (some ⟨g, 0, none⟩), .int .u32 (x : Int), .int .u32 (y : Int)] w fun e w' => e = .returned (.tuple #[]) ∧ But (fun k => k = g) w w' ∧ RW w' g (mat L 0 5 10 15 x y) 73 := by
  have HC : Hid (∀ w', RW w' g L 73 → Calls Tryd.prog 47 #[.pointer (some ⟨g, 0, none⟩), .pointer (some ⟨g, 5, none⟩), .pointer (some ⟨g, 10, none⟩), .pointer (some ⟨g, 15, none⟩), .int .u32 (x : Int), .int .u32 (y : Int)] w' fun e w'' => e = .returned (.tuple #[]) ∧ But (fun k => k = g) w' w'' ∧ RW w'' g (mat L 0 5 10 15 x y) 73) :=
    fun w' h' => mix_any g 0 5 10 15 x y hx hy L 73 w' h' hL.bd (by rw [hL.len]; decide) (by rw [hL.len]; decide) (by rw [hL.len]; decide) (by rw [hL.len]; decide) (by decide) (by decide) (by decide) (by decide) (by decide) (by decide)
  have HW : Hid (RW w g L 73) := h
  clear h hx hy hL
  go_enter Tryd.func42, Tryd.ntmps42
  go_wp2
  go_region_with (go_at_call 47; refine (HC.out w.drew HW.out).mono ?_; rintro e w2 ⟨rfl, hb2, hr2⟩)
  have HN : Hid (But (fun k => k = g) w w2 ∧ RW w2 g (mat L 0 5 10 15 x y) 73) := ⟨but_trans (But.refl _ _).drew hb2, hr2⟩
  clear hb2 hr2
  go_wp2
  go_end0
  exact ⟨rfl, HN.out⟩
set_option maxRecDepth 100000 in
set_option maxHeartbeats 4000000 in
theorem diagonal1_any (g x y : Nat) (hx : x < 4294967296) (hy : y < 4294967296) (L : List Nat) (hL : S16 L) (w : World) (h : RW w g L 73) :
    Calls Tryd.prog 43 #[.pointer (some ⟨g, 0, none⟩), .int .u32 (x : Int), .int .u32 (y : Int)] w fun e w' => e = .returned (.tuple #[]) ∧ But (fun k => k = g) w w' ∧ RW w' g (mat L 1 6 11 12 x y) 73 := by
  have HC : Hid (∀ w', RW w' g L 73 → Calls Tryd.prog 47 #[.pointer (some ⟨g, 1, none⟩), .pointer (some ⟨g, 6, none⟩), .pointer (some ⟨g, 11, none⟩), .pointer (some ⟨g, 12, none⟩), .int .u32 (x : Int), .int .u32 (y : Int)] w' fun e w'' => e = .returned (.tuple #[]) ∧ But (fun k => k = g) w' w'' ∧ RW w'' g (mat L 1 6 11 12 x y) 73) :=
    fun w' h' => mix_any g 1 6 11 12 x y hx hy L 73 w' h' hL.bd (by rw [hL.len]; decide) (by rw [hL.len]; decide) (by rw [hL.len]; decide) (by rw [hL.len]; decide) (by decide) (by decide) (by decide) (by decide) (by decide) (by decide)
  have HW : Hid (RW w g L 73) := h
  clear h hx hy hL
  go_enter Tryd.func43, Tryd.ntmps43
  go_wp2
  go_region_with (go_at_call 47; refine (HC.out w.drew HW.out).mono ?_; rintro e w2 ⟨rfl, hb2, hr2⟩)
  have HN : Hid (But (fun k => k = g) w w2 ∧ RW w2 g (mat L 1 6 11 12 x y) 73) := ⟨but_trans (But.refl _ _).drew hb2, hr2⟩
  clear hb2 hr2
  go_wp2
  go_end0
  exact ⟨rfl, HN.out⟩
set_option maxRecDepth 100000 in
set_option maxHeartbeats 4000000 in
theorem diagonal2_any (g x y : Nat) (hx : x < 4294967296) (hy : y < 4294967296) (L : List Nat) (hL : S16 L) (w : World) (h : RW w g L 73) :
    Calls Tryd.prog 44 #[.pointer (some ⟨g, 0, none⟩), .int .u32 (x : Int), .int .u32 (y : Int)] w fun e w' => e = .returned (.tuple #[]) ∧ But (fun k => k = g) w w' ∧ RW w' g (mat L 2 7 8 13 x y) 73 := by
  have HC : Hid (∀ w', RW w' g L 73 → Calls Tryd.prog 47 #[.pointer (some ⟨g, 2, none⟩), .pointer (some ⟨g, 7, none⟩), .pointer (some ⟨g, 8, none⟩), .pointer (some ⟨g, 13, none⟩), .int .u32 (x : Int), .int .u32 (y : Int)] w' fun e w'' => e = .returned (.tuple #[]) ∧ But (fun k => k = g) w' w'' ∧ RW w'' g (mat L 2 7 8 13 x y) 73) :=
    fun w' h' => mix_any g 2 7 8 13 x y hx hy L 73 w' h' hL.bd (by rw [hL.len]; decide) (by rw [hL.len]; decide) (by rw [hL.len]; decide) (by rw [hL.len]; decide) (by decide) (by decide) (by decide) (by decide) (by decide) (by decide)
  have HW : Hid (RW w g L 73) := h
  clear h hx hy hL
  go_enter Tryd.func44, Tryd.ntmps44
  go_wp2
  go_region_with (go_at_call 47; refine (HC.out w.drew HW.out).mono ?_; rintro e w2 ⟨rfl, hb2, hr2⟩)
  have HN : Hid (But (fun k => k = g) w w2 ∧ RW w2 g (mat L 2 7 8 13 x y) 73) := ⟨but_trans (But.refl _ _).drew hb2, hr2⟩
  clear hb2 hr2
  go_wp2
  go_end0
  exact ⟨rfl, HN.out⟩
set_option maxRecDepth 100000 in
set_option maxHeartbeats 4000000 in
theorem diagonal3_any (g x y : Nat) (hx : x < 4294967296) (hy : y < 4294967296) (L : List Nat) (hL : S16 L) (w : World) (h : RW w g L 73) :
    Calls Tryd.prog 45 #[.pointer (some ⟨g, 0, none⟩), .int .u32 (x : Int), .int .u32 (y : Int)] w fun e w' => e = .returned (.tuple #[]) ∧ But (fun k => k = g) w w' ∧ RW w' g (mat L 3 4 9 14 x y) 73 := by
  have HC : Hid (∀ w', RW w' g L 73 → Calls Tryd.prog 47 #[.pointer (some ⟨g, 3, none⟩), .pointer (some ⟨g, 4, none⟩), .pointer (some ⟨g, 9, none⟩), .pointer (some ⟨g, 14, none⟩), .int .u32 (x : Int), .int .u32 (y : Int)] w' fun e w'' => e = .returned (.tuple #[]) ∧ But (fun k => k = g) w' w'' ∧ RW w'' g (mat L 3 4 9 14 x y) 73) :=
    fun w' h' => mix_any g 3 4 9 14 x y hx hy L 73 w' h' hL.bd (by rw [hL.len]; decide) (by rw [hL.len]; decide) (by rw [hL.len]; decide) (by rw [hL.len]; decide) (by decide) (by decide) (by decide) (by decide) (by decide) (by decide)
  have HW : Hid (RW w g L 73) := h
  clear h hx hy hL
  go_enter Tryd.func45, Tryd.ntmps45
  go_wp2
  go_region_with (go_at_call 47; refine (HC.out w.drew HW.out).mono ?_; rintro e w2 ⟨rfl, hb2, hr2⟩)
  have HN : Hid (But (fun k => k = g) w w2 ∧ RW w2 g (mat L 3 4 9 14 x y) 73) := ⟨but_trans (But.refl _ _).drew hb2, hr2⟩
  clear hb2 hr2
  go_wp2
  go_end0
  exact ⟨rfl, HN.out⟩
end Go.Proofs.YtfkbgodfcnmepabDoor
