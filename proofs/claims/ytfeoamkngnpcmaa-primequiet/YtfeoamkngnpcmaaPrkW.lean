import Derived.Test.YtfeoamkngnpcmaaPrkV
namespace Go.Proofs.Ytfeoamkngnpcmaa
set_option linter.unusedSimpArgs false
open Go.ChangeShapes Go.WideShapes Go.ChangeAt Go.RowKit Go.Pin Go.Prm
theorem z16_key : Key16 (List.replicate 16 0) := ⟨rfl, by decide⟩
theorem z17_key : Key17 (List.replicate 17 0) := ⟨rfl, by decide⟩
/-- a Bench, all of it from R on -/
def Bw (R g : Nat) (rv : Value) (ns : Nat → Nat) (l : List (Int × Int)) (w0 W : World) : Prop := ∃ S es vs, St R g S es ns rv l l vs W ∧ (∀ i, i < 8 → num (es i) = ns i) ∧ Below R w0 W
theorem bw_step {R g : Nat} {rv : Value} {ns : Nat → Nat} {l : List (Int × Int)} {w0 W : World} (h : Bw R g rv ns l w0 W) (kd a b c : Int) {low row : List Int} (hlow : Key16 low) (hrow : Key17 row) (hl : l.length ≤ 100000) :
    Calls Try.prog 10 #[.pointer (some ⟨g, 0, none⟩), .agg (stepC kd a b c low row)] W fun e w' => e = .returned (.bool true) ∧ Bw R g rv (nsx ns kd a b c low row) (lgx l kd) w0 w' := by
  obtain ⟨S, es, vs, h1, h2, h3⟩ := h
  refine (step_any R g S es ns rv l vs kd a b c low row hlow hrow W h1 h2 hl).mono ?_
  rintro e w' ⟨he, S', es', vs', k1, k2, k3, k4⟩
  refine ⟨he, S', es', vs', k1, k2, h3.trans (k3.below (fun k hk => (h1.hS k hk).1) ?_)⟩
  have := h1.hS g h1.hg
  omega
theorem bw_ends {R g r : Nat} {ns : Nat → Nat} {l : List (Int × Int)} {w0 W : World} (h : Bw R g (.pointer (some ⟨r, 0, none⟩)) ns l w0 W) (hl : l.length ≤ 1000000) :
    Calls Try.prog 11 #[.pointer (some ⟨g, 0, none⟩)] W fun e w' => e = .returned (.bool true) ∧ Below R w0 w' := by
  obtain ⟨S, es, vs, h1, h2, h3⟩ := h
  refine (ends_any R g r S es ns l vs W h1 h2 hl).mono ?_
  rintro e w' ⟨he, hb⟩
  have := h1.hS g h1.hg
  exact ⟨he, h3.trans (hb.mono (by omega))⟩
theorem seventeen {l : List Int} (h : l.length = 17) : ∃ x0 x1 x2 x3 x4 x5 x6 x7 x8 x9 x10 x11 x12 x13 x14 x15 x16, l = [x0, x1, x2, x3, x4, x5, x6, x7, x8, x9, x10, x11, x12, x13, x14, x15, x16] := by
  match l, h with
  | [x0, x1, x2, x3, x4, x5, x6, x7, x8, x9, x10, x11, x12, x13, x14, x15, x16], _ => exact ⟨x0, x1, x2, x3, x4, x5, x6, x7, x8, x9, x10, x11, x12, x13, x14, x15, x16, rfl⟩
theorem foldB {x : List Int} (hx : x.length = 17) : Array.foldl (fun cs x => cs.setIfInBounds (20 + x.snd) x.fst) ((stepC 0 0 0 0 [0, 0, 0, 0, 0, 0, 0, 0, 0, 0, 0, 0, 0, 0, 0, 0] [0, 0, 0, 0, 0, 0, 0, 0, 0, 0, 0, 0, 0, 0, 0, 0, 0]).setIfInBounds 0 (Value.int IntKind.i64 2)) (VI IntKind.u8 x).zipIdx 0 17 = stepC 2 0 0 0 [0, 0, 0, 0, 0, 0, 0, 0, 0, 0, 0, 0, 0, 0, 0, 0] x := by
  obtain ⟨x0, x1, x2, x3, x4, x5, x6, x7, x8, x9, x10, x11, x12, x13, x14, x15, x16, rfl⟩ := seventeen hx
  kernel_rfl
theorem sizeB {x : List Int} (hx : x.length = 17) : (stepC 2 0 0 0 [0, 0, 0, 0, 0, 0, 0, 0, 0, 0, 0, 0, 0, 0, 0, 0] x).size = 37 := by simp [stepC, stepL, hx]
theorem stepB (x : List Int) (c : Int) : (stepC 2 0 0 0 [0, 0, 0, 0, 0, 0, 0, 0, 0, 0, 0, 0, 0, 0, 0, 0] x).setIfInBounds 3 (Value.int IntKind.i64 c) = stepC 2 0 0 c (List.replicate 16 0) x := by
  apply Array.ext'
  simp [stepC, stepL]
theorem sizeO : (stepC 0 0 0 0 [0, 0, 0, 0, 0, 0, 0, 0, 0, 0, 0, 0, 0, 0, 0, 0] [0, 0, 0, 0, 0, 0, 0, 0, 0, 0, 0, 0, 0, 0, 0, 0, 0]).size = 37 := by kernel_rfl
theorem neO : ¬ stepC 0 0 0 0 [0, 0, 0, 0, 0, 0, 0, 0, 0, 0, 0, 0, 0, 0, 0, 0] [0, 0, 0, 0, 0, 0, 0, 0, 0, 0, 0, 0, 0, 0, 0, 0, 0] = #[] := fun e => by
  have := sizeO
  rw [e] at this
  simp at this
theorem stepO (kd a b c : Int) : ((((stepC 0 0 0 0 [0, 0, 0, 0, 0, 0, 0, 0, 0, 0, 0, 0, 0, 0, 0, 0] [0, 0, 0, 0, 0, 0, 0, 0, 0, 0, 0, 0, 0, 0, 0, 0, 0]).setIfInBounds 0 (Value.int IntKind.i64 kd)).setIfInBounds 1 (Value.int IntKind.i64 a)).setIfInBounds 2 (Value.int IntKind.i64 b)).setIfInBounds 3 (Value.int IntKind.i64 c) = stepC kd a b c (List.replicate 16 0) (List.replicate 17 0) := by kernel_rfl
end Go.Proofs.Ytfeoamkngnpcmaa
