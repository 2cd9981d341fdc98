import Derived.Test.YtfobiejgkdbidabTraceAs
namespace Go.Proofs.Ytfobiejgkdbidab
set_option linter.unusedSimpArgs false
open Go.ChangeShapes Go.WideShapes Go.ChangeAt Go.RowKit Go.Pin
/-- New, If(true), At(7), At(7), Op(3) -/
def l4 : List (Int × Int) := [(1, 1), (2, 7), (2, 7), (3, 3)]
theorem l4_rn : rn l4 = [(1, 1, 1), (2, 7, 2), (3, 3, 1)] := by rfl
theorem owns_some {w : World} {b : Nat} {e : TypeId} {size : Nat} {v : Value} {n : Nat} {xs : List Value} (h : w.ownsRow b e size v n xs) (hn : 0 < n) : ∃ g cap, v = .slice (some ⟨g, 0, none⟩) n cap := by
  rcases h.2 with ⟨_, h0⟩ | ⟨g, cap, cur, rfl, _⟩
  · omega
  · exact ⟨g, cap, rfl⟩
set_option maxRecDepth 100000 in
set_option maxHeartbeats 2000000 in
theorem known_any (w : World) :
    Calls Try.prog 11 #[] w fun e w' => e = .returned (.bool true) ∧ Below w.heap.size w w' := by
  have B0 : Below w.heap.size w (w.alloc (.cells #[.slice none 0 0, .int .i64 0] 57)) := (Below.refl _ w).alloc (Nat.le_refl _) _
  have R0 := rec_new w
  have HC1 : Hid (∀ _ : Unit, _) := fun _ => rIf_any w.heap.size w.heap.size _ [] true _ R0 (by decide)
  have HG0 : Hid (_ ∧ _) := ⟨R0.ge, B0⟩
  clear B0 R0
  go_enter Try.func11, Try.ntmps11
  go_wp2_with (first
    | (go_at_call 12; refine (new_any _).mono ?_; rintro e w' ⟨rfl, rfl⟩)
    | (go_at_call 17; refine (HC1.out ()).mono ?_; clear HC1; rintro e w1 ⟨rfl, vs1, R1, G1, _⟩; have B1 := HG0.out.2.trans (G1.below HG0.out.1 HG0.out.2.size); have HC2 : Hid (∀ _ : Unit, _) := fun _ => rAt_any w.heap.size w.heap.size _ _ 7 _ R1 (by decide); have HG1 : Hid (_ ∧ _) := ⟨R1.ge, B1⟩; clear R1 B1 G1)
    | (go_at_call 18; refine (HC2.out ()).mono ?_; clear HC2; rintro e w2 ⟨rfl, vs2, R2, G2, _⟩; have B2 := HG1.out.2.trans (G2.below HG1.out.1 HG1.out.2.size); have HC3 : Hid (∀ _ : Unit, _) := fun _ => rAt_any w.heap.size w.heap.size _ _ 7 _ R2 (by decide); have HG2 : Hid (_ ∧ _) := ⟨R2.ge, B2⟩; clear R2 B2 G2)
    | (go_at_call 18; refine (HC3.out ()).mono ?_; clear HC3; rintro e w3 ⟨rfl, vs3, R3, G3, _⟩; have B3 := HG2.out.2.trans (G3.below HG2.out.1 HG2.out.2.size); have HC4 : Hid (∀ _ : Unit, _) := fun _ => rOp_any w.heap.size w.heap.size _ _ 3 _ R3 (by decide); have HG3 : Hid (_ ∧ _) := ⟨R3.ge, B3⟩; clear R3 B3 G3)
    | (go_at_call 19; refine (HC4.out ()).mono ?_; clear HC4; rintro e w4 ⟨rfl, vs4, R4, G4, _⟩; have B4 := HG3.out.2.trans (G4.below HG3.out.1 HG3.out.2.size); have HR4 : Hid (RecO w4 (.pointer (some ⟨w.heap.size, 0, none⟩)) vs4 l4) := R4.opt; have HG4 : Hid (Below w.heap.size w w4) := B4; clear R4 B4 G4 HG0 HG1 HG2 HG3)
    | (go_at_call 6; refine (tEvents_any _ vs4 l4 (by decide) _ HR4.out).mono ?_; rintro e w5 ⟨u, rfl, hu, B5⟩; obtain ⟨g, cap, rfl⟩ := owns_some hu (by decide); have c6 : w5.cell? ⟨g, 6, none⟩ = some (.int .i64 3) := (hu.cellAt 6 (by decide)).trans rfl; have c7 : w5.cell? ⟨g, 7, none⟩ = some (.int .i64 3) := (hu.cellAt 7 (by decide)).trans rfl; have hgl := (hu.lt g rfl).2; have HR5 : Hid (RecO w5 (.pointer (some ⟨w.heap.size, 0, none⟩)) vs4 l4) := HR4.out.below B5; have HG5 : Hid (Below w.heap.size w w5) := HG4.out.trans (B5.mono HG4.out.size); clear HR4 HG4 B5 hu)
    | (go_at_call 7; refine (tRuns_any _ vs4 l4 (by decide) _ HR5.out).mono ?_; rintro e w6 ⟨u2, rfl, hu2, B6⟩; rw [l4_rn] at hu2; obtain ⟨g2, cap2, rfl⟩ := owns_some hu2 (by decide); have c6 := (B6.cell (p := ⟨g, 6, none⟩) hgl).trans c6; have c7 := (B6.cell (p := ⟨g, 7, none⟩) hgl).trans c7; have d5 : w6.cell? ⟨g2, 5, none⟩ = some (.int .i64 2) := (hu2.cellAt 5 (by decide)).trans rfl; have HR6 : Hid (RecO w6 (.pointer (some ⟨w.heap.size, 0, none⟩)) vs4 l4) := HR5.out.below B6; have HG6 : Hid (Below w.heap.size w w6) := HG5.out.trans (B6.mono HG5.out.size); have HS : Hid (∀ _ : Unit, _) := fun _ => same_any _ _ vs4 vs4 l4 l4 _ HR6.out HR6.out (by decide); clear HR5 HG5 B6 hu2)
    | (go_at_call 10; refine (total_any _ vs4 l4 _ HR6.out).mono ?_; rintro e w7 ⟨rfl, rfl⟩)
    | (go_at_call 20; refine (HS.out ()).mono ?_; clear HS; rintro e w8 ⟨rfl, m, rfl⟩)
    | (go_at_call 20; refine (same_any _ _ vs4 _ l4 [] _ (HR6.out.below (below_drewN' (Below.refl _ _) _)) (recO_nil _) (by decide)).mono ?_; rintro e w9 ⟨rfl, m2, rfl⟩))
  go_ret
  exact ⟨rfl, below_drewN' HG6.out _⟩
end Go.Proofs.Ytfobiejgkdbidab
