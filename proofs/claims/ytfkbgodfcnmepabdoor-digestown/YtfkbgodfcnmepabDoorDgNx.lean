import Derived.Test.YtfkbgodfcnmepabDoorDgN
namespace Go.Proofs.YtfkbgodfcnmepabDoor
set_option linter.unusedSimpArgs false
set_option linter.unusedVariables false
open Go.ChangeShapes Go.WideShapes Go.ChangeAt Go.RowKit Go.Pin Go.Str Go.Dig
def blg (z : Int) : List (Int × Int) := if z < 1 then [(1, 1)] else if 32 < z then [(1, 0), (1, 1)] else [(1, 0), (1, 0), (1, 1)]
theorem blg1 {z : Int} {l : List (Int × Int)} (h : z < 1) : l ++ [(1, 1)] = l ++ blg z := by rw [blg, if_pos h]
theorem blg2 {z : Int} {l : List (Int × Int)} (h : 1 ≤ z ∧ 32 < z) : l ++ [(1, 0)] ++ [(1, 1)] = l ++ blg z := by rw [blg, if_neg (by omega), if_pos h.2]; simp
theorem blg3 {z : Int} {l : List (Int × Int)} (h : 1 ≤ z ∧ z ≤ 32) : l ++ [(1, 0)] ++ [(1, 0)] ++ [(1, 1)] = l ++ blg z := by rw [blg, if_neg (by omega), if_neg (by omega)]; simp
set_option maxRecDepth 100000 in
set_option maxHeartbeats 8000000 in
theorem dnew_bad1 {B : Nat} {w : World} {ra : Option Addr} {l : List (Int × Int)} {bx : List (Nat × Obj)} {W : World} (h : Ev B w (.pointer ra) l bx W) (hl : Value.pointer ra ≠ Value.pointer none → l.length ≤ 900000) (z : Int) (ev : Value) (hB : w.cell? ⟨0, 0, none⟩ = some ev) (h2 : 1 ≤ B) (ka : Option Addr) (k cap : Nat) (hz : z < 1) :
    Calls Tryd.prog 5 #[(.pointer ra), .int .i64 z, .slice ka k cap] W fun e w' => e = .returned (.tuple #[.pointer none, ev]) ∧ Ev B w (.pointer ra) (l ++ blg z) bx w' := by
  have HL : Hid ((Value.pointer ra ≠ Value.pointer none → l.length ≤ 900000) ∧ 1 ≤ B ∧ w.cell? ⟨0, 0, none⟩ = some ev) := ⟨hl, h2, hB⟩
  clear hl h2 hB
  have b1 : decide (z < (1 : Int)) = true := decide_eq_true hz
  have C1 : Hid (Calls Tryd.prog 16 #[(.pointer ra), .bool true] W fun e w' => e = .returned (.bool true) ∧ Ev B w (.pointer ra) (l ++ [(1, 1)]) bx w') := v_if h (fun hr => by have := HL.out.1 hr; omega) true
  have HZ : Hid (z < 1) := hz
  clear h hz
  go_enter Tryd.func5, Tryd.ntmps5
  go_upto_region 2 with (go_at_call 16; refine Calls.mono C1.out ?_; rintro e W1 ⟨rfl, h1⟩; have H1 : Hid _ := h1; clear h1 C1)
  have ce : W1.cell? ⟨0, 0, none⟩ = some ev := (World.cell?_of_block (a := ⟨0, 0, none⟩) (H1.out.old.block 0 (by have := HL.out.2.1; omega))).trans HL.out.2.2
  clear HL
  go_region
  go_wp2
  go_ret2
  exact ⟨rfl, H1.out.drew.cast (blg1 HZ.out)⟩
set_option maxRecDepth 100000 in
set_option maxHeartbeats 8000000 in
theorem dnew_bad2 {B : Nat} {w : World} {ra : Option Addr} {l : List (Int × Int)} {bx : List (Nat × Obj)} {W : World} (h : Ev B w (.pointer ra) l bx W) (hl : Value.pointer ra ≠ Value.pointer none → l.length ≤ 900000) (z : Int) (ev : Value) (hB : w.cell? ⟨0, 0, none⟩ = some ev) (h2 : 1 ≤ B) (ka : Option Addr) (k cap : Nat) (hz : ¬ z < 1) (hz2 : 32 < z) :
    Calls Tryd.prog 5 #[(.pointer ra), .int .i64 z, .slice ka k cap] W fun e w' => e = .returned (.tuple #[.pointer none, ev]) ∧ Ev B w (.pointer ra) (l ++ blg z) bx w' := by
  have HL : Hid ((Value.pointer ra ≠ Value.pointer none → l.length ≤ 900000) ∧ 1 ≤ B ∧ w.cell? ⟨0, 0, none⟩ = some ev) := ⟨hl, h2, hB⟩
  clear hl h2 hB
  have b1 : decide (z < (1 : Int)) = false := decide_eq_false hz
  have b2 : decide ((32 : Int) < z) = true := decide_eq_true hz2
  have C1 : Hid (Calls Tryd.prog 16 #[(.pointer ra), .bool false] W fun e w' => e = .returned (.bool false) ∧ Ev B w (.pointer ra) (l ++ [(1, 0)]) bx w') := v_if h (fun hr => by have := HL.out.1 hr; omega) false
  have HZ : Hid (1 ≤ z ∧ 32 < z) := ⟨by omega, hz2⟩
  clear h hz hz2
  go_enter Tryd.func5, Tryd.ntmps5
  go_upto_region 3 with (go_at_call 16; refine Calls.mono C1.out ?_; rintro e W1 ⟨rfl, h1⟩; have H1 : Hid _ := h1; clear h1 C1)
  have C2 : Hid (Calls Tryd.prog 16 #[(.pointer ra), .bool true] W1 fun e w' => e = .returned (.bool true) ∧ Ev B w (.pointer ra) (l ++ [(1, 0)] ++ [(1, 1)]) bx w') := v_if H1.out (fun hr => by have := HL.out.1 hr; simp only [List.length_append, List.length_cons, List.length_nil]; omega) true
  go_upto_region 4 with (go_at_call 16; refine Calls.mono C2.out ?_; rintro e W2 ⟨rfl, h2⟩; have H2 : Hid _ := h2; clear h2 C2)
  have ce : W2.cell? ⟨0, 0, none⟩ = some ev := (World.cell?_of_block (a := ⟨0, 0, none⟩) (H2.out.old.block 0 (by have := HL.out.2.1; omega))).trans HL.out.2.2
  clear HL
  go_region
  go_wp2
  go_ret2
  exact ⟨rfl, H2.out.drew.cast (blg2 HZ.out)⟩
set_option maxRecDepth 100000 in
set_option maxHeartbeats 8000000 in
theorem dnew_bad3 {B : Nat} {w : World} {ra : Option Addr} {l : List (Int × Int)} {bx : List (Nat × Obj)} {W : World} (h : Ev B w (.pointer ra) l bx W) (hl : Value.pointer ra ≠ Value.pointer none → l.length ≤ 900000) (z : Int) (ev : Value) (hB : w.cell? ⟨0, 0, none⟩ = some ev) (h2 : 1 ≤ B) (ka : Option Addr) (k cap : Nat) (hz : ¬ z < 1) (hz2 : ¬ 32 < z) (hk : 32 < k) :
    Calls Tryd.prog 5 #[(.pointer ra), .int .i64 z, .slice ka k cap] W fun e w' => e = .returned (.tuple #[.pointer none, ev]) ∧ Ev B w (.pointer ra) (l ++ blg z) bx w' := by
  have HL : Hid ((Value.pointer ra ≠ Value.pointer none → l.length ≤ 900000) ∧ 1 ≤ B ∧ w.cell? ⟨0, 0, none⟩ = some ev) := ⟨hl, h2, hB⟩
  clear hl h2 hB
  have b1 : decide (z < (1 : Int)) = false := decide_eq_false hz
  have b2 : decide ((32 : Int) < z) = false := decide_eq_false hz2
  have b3 : decide ((32 : Int) < (k : Int)) = true := decide_eq_true (by omega)
  have C1 : Hid (Calls Tryd.prog 16 #[(.pointer ra), .bool false] W fun e w' => e = .returned (.bool false) ∧ Ev B w (.pointer ra) (l ++ [(1, 0)]) bx w') := v_if h (fun hr => by have := HL.out.1 hr; omega) false
  have HZ : Hid (1 ≤ z ∧ z ≤ 32) := ⟨by omega, by omega⟩
  clear h hz hz2 hk
  go_enter Tryd.func5, Tryd.ntmps5
  go_upto_region 3 with (go_at_call 16; refine Calls.mono C1.out ?_; rintro e W1 ⟨rfl, h1⟩; have H1 : Hid _ := h1; clear h1 C1)
  have C2 : Hid (Calls Tryd.prog 16 #[(.pointer ra), .bool false] W1 fun e w' => e = .returned (.bool false) ∧ Ev B w (.pointer ra) (l ++ [(1, 0)] ++ [(1, 0)]) bx w') := v_if H1.out (fun hr => by have := HL.out.1 hr; simp only [List.length_append, List.length_cons, List.length_nil]; omega) false
  go_upto_region 5 with (go_at_call 16; refine Calls.mono C2.out ?_; rintro e W2 ⟨rfl, h2⟩; have H2 : Hid _ := h2; clear h2 C2)
  have C3 : Hid (Calls Tryd.prog 16 #[(.pointer ra), .bool true] W2 fun e w' => e = .returned (.bool true) ∧ Ev B w (.pointer ra) (l ++ [(1, 0)] ++ [(1, 0)] ++ [(1, 1)]) bx w') := v_if H2.out (fun hr => by have := HL.out.1 hr; simp only [List.length_append, List.length_cons, List.length_nil]; omega) true
  go_upto_region 6 with (go_at_call 16; refine Calls.mono C3.out ?_; rintro e W3 ⟨rfl, h3⟩; have H3 : Hid _ := h3; clear h3 C3)
  have ce : W3.cell? ⟨0, 0, none⟩ = some ev := (World.cell?_of_block (a := ⟨0, 0, none⟩) (H3.out.old.block 0 (by have := HL.out.2.1; omega))).trans HL.out.2.2
  clear HL
  go_region
  go_wp2
  go_ret2
  exact ⟨rfl, H3.out.drew.cast (blg3 HZ.out)⟩
theorem dnew_bad {B : Nat} {w : World} {ra : Option Addr} {l : List (Int × Int)} {bx : List (Nat × Obj)} {W : World} (h : Ev B w (.pointer ra) l bx W) (hl : Value.pointer ra ≠ Value.pointer none → l.length ≤ 900000) (z : Int) (ev : Value) (hB : w.cell? ⟨0, 0, none⟩ = some ev) (h2 : 1 ≤ B) (ka : Option Addr) (k cap : Nat) (hbad : z < 1 ∨ 32 < z ∨ 32 < k) :
    Calls Tryd.prog 5 #[(.pointer ra), .int .i64 z, .slice ka k cap] W fun e w' => e = .returned (.tuple #[.pointer none, ev]) ∧ Ev B w (.pointer ra) (l ++ blg z) bx w' := by
  by_cases hz : z < 1
  · exact dnew_bad1 h hl z ev hB h2 ka k cap hz
  · by_cases hz2 : 32 < z
    · exact dnew_bad2 h hl z ev hB h2 ka k cap hz hz2
    · exact dnew_bad3 h hl z ev hB h2 ka k cap hz hz2 (by omega)
end Go.Proofs.YtfkbgodfcnmepabDoor
