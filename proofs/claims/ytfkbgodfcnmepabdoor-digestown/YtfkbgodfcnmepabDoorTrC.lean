import Derived.Test.YtfkbgodfcnmepabDoorTrB
import Derived.Maps.AppendAt
namespace Go.Proofs.YtfkbgodfcnmepabDoor
set_option linter.unusedSimpArgs false
open Go.ChangeShapes Go.WideShapes Go.ChangeAt Go.RowKit Go.Pin
set_option maxRecDepth 100000 in
theorem rlog_nil (k v : Int) (w : World) :
    Calls Tryd.prog 24 #[.pointer none, .int .i64 k, .int .i64 v] w fun e w' => e = .returned (.tuple #[]) ∧ w' = w := by
  go_enter Tryd.func24, Tryd.ntmps24
  go_wp2
  first | go_end0 | refine bodyPost_ret (results_none rfl _ _ _) rfl ?_
  exact ⟨rfl, rfl⟩
/-- what a call that logs leaves -/
def Logged (B R : Nat) (vs : Value) (l : List (Int × Int)) (x : Int × Int) (w w' : World) : Prop :=
  ∃ vs', Rec B w' R vs' (l ++ [x]) ∧ Grow (Blk R vs) w w' ∧ (vs'.ownBlock = vs.ownBlock ∨ ∃ g, vs'.ownBlock = some g ∧ w.heap.size ≤ g)
set_option maxRecDepth 100000 in
theorem rOp_any (B R : Nat) (vs : Value) (l : List (Int × Int)) (v : Int) (w : World) (h : Rec B w R vs l) (hl : l.length ≤ 1000000) :
    Calls Tryd.prog 17 #[.pointer (some ⟨R, 0, none⟩), .int .i64 v] w fun e w' => e = .returned (.tuple #[]) ∧ Logged B R vs l (3, v) w w' := by
  have HR : Hid _ := h
  have HL : Hid _ := hl
  clear h hl
  go_enter Tryd.func17, Tryd.ntmps17
  go_wp2_with (first | (go_at_call 24; refine (rlog_any B R vs l _ _ _ HR.out HL.out).mono ?_; rintro e w' ⟨rfl, hw⟩))
  go_end0
  exact ⟨rfl, hw⟩
set_option maxRecDepth 100000 in
theorem rOp_nil (v : Int) (w : World) : Calls Tryd.prog 17 #[.pointer none, .int .i64 v] w fun e w' => e = .returned (.tuple #[]) ∧ w' = w := by
  go_enter Tryd.func17, Tryd.ntmps17
  go_wp2_with (first | (go_at_call 24; refine (rlog_nil _ _ _).mono ?_; rintro e w' ⟨rfl, rfl⟩))
  go_end0
  exact ⟨rfl, rfl⟩
/-- a Recorder, or none -/
def RecO (w : World) (v : Value) (vs : Value) (l : List (Int × Int)) : Prop :=
  (v = .pointer none ∧ vs = .slice none 0 0 ∧ l = []) ∨ ∃ B R, v = .pointer (some ⟨R, 0, none⟩) ∧ Rec B w R vs l
theorem Rec.opt {B : Nat} {w : World} {R : Nat} {vs : Value} {l : List (Int × Int)} (h : Rec B w R vs l) : RecO w (.pointer (some ⟨R, 0, none⟩)) vs l := .inr ⟨B, R, rfl, h⟩
theorem recO_nil (w : World) : RecO w (.pointer none) (.slice none 0 0) [] := .inl ⟨rfl, rfl, rfl⟩
theorem RecO.below {w w' : World} {v vs : Value} {l : List (Int × Int)} (h : RecO w v vs l) (hb : Below w.heap.size w w') : RecO w' v vs l := by
  rcases h with h | ⟨B, R, rfl, h⟩
  · exact .inl h
  · exact .inr ⟨B, R, rfl, h.below hb⟩
theorem RecO.owns {w : World} {v vs : Value} {l : List (Int × Int)} (h : RecO w v vs l) : w.ownsRow 0 68 2 vs l.length (evC l) := by
  rcases h with ⟨rfl, rfl, rfl⟩ | ⟨B, R, rfl, h⟩
  · exact World.ownsRow_nil _ _ _ _
  · exact owns_mono (Nat.zero_le _) h.2.2
theorem RecO.sl {w : World} {v vs : Value} {l : List (Int × Int)} (h : RecO w v vs l) : Sl w vs 2 (evC l) l.length := sl_of_owns h.owns
set_option maxRecDepth 100000 in
theorem total_any (v vs : Value) (l : List (Int × Int)) (w : World) (h : RecO w v vs l) :
    Calls Tryd.prog 15 #[v] w fun e w' => e = .returned (.int .i64 l.length) ∧ w' = w := by
  rcases h with ⟨rfl, rfl, rfl⟩ | ⟨B, R, rfl, h⟩
  · go_enter Tryd.func15, Tryd.ntmps15
    go_wp2
    go_ret
    exact ⟨rfl, rfl⟩
  · have hc0 := h.cell0
    have HC : Hid _ := h.cell1
    clear h
    go_enter Tryd.func15, Tryd.ntmps15
    go_wp2_with (first | (go_at_call 23; refine (aLoad_any R 1 l.length _ HC.out).mono ?_; rintro e w' ⟨rfl, rfl⟩))
    go_ret
    exact ⟨rfl, rfl⟩
theorem rec_new (w : World) : Rec w.heap.size (w.alloc (.cells #[.slice none 0 0, .int .i64 0] 65)) w.heap.size (.slice none 0 0) [] :=
  ⟨Nat.le_refl _, by rw [heap_alloc_any, if_pos rfl]; rfl, World.ownsRow_nil _ _ _ _⟩
set_option maxRecDepth 100000 in
theorem new_any (w : World) :
    Calls Tryd.prog 12 #[] w fun e w' => e = .returned (.pointer (some ⟨w.heap.size, 0, none⟩)) ∧ w' = w.alloc (.cells #[.slice none 0 0, .int .i64 0] 65) := by
  go_enter Tryd.func12, Tryd.ntmps12
  go_wp2
  go_ret
  exact ⟨rfl, rfl⟩