import Derived.Test.YtfobiejgkdbidabTraceRecB
import Derived.Maps.AppendAt
namespace Go.Proofs.Ytfobiejgkdbidab
set_option linter.unusedSimpArgs false
open Go.ChangeShapes Go.WideShapes Go.ChangeAt Go.RowKit Go.Pin
set_option maxRecDepth 100000 in
set_option maxHeartbeats 400000 in
theorem same_any (va vb sa sb : Value) (la lb : List (Int × Int)) (w : World) (ha : RecO w va sa la) (hb : RecO w vb sb lb) (hl : la.length ≤ 1000000000) :
    Calls Try.prog 20 #[va, vb] w fun e w' => e = .returned (.bool (la == lb)) ∧ ∃ n, w' = w.drewN n := by
  have HA : Hid _ := ha
  have HB : Hid _ := hb
  have HL : Hid _ := hl
  have H1 : Hid (∀ _ : Unit, _) := fun _ => logged_any va sa la _ ha
  clear ha hb hl
  go_enter Try.func20, Try.ntmps20
  go_wp2_with (first | (go_at_call 25; first | (refine (H1.out ()).mono ?_; clear H1; rintro e w' ⟨rfl, rfl⟩) | (refine (logged_any vb sb lb _ HB.out).mono ?_; rintro e w' ⟨rfl, rfl⟩)) | (go_at_call 28; refine (equal_any sa sb la lb _ (RecO.sl (v := va) HA.out) (RecO.sl (v := vb) HB.out) HL.out).mono ?_; rintro e w' ⟨rfl, hw⟩))
  go_ret
  exact ⟨rfl, hw⟩
end Go.Proofs.Ytfobiejgkdbidab
