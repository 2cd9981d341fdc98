import Derived.Deep.CutBlock
import Derived.Test.YtchnkpgkckadmaaGreatDoorMmbg
import Derived.Test.YtchnkpgkckadmaaGreatDoorMmbj
namespace Go.Proofs.YtchnkpgkckadmaaGreatDoor
set_option linter.unusedSimpArgs false
set_option linter.unusedVariables false
open Go.ChangeShapes Go.WideShapes Go.ChangeAt Go.RowKit Go.Pin Go.Pat
theorem strD (s : ByteArray) : (s.toList == [32, 32, 46, 46, 46]) = decide (s = dotR) := by rw [← str_eq, show dotR.toList = [32, 32, 46, 46, 46] by simp [dotR]]
/-- what Parse answers -/
def PrP (t : ByteArray) (q : Nat) (W : World) (e : Ending) (w' : World) : Prop := Below q W w' ∧ ∃ v, e = .returned (.tuple #[v, .int .i64 (prs t).2]) ∧ RdP w' v (prs t).1
theorem rdp_zpt (w : World) : RdP w (.agg zPat) zPt := rdp_zero w
theorem lin_side {s : ByteArray} {f : Int} {C : List Int} (h : lin s = some (f, C)) : f = 0 ∨ f = 1 := by
  unfold lin at h
  split at h
  · cases h
  · split at h
    · obtain ⟨l, _, e⟩ := Option.map_eq_some_iff.1 h
      injection e with e
      exact .inl e.symm
    · split at h
      · obtain ⟨l, _, e⟩ := Option.map_eq_some_iff.1 h
        injection e with e
        exact .inr e.symm
      · cases h
theorem frmL_le : ∀ (R : List ByteArray) (i : Nat), 1 ≤ i → 1 ≤ frmL i R ∧ frmL i R ≤ i + R.length
  | [], i, h => ⟨Nat.le_refl _, by simp [frmL]; omega⟩
  | r :: rs, i, h => by
    have := frmL_le rs (i + 1) (by omega)
    unfold frmL
    rw [List.length_cons]
    split
    · omega
    · omega
end Go.Proofs.YtchnkpgkckadmaaGreatDoor
