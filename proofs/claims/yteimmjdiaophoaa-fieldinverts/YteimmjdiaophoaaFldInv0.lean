import Derived.Test.YteimmjdiaophoaaFldT
import Derived.Test.YteimmjdiaophoaaFldPq
namespace Go.Proofs.Yteimmjdiaophoaa
set_option linter.unusedSimpArgs false
set_option linter.unusedVariables false
open Go.ChangeShapes Go.WideShapes Go.ChangeAt Go.RowKit Go.Pin Go.Fld
def findRegI (n : Nat) : Code → Option Code
  | .region i ops d => if i = n then some (.region i ops d) else none
  | .seq a b => match findRegI n a with
    | some c => some c
    | none => findRegI n b
  | .block _ c => findRegI n c
  | .loop c => findRegI n c
  | .scope c => findRegI n c
  | .cond _ a b => match findRegI n a with
    | some c => some c
    | none => findRegI n b
  | _ => none
noncomputable def rgI8 : Code := ((Try.f7.body.bind (findRegI 8)).getD .skip)
noncomputable def rgI11 : Code := ((Try.f7.body.bind (findRegI 11)).getD .skip)
theorem wp_asI {P : Program} {c c' : Code} {Q : Exit → Act → World → Prop} {a : Act} {w : World} (h : c = c') (hc : Code.wp P c' Q a w) : Code.wp P c Q a w := by rw [h]; exact hc
end Go.Proofs.Yteimmjdiaophoaa
