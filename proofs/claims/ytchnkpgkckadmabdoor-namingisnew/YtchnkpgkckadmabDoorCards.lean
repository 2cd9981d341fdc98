/-
  DERIVED. GIVEN WITH THE SEED: THE CARDS: each row of YtchnkpgkckadmabDoorRows.lean that lists a variable, with what it lists TIED to the program's text (the seventh form; the later family's looks); each row that meets fmt, with fmt's text TOLD by the authors' own Lean function (tested against real Go, not proved from fmt's source: count such statements apart). THE CARD IS WHAT COUNTS. Prove the row's statement (the work); the ties are given (YtchnkpgkckadmabDoorTie.lean); close each card by the builder's one call (the guide's Derived/Test/ToyasCard.lean, 'card_holds'). Laid BY PROGRAM, IN A SANDBOX (cutbox-door.mjs). By AI agents, Wed Nov 11 2026. No macro, syntax, notation, axiom, sorry.
-/
import Derived.Test.YtchnkpgkckadmabDoorRows
import GoSem.ClaimSeven
namespace Go.Proofs.YtchnkpgkckadmabDoor
namespace Rows

/-- THE TIED CARD OF 'pintlelaw16.NamingIsNew'. -/
def namingIsNewCard : Claim7 := { stood := { row := namingIsNewRow, standIns := [], harness := (true, "3b253be1bd919b66a0a9d47bd9c77955e770be7acdef44472fe64bb58179c56a"), looks := false }, kinds := [], alts := [], laidByText := true, laidKinds := [.sentinel, .sentinel, .sentinel, .sentinel, .sentinel, .sentinel, .sentinel, .data, .data, .data, .data], laidTests := true, laidLooks := .later }
def NamingIsNewCardSaid : Prop := Claim7.holds Tryd.pinned (.plain (OpenSpec.ofChange namingIsNewSpec)) namingIsNewCard

/-- THE SECOND FORM's CARD OF 'pintlelaw16.NamingIsNew'. -/
def namingIsNewUptoCard : Claim7 := { stood := { row := namingIsNewUptoRow, standIns := [], harness := (true, "3b253be1bd919b66a0a9d47bd9c77955e770be7acdef44472fe64bb58179c56a"), looks := false }, kinds := [], alts := [], laidByText := true, laidKinds := [.sentinel, .sentinel, .sentinel, .sentinel, .sentinel, .sentinel, .sentinel, .data, .data, .data, .data], laidTests := true, laidLooks := .later }
def NamingIsNewUptoCardSaid : Prop := Claim7.holds Tryd.pinned (.plain (OpenSpec.upto namingIsNewSpec)) namingIsNewUptoCard
end Rows
end Go.Proofs.YtchnkpgkckadmabDoor
