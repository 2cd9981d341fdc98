/-
  DERIVED. GIVEN WITH THE SEED: THE CARDS: each row of YtchnkpgkckadmabGreatDoorRows.lean that lists a variable, with what it lists TIED to the program's text (the seventh form; the later family's looks); each row that meets fmt, with fmt's text TOLD by the authors' own Lean function (tested against real Go, not proved from fmt's source: count such statements apart). THE CARD IS WHAT COUNTS. Prove the row's statement (the work); the ties are given (YtchnkpgkckadmabGreatDoorTie.lean); close each card by the builder's one call (the guide's Derived/Test/ToyasCard.lean, 'card_holds'). Laid BY PROGRAM, IN A SANDBOX (cutbox-door.mjs). By AI agents, Wed Nov 11 2026. No macro, syntax, notation, axiom, sorry.
-/
import Derived.Test.YtchnkpgkckadmabGreatDoorRows
import GoSem.ClaimSeven
namespace Go.Proofs.YtchnkpgkckadmabGreatDoor
namespace Rows

/-- THE TIED CARD OF 'pintlelaw16.NamingAll'. -/
def namingAllCard : Claim7 := { stood := { row := namingAllRow, standIns := [], harness := (true, "3c5c2afe2df62da3f145daab684019716985ec7a510acb5b971d6c2d4ebb575f"), looks := false }, kinds := [], alts := [], laidByText := true, laidKinds := [.sentinel, .sentinel, .sentinel, .sentinel, .sentinel, .sentinel, .sentinel, .data, .data, .data, .data], laidTests := true, laidLooks := .later }
def NamingAllCardSaid : Prop := Claim7.holds Tryz.pinned (.plain (OpenSpec.ofChange namingAllSpec)) namingAllCard

/-- THE SECOND FORM's CARD OF 'pintlelaw16.NamingAll'. -/
def namingAllUptoCard : Claim7 := { stood := { row := namingAllUptoRow, standIns := [], harness := (true, "3c5c2afe2df62da3f145daab684019716985ec7a510acb5b971d6c2d4ebb575f"), looks := false }, kinds := [], alts := [], laidByText := true, laidKinds := [.sentinel, .sentinel, .sentinel, .sentinel, .sentinel, .sentinel, .sentinel, .data, .data, .data, .data], laidTests := true, laidLooks := .later }
def NamingAllUptoCardSaid : Prop := Claim7.holds Tryz.pinned (.plain (OpenSpec.upto namingAllSpec)) namingAllUptoCard
end Rows
end Go.Proofs.YtchnkpgkckadmabGreatDoor
