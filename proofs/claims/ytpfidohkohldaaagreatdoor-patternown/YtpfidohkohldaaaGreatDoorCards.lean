/-
  DERIVED. GIVEN WITH THE SEED: THE CARDS: each row of YtpfidohkohldaaaGreatDoorRows.lean that lists a variable, with what it lists TIED to the program's text (the seventh form; the later family's looks); each row that meets fmt, with fmt's text TOLD by the authors' own Lean function (tested against real Go, not proved from fmt's source: count such statements apart). THE CARD IS WHAT COUNTS. Prove the row's statement (the work); the ties are given (YtpfidohkohldaaaGreatDoorTie.lean); close each card by the builder's one call (the guide's Derived/Test/ToyasCard.lean, 'card_holds'). Laid BY PROGRAM, IN A SANDBOX (cutbox-door.mjs). By AI agents, Wed Nov 11 2026. No macro, syntax, notation, axiom, sorry.
-/
import Derived.Test.YtpfidohkohldaaaGreatDoorRows
import GoSem.ClaimSeven
namespace Go.Proofs.YtpfidohkohldaaaGreatDoor
namespace Rows

/-- THE TIED CARD OF 'pintlelaw15.PatternOwn'. -/
def patternOwnCard : Claim7 := { stood := { row := patternOwnRow, standIns := [], harness := (true, "0db6ebd7e8b1f6a255fb6a7b6702183baf6d45899e128c8a473008a4f22b37c4"), looks := true }, kinds := [], alts := [], laidByText := true, laidKinds := [.sentinel, .sentinel, .sentinel, .sentinel, .sentinel, .sentinel, .data, .data, .data, .data], laidTests := true, laidLooks := .later }
def PatternOwnCardSaid : Prop := Claim7.holds Tryz.pinned (.plain (OpenSpec.ofChange patternOwnSpec)) patternOwnCard

/-- THE SECOND FORM's CARD OF 'pintlelaw15.PatternOwn'. -/
def patternOwnUptoCard : Claim7 := { stood := { row := patternOwnUptoRow, standIns := [], harness := (true, "0db6ebd7e8b1f6a255fb6a7b6702183baf6d45899e128c8a473008a4f22b37c4"), looks := true }, kinds := [], alts := [], laidByText := true, laidKinds := [.sentinel, .sentinel, .sentinel, .sentinel, .sentinel, .sentinel, .data, .data, .data, .data], laidTests := true, laidLooks := .later }
def PatternOwnUptoCardSaid : Prop := Claim7.holds Tryz.pinned (.plain (OpenSpec.upto patternOwnSpec)) patternOwnUptoCard
end Rows
end Go.Proofs.YtpfidohkohldaaaGreatDoor
