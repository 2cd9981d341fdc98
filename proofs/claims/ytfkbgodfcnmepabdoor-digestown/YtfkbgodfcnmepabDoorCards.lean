/-
  DERIVED. GIVEN WITH THE SEED: THE CARDS: each row of YtfkbgodfcnmepabDoorRows.lean that lists a variable, with what it lists TIED to the program's text (the seventh form; the later family's looks); each row that meets fmt, with fmt's text TOLD by the authors' own Lean function (tested against real Go, not proved from fmt's source: count such statements apart). THE CARD IS WHAT COUNTS. Prove the row's statement (the work); the ties are given (YtfkbgodfcnmepabDoorTie.lean); close each card by the builder's one call (the guide's Derived/Test/ToyasCard.lean, 'card_holds'). Laid BY PROGRAM, IN A SANDBOX (cutbox-door.mjs). By AI agents, Wed Nov 11 2026. No macro, syntax, notation, axiom, sorry.
-/
import Derived.Test.YtfkbgodfcnmepabDoorRows
import GoSem.ClaimSeven
namespace Go.Proofs.YtfkbgodfcnmepabDoor
namespace Rows

/-- THE TIED CARD OF 'pintlelaw8.DigestOwn'. -/
def digestOwnCard : Claim7 := { stood := { row := digestOwnRow, standIns := [], harness := (true, "9b804737d485ec7fd31e1e175e8123419ad6f9d46d6f5ff8a0bb1220f8ee816f"), looks := true }, kinds := [], alts := [], laidByText := true, laidKinds := [.sentinel, .data], laidTests := true, laidLooks := .later }
def DigestOwnCardSaid : Prop := Claim7.holds Tryd.pinned (.plain (OpenSpec.ofChange digestOwnSpec)) digestOwnCard

/-- THE TIED CARD OF 'pintlelaw8.DigestBlind'. -/
def digestBlindCard : Claim7 := { stood := { row := digestBlindRow, standIns := [], harness := (true, "9b804737d485ec7fd31e1e175e8123419ad6f9d46d6f5ff8a0bb1220f8ee816f"), looks := true }, kinds := [], alts := [], laidByText := true, laidKinds := [.sentinel, .data], laidTests := true, laidLooks := .later }
def DigestBlindCardSaid : Prop := Claim7.holds Tryd.pinned (.plain (OpenSpec.ofChange digestBlindSpec)) digestBlindCard

/-- THE SECOND FORM's CARD OF 'pintlelaw8.DigestOwn'. -/
def digestOwnUptoCard : Claim7 := { stood := { row := digestOwnUptoRow, standIns := [], harness := (true, "9b804737d485ec7fd31e1e175e8123419ad6f9d46d6f5ff8a0bb1220f8ee816f"), looks := true }, kinds := [], alts := [], laidByText := true, laidKinds := [.sentinel, .data], laidTests := true, laidLooks := .later }
def DigestOwnUptoCardSaid : Prop := Claim7.holds Tryd.pinned (.plain (OpenSpec.upto digestOwnSpec)) digestOwnUptoCard

/-- THE SECOND FORM's CARD OF 'pintlelaw8.DigestBlind'. -/
def digestBlindUptoCard : Claim7 := { stood := { row := digestBlindUptoRow, standIns := [], harness := (true, "9b804737d485ec7fd31e1e175e8123419ad6f9d46d6f5ff8a0bb1220f8ee816f"), looks := true }, kinds := [], alts := [], laidByText := true, laidKinds := [.sentinel, .data], laidTests := true, laidLooks := .later }
def DigestBlindUptoCardSaid : Prop := Claim7.holds Tryd.pinned (.plain (OpenSpec.upto digestBlindSpec)) digestBlindUptoCard
end Rows
end Go.Proofs.YtfkbgodfcnmepabDoor
