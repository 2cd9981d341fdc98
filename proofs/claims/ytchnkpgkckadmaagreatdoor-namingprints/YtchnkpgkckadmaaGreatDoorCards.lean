/-
  DERIVED. GIVEN WITH THE SEED: THE CARDS: each row of YtchnkpgkckadmaaGreatDoorRows.lean that lists a variable, with what it lists TIED to the program's text (the seventh form; the later family's looks); each row that meets fmt, with fmt's text TOLD by the authors' own Lean function (tested against real Go, not proved from fmt's source: count such statements apart). THE CARD IS WHAT COUNTS. Prove the row's statement (the work); the ties are given (YtchnkpgkckadmaaGreatDoorTie.lean); close each card by the builder's one call (the guide's Derived/Test/ToyasCard.lean, 'card_holds'). Laid BY PROGRAM, IN A SANDBOX (cutbox-door.mjs). By AI agents, Wed Nov 11 2026. No macro, syntax, notation, axiom, sorry.
-/
import Derived.Test.YtchnkpgkckadmaaGreatDoorRows
import GoSem.ClaimSeven
namespace Go.Proofs.YtchnkpgkckadmaaGreatDoor
namespace Rows

/-- THE TIED CARD OF 'pintlelaw16.NamingParses'. -/
def namingParsesCard : Claim7 := { stood := { row := namingParsesRow, standIns := [], harness := (true, "725117a160d3075c91c8a4fe29a2d7f71cbbdc9174cd65f5aed51f31ca05b2c7"), looks := true }, kinds := [], alts := [], laidByText := true, laidKinds := [.sentinel, .sentinel, .sentinel, .sentinel, .sentinel, .sentinel, .sentinel, .data, .data, .data, .data], laidTests := true, laidLooks := .later }
def NamingParsesCardSaid : Prop := Claim7.holds Tryz.pinned (.plain (OpenSpec.ofChange namingParsesSpec)) namingParsesCard

/-- THE TIED CARD OF 'pintlelaw16.NamingWithin'. -/
def namingWithinCard : Claim7 := { stood := { row := namingWithinRow, standIns := [], harness := (true, "725117a160d3075c91c8a4fe29a2d7f71cbbdc9174cd65f5aed51f31ca05b2c7"), looks := true }, kinds := [], alts := [], laidByText := true, laidKinds := [.sentinel, .sentinel, .sentinel, .sentinel, .sentinel, .sentinel, .sentinel, .data, .data, .data, .data], laidTests := true, laidLooks := .later }
def NamingWithinCardSaid : Prop := Claim7.holds Tryz.pinned (.plain (OpenSpec.ofChange namingWithinSpec)) namingWithinCard

/-- THE TIED CARD OF 'pintlelaw16.NamingPrints'. -/
def namingPrintsCard : Claim7 := { stood := { row := namingPrintsRow, standIns := [], harness := (true, "725117a160d3075c91c8a4fe29a2d7f71cbbdc9174cd65f5aed51f31ca05b2c7"), looks := true }, kinds := [], alts := [], laidByText := true, laidKinds := [.sentinel, .sentinel, .sentinel, .sentinel, .sentinel, .sentinel, .sentinel, .data, .data, .data, .data], laidTests := true, laidLooks := .later }
def NamingPrintsCardSaid : Prop := Claim7.holds Tryz.pinned (.plain (OpenSpec.ofChange namingPrintsSpec)) namingPrintsCard

/-- THE SECOND FORM's CARD OF 'pintlelaw16.NamingParses'. -/
def namingParsesUptoCard : Claim7 := { stood := { row := namingParsesUptoRow, standIns := [], harness := (true, "725117a160d3075c91c8a4fe29a2d7f71cbbdc9174cd65f5aed51f31ca05b2c7"), looks := true }, kinds := [], alts := [], laidByText := true, laidKinds := [.sentinel, .sentinel, .sentinel, .sentinel, .sentinel, .sentinel, .sentinel, .data, .data, .data, .data], laidTests := true, laidLooks := .later }
def NamingParsesUptoCardSaid : Prop := Claim7.holds Tryz.pinned (.plain (OpenSpec.upto namingParsesSpec)) namingParsesUptoCard

/-- THE SECOND FORM's CARD OF 'pintlelaw16.NamingWithin'. -/
def namingWithinUptoCard : Claim7 := { stood := { row := namingWithinUptoRow, standIns := [], harness := (true, "725117a160d3075c91c8a4fe29a2d7f71cbbdc9174cd65f5aed51f31ca05b2c7"), looks := true }, kinds := [], alts := [], laidByText := true, laidKinds := [.sentinel, .sentinel, .sentinel, .sentinel, .sentinel, .sentinel, .sentinel, .data, .data, .data, .data], laidTests := true, laidLooks := .later }
def NamingWithinUptoCardSaid : Prop := Claim7.holds Tryz.pinned (.plain (OpenSpec.upto namingWithinSpec)) namingWithinUptoCard

/-- THE SECOND FORM's CARD OF 'pintlelaw16.NamingPrints'. -/
def namingPrintsUptoCard : Claim7 := { stood := { row := namingPrintsUptoRow, standIns := [], harness := (true, "725117a160d3075c91c8a4fe29a2d7f71cbbdc9174cd65f5aed51f31ca05b2c7"), looks := true }, kinds := [], alts := [], laidByText := true, laidKinds := [.sentinel, .sentinel, .sentinel, .sentinel, .sentinel, .sentinel, .sentinel, .data, .data, .data, .data], laidTests := true, laidLooks := .later }
def NamingPrintsUptoCardSaid : Prop := Claim7.holds Tryz.pinned (.plain (OpenSpec.upto namingPrintsSpec)) namingPrintsUptoCard
end Rows
end Go.Proofs.YtchnkpgkckadmaaGreatDoor
