/-
  DERIVED. GIVEN WITH THE SEED: THE CARDS: each row of YtmlcgcmoioekpaaGreatDoorRows.lean that lists a variable, with what it lists TIED to the program's text (the seventh form; the later family's looks); each row that meets fmt, with fmt's text TOLD by the authors' own Lean function (tested against real Go, not proved from fmt's source: count such statements apart). THE CARD IS WHAT COUNTS. Prove the row's statement (the work); the ties are given (YtmlcgcmoioekpaaGreatDoorTie.lean); close each card by the builder's one call (the guide's Derived/Test/ToyasCard.lean, 'card_holds'). Laid BY PROGRAM, IN A SANDBOX (cutbox-door.mjs). By AI agents, Wed Nov 11 2026. No macro, syntax, notation, axiom, sorry.
-/
import Derived.Test.YtmlcgcmoioekpaaGreatDoorRows
import GoSem.ClaimSeven
namespace Go.Proofs.YtmlcgcmoioekpaaGreatDoor
namespace Rows

/-- THE TIED CARD OF 'pintlelaw15.PatternChecks'. -/
def patternChecksCard : Claim7 := { stood := { row := patternChecksRow, standIns := [], harness := (true, "b0213b806e8464cd38249aed4061978b3f6174166d39a543ae41a66eef6402c0"), looks := true }, kinds := [], alts := [], laidByText := true, laidKinds := [.sentinel, .sentinel, .sentinel, .sentinel, .sentinel, .sentinel, .data, .data, .data, .data], laidTests := true, laidLooks := .later }
def PatternChecksCardSaid : Prop := Claim7.holds Tryz.pinned (.plain (OpenSpec.ofChange patternChecksSpec)) patternChecksCard

/-- THE TIED CARD OF 'pintlelaw15.PatternPrints'. -/
def patternPrintsCard : Claim7 := { stood := { row := patternPrintsRow, standIns := [], harness := (true, "b0213b806e8464cd38249aed4061978b3f6174166d39a543ae41a66eef6402c0"), looks := true }, kinds := [], alts := [], laidByText := true, laidKinds := [.sentinel, .sentinel, .sentinel, .sentinel, .sentinel, .sentinel, .data, .data, .data, .data], laidTests := true, laidLooks := .later }
def PatternPrintsCardSaid : Prop := Claim7.holds Tryz.pinned (.plain (OpenSpec.ofChange patternPrintsSpec)) patternPrintsCard

/-- THE TIED CARD OF 'pintlelaw15.PatternParses'. -/
def patternParsesCard : Claim7 := { stood := { row := patternParsesRow, standIns := [], harness := (true, "b0213b806e8464cd38249aed4061978b3f6174166d39a543ae41a66eef6402c0"), looks := true }, kinds := [], alts := [], laidByText := true, laidKinds := [.sentinel, .sentinel, .sentinel, .sentinel, .sentinel, .sentinel, .data, .data, .data, .data], laidTests := true, laidLooks := .later }
def PatternParsesCardSaid : Prop := Claim7.holds Tryz.pinned (.plain (OpenSpec.ofChange patternParsesSpec)) patternParsesCard

/-- THE TIED CARD OF 'pintlelaw15.PatternFinds'. -/
def patternFindsCard : Claim7 := { stood := { row := patternFindsRow, standIns := [], harness := (true, "b0213b806e8464cd38249aed4061978b3f6174166d39a543ae41a66eef6402c0"), looks := true }, kinds := [], alts := [], laidByText := true, laidKinds := [.sentinel, .sentinel, .sentinel, .sentinel, .sentinel, .sentinel, .data, .data, .data, .data], laidTests := true, laidLooks := .later }
def PatternFindsCardSaid : Prop := Claim7.holds Tryz.pinned (.plain (OpenSpec.ofChange patternFindsSpec)) patternFindsCard

/-- THE TIED CARD OF 'pintlelaw15.PatternAll'. -/
def patternAllCard : Claim7 := { stood := { row := patternAllRow, standIns := [], harness := (true, "b0213b806e8464cd38249aed4061978b3f6174166d39a543ae41a66eef6402c0"), looks := true }, kinds := [], alts := [], laidByText := true, laidKinds := [.sentinel, .sentinel, .sentinel, .sentinel, .sentinel, .sentinel, .data, .data, .data, .data], laidTests := true, laidLooks := .later }
def PatternAllCardSaid : Prop := Claim7.holds Tryz.pinned (.plain (OpenSpec.ofChange patternAllSpec)) patternAllCard

/-- THE TIED CARD OF 'pintlelaw15.PatternModifies'. -/
def patternModifiesCard : Claim7 := { stood := { row := patternModifiesRow, standIns := [], harness := (true, "b0213b806e8464cd38249aed4061978b3f6174166d39a543ae41a66eef6402c0"), looks := true }, kinds := [], alts := [], laidByText := true, laidKinds := [.sentinel, .sentinel, .sentinel, .sentinel, .sentinel, .sentinel, .data, .data, .data, .data], laidTests := true, laidLooks := .later }
def PatternModifiesCardSaid : Prop := Claim7.holds Tryz.pinned (.plain (OpenSpec.ofChange patternModifiesSpec)) patternModifiesCard

/-- THE SECOND FORM's CARD OF 'pintlelaw15.PatternChecks'. -/
def patternChecksUptoCard : Claim7 := { stood := { row := patternChecksUptoRow, standIns := [], harness := (true, "b0213b806e8464cd38249aed4061978b3f6174166d39a543ae41a66eef6402c0"), looks := true }, kinds := [], alts := [], laidByText := true, laidKinds := [.sentinel, .sentinel, .sentinel, .sentinel, .sentinel, .sentinel, .data, .data, .data, .data], laidTests := true, laidLooks := .later }
def PatternChecksUptoCardSaid : Prop := Claim7.holds Tryz.pinned (.plain (OpenSpec.upto patternChecksSpec)) patternChecksUptoCard

/-- THE SECOND FORM's CARD OF 'pintlelaw15.PatternPrints'. -/
def patternPrintsUptoCard : Claim7 := { stood := { row := patternPrintsUptoRow, standIns := [], harness := (true, "b0213b806e8464cd38249aed4061978b3f6174166d39a543ae41a66eef6402c0"), looks := true }, kinds := [], alts := [], laidByText := true, laidKinds := [.sentinel, .sentinel, .sentinel, .sentinel, .sentinel, .sentinel, .data, .data, .data, .data], laidTests := true, laidLooks := .later }
def PatternPrintsUptoCardSaid : Prop := Claim7.holds Tryz.pinned (.plain (OpenSpec.upto patternPrintsSpec)) patternPrintsUptoCard

/-- THE SECOND FORM's CARD OF 'pintlelaw15.PatternParses'. -/
def patternParsesUptoCard : Claim7 := { stood := { row := patternParsesUptoRow, standIns := [], harness := (true, "b0213b806e8464cd38249aed4061978b3f6174166d39a543ae41a66eef6402c0"), looks := true }, kinds := [], alts := [], laidByText := true, laidKinds := [.sentinel, .sentinel, .sentinel, .sentinel, .sentinel, .sentinel, .data, .data, .data, .data], laidTests := true, laidLooks := .later }
def PatternParsesUptoCardSaid : Prop := Claim7.holds Tryz.pinned (.plain (OpenSpec.upto patternParsesSpec)) patternParsesUptoCard

/-- THE SECOND FORM's CARD OF 'pintlelaw15.PatternFinds'. -/
def patternFindsUptoCard : Claim7 := { stood := { row := patternFindsUptoRow, standIns := [], harness := (true, "b0213b806e8464cd38249aed4061978b3f6174166d39a543ae41a66eef6402c0"), looks := true }, kinds := [], alts := [], laidByText := true, laidKinds := [.sentinel, .sentinel, .sentinel, .sentinel, .sentinel, .sentinel, .data, .data, .data, .data], laidTests := true, laidLooks := .later }
def PatternFindsUptoCardSaid : Prop := Claim7.holds Tryz.pinned (.plain (OpenSpec.upto patternFindsSpec)) patternFindsUptoCard

/-- THE SECOND FORM's CARD OF 'pintlelaw15.PatternAll'. -/
def patternAllUptoCard : Claim7 := { stood := { row := patternAllUptoRow, standIns := [], harness := (true, "b0213b806e8464cd38249aed4061978b3f6174166d39a543ae41a66eef6402c0"), looks := true }, kinds := [], alts := [], laidByText := true, laidKinds := [.sentinel, .sentinel, .sentinel, .sentinel, .sentinel, .sentinel, .data, .data, .data, .data], laidTests := true, laidLooks := .later }
def PatternAllUptoCardSaid : Prop := Claim7.holds Tryz.pinned (.plain (OpenSpec.upto patternAllSpec)) patternAllUptoCard

/-- THE SECOND FORM's CARD OF 'pintlelaw15.PatternModifies'. -/
def patternModifiesUptoCard : Claim7 := { stood := { row := patternModifiesUptoRow, standIns := [], harness := (true, "b0213b806e8464cd38249aed4061978b3f6174166d39a543ae41a66eef6402c0"), looks := true }, kinds := [], alts := [], laidByText := true, laidKinds := [.sentinel, .sentinel, .sentinel, .sentinel, .sentinel, .sentinel, .data, .data, .data, .data], laidTests := true, laidLooks := .later }
def PatternModifiesUptoCardSaid : Prop := Claim7.holds Tryz.pinned (.plain (OpenSpec.upto patternModifiesSpec)) patternModifiesUptoCard
end Rows
end Go.Proofs.YtmlcgcmoioekpaaGreatDoor
