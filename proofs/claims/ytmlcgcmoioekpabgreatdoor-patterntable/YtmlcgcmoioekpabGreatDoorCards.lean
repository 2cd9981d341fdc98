/-
  DERIVED. GIVEN WITH THE SEED: THE CARDS: each row of YtmlcgcmoioekpabGreatDoorRows.lean that lists a variable, with what it lists TIED to the program's text (the seventh form; the later family's looks); each row that meets fmt, with fmt's text TOLD by the authors' own Lean function (tested against real Go, not proved from fmt's source: count such statements apart). THE CARD IS WHAT COUNTS. Prove the row's statement (the work); the ties are given (YtmlcgcmoioekpabGreatDoorTie.lean); close each card by the builder's one call (the guide's Derived/Test/ToyasCard.lean, 'card_holds'). Laid BY PROGRAM, IN A SANDBOX (cutbox-door.mjs). By AI agents, Wed Nov 11 2026. No macro, syntax, notation, axiom, sorry.
-/
import Derived.Test.YtmlcgcmoioekpabGreatDoorRows
import GoSem.ClaimSeven
namespace Go.Proofs.YtmlcgcmoioekpabGreatDoor
namespace Rows

/-- THE TIED CARD OF 'pintlelaw15.PatternReturns'. -/
def patternReturnsCard : Claim7 := { stood := { row := patternReturnsRow, standIns := [], harness := (true, "c32120978b8c9d933d39603744db0b4e05b76054fe15c348d7a592bd3a17191d"), looks := true }, kinds := [], alts := [], laidByText := true, laidKinds := [.sentinel, .sentinel, .sentinel, .sentinel, .sentinel, .sentinel, .data, .data, .data, .data], laidTests := true, laidLooks := .later }
def PatternReturnsCardSaid : Prop := Claim7.holds Tryz.pinned (.plain (OpenSpec.ofChange patternReturnsSpec)) patternReturnsCard

/-- THE TIED CARD OF 'pintlelaw15.PatternOnce'. -/
def patternOnceCard : Claim7 := { stood := { row := patternOnceRow, standIns := [], harness := (true, "c32120978b8c9d933d39603744db0b4e05b76054fe15c348d7a592bd3a17191d"), looks := true }, kinds := [], alts := [], laidByText := true, laidKinds := [.sentinel, .sentinel, .sentinel, .sentinel, .sentinel, .sentinel, .data, .data, .data, .data], laidTests := true, laidLooks := .later }
def PatternOnceCardSaid : Prop := Claim7.holds Tryz.pinned (.plain (OpenSpec.ofChange patternOnceSpec)) patternOnceCard

/-- THE TIED CARD OF 'pintlelaw15.PatternTable'. -/
def patternTableCard : Claim7 := { stood := { row := patternTableRow, standIns := [], harness := (true, "c32120978b8c9d933d39603744db0b4e05b76054fe15c348d7a592bd3a17191d"), looks := true }, kinds := [], alts := [], laidByText := true, laidKinds := [.sentinel, .sentinel, .sentinel, .sentinel, .sentinel, .sentinel, .data, .data, .data, .data], laidTests := true, laidLooks := .later }
def PatternTableCardSaid : Prop := Claim7.holds Tryz.pinned (.plain (OpenSpec.ofChange patternTableSpec)) patternTableCard

/-- THE TIED CARD OF 'pintlelaw15.PatternOwn'. -/
def patternOwnCard : Claim7 := { stood := { row := patternOwnRow, standIns := [], harness := (true, "c32120978b8c9d933d39603744db0b4e05b76054fe15c348d7a592bd3a17191d"), looks := true }, kinds := [], alts := [], laidByText := true, laidKinds := [.sentinel, .sentinel, .sentinel, .sentinel, .sentinel, .sentinel, .data, .data, .data, .data], laidTests := true, laidLooks := .later }
def PatternOwnCardSaid : Prop := Claim7.holds Tryz.pinned (.plain (OpenSpec.ofChange patternOwnSpec)) patternOwnCard

/-- THE SECOND FORM's CARD OF 'pintlelaw15.PatternReturns'. -/
def patternReturnsUptoCard : Claim7 := { stood := { row := patternReturnsUptoRow, standIns := [], harness := (true, "c32120978b8c9d933d39603744db0b4e05b76054fe15c348d7a592bd3a17191d"), looks := true }, kinds := [], alts := [], laidByText := true, laidKinds := [.sentinel, .sentinel, .sentinel, .sentinel, .sentinel, .sentinel, .data, .data, .data, .data], laidTests := true, laidLooks := .later }
def PatternReturnsUptoCardSaid : Prop := Claim7.holds Tryz.pinned (.plain (OpenSpec.upto patternReturnsSpec)) patternReturnsUptoCard

/-- THE SECOND FORM's CARD OF 'pintlelaw15.PatternOnce'. -/
def patternOnceUptoCard : Claim7 := { stood := { row := patternOnceUptoRow, standIns := [], harness := (true, "c32120978b8c9d933d39603744db0b4e05b76054fe15c348d7a592bd3a17191d"), looks := true }, kinds := [], alts := [], laidByText := true, laidKinds := [.sentinel, .sentinel, .sentinel, .sentinel, .sentinel, .sentinel, .data, .data, .data, .data], laidTests := true, laidLooks := .later }
def PatternOnceUptoCardSaid : Prop := Claim7.holds Tryz.pinned (.plain (OpenSpec.upto patternOnceSpec)) patternOnceUptoCard

/-- THE SECOND FORM's CARD OF 'pintlelaw15.PatternTable'. -/
def patternTableUptoCard : Claim7 := { stood := { row := patternTableUptoRow, standIns := [], harness := (true, "c32120978b8c9d933d39603744db0b4e05b76054fe15c348d7a592bd3a17191d"), looks := true }, kinds := [], alts := [], laidByText := true, laidKinds := [.sentinel, .sentinel, .sentinel, .sentinel, .sentinel, .sentinel, .data, .data, .data, .data], laidTests := true, laidLooks := .later }
def PatternTableUptoCardSaid : Prop := Claim7.holds Tryz.pinned (.plain (OpenSpec.upto patternTableSpec)) patternTableUptoCard

/-- THE SECOND FORM's CARD OF 'pintlelaw15.PatternOwn'. -/
def patternOwnUptoCard : Claim7 := { stood := { row := patternOwnUptoRow, standIns := [], harness := (true, "c32120978b8c9d933d39603744db0b4e05b76054fe15c348d7a592bd3a17191d"), looks := true }, kinds := [], alts := [], laidByText := true, laidKinds := [.sentinel, .sentinel, .sentinel, .sentinel, .sentinel, .sentinel, .data, .data, .data, .data], laidTests := true, laidLooks := .later }
def PatternOwnUptoCardSaid : Prop := Claim7.holds Tryz.pinned (.plain (OpenSpec.upto patternOwnSpec)) patternOwnUptoCard
end Rows
end Go.Proofs.YtmlcgcmoioekpabGreatDoor
