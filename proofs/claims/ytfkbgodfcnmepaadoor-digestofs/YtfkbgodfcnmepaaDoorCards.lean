/-
  DERIVED. GIVEN WITH THE SEED: THE CARDS: each row of YtfkbgodfcnmepaaDoorRows.lean that lists a variable, with what it lists TIED to the program's text (the seventh form; the later family's looks); each row that meets fmt, with fmt's text TOLD by the authors' own Lean function (tested against real Go, not proved from fmt's source: count such statements apart). THE CARD IS WHAT COUNTS. Prove the row's statement (the work); the ties are given (YtfkbgodfcnmepaaDoorTie.lean); close each card by the builder's one call (the guide's Derived/Test/ToyasCard.lean, 'card_holds'). Laid BY PROGRAM, IN A SANDBOX (cutbox-door.mjs). By AI agents, Wed Nov 11 2026. No macro, syntax, notation, axiom, sorry.
-/
import Derived.Test.YtfkbgodfcnmepaaDoorRows
import GoSem.ClaimSeven
namespace Go.Proofs.YtfkbgodfcnmepaaDoor
namespace Rows

/-- THE TIED CARD OF 'pintlelaw8.DigestNews'. -/
def digestNewsCard : Claim7 := { stood := { row := digestNewsRow, standIns := [], harness := (true, "1da65169afa610c91f96b68600749c29df580bce3ae0b966d2138b057f8cc963"), looks := true }, kinds := [], alts := [], laidByText := true, laidKinds := [.sentinel, .data], laidTests := true, laidLooks := .later }
def DigestNewsCardSaid : Prop := Claim7.holds Tryd.pinned (.plain (OpenSpec.ofChange digestNewsSpec)) digestNewsCard

/-- THE TIED CARD OF 'pintlelaw8.DigestPlays'. -/
def digestPlaysCard : Claim7 := { stood := { row := digestPlaysRow, standIns := [], harness := (true, "1da65169afa610c91f96b68600749c29df580bce3ae0b966d2138b057f8cc963"), looks := true }, kinds := [], alts := [], laidByText := true, laidKinds := [.sentinel, .data], laidTests := true, laidLooks := .later }
def DigestPlaysCardSaid : Prop := Claim7.holds Tryd.pinned (.plain (OpenSpec.ofChange digestPlaysSpec)) digestPlaysCard

/-- THE TIED CARD OF 'pintlelaw8.DigestOfs'. -/
def digestOfsCard : Claim7 := { stood := { row := digestOfsRow, standIns := [], harness := (true, "1da65169afa610c91f96b68600749c29df580bce3ae0b966d2138b057f8cc963"), looks := true }, kinds := [], alts := [], laidByText := true, laidKinds := [.sentinel, .data], laidTests := true, laidLooks := .later }
def DigestOfsCardSaid : Prop := Claim7.holds Tryd.pinned (.plain (OpenSpec.ofChange digestOfsSpec)) digestOfsCard

/-- THE TIED CARD OF 'pintlelaw8.DigestTwo'. -/
def digestTwoCard : Claim7 := { stood := { row := digestTwoRow, standIns := [], harness := (true, "1da65169afa610c91f96b68600749c29df580bce3ae0b966d2138b057f8cc963"), looks := true }, kinds := [], alts := [], laidByText := true, laidKinds := [.sentinel, .data], laidTests := true, laidLooks := .later }
def DigestTwoCardSaid : Prop := Claim7.holds Tryd.pinned (.plain (OpenSpec.ofChange digestTwoSpec)) digestTwoCard

/-- THE TIED CARD OF 'pintlelaw8.DigestNothing'. -/
def digestNothingCard : Claim7 := { stood := { row := digestNothingRow, standIns := [], harness := (true, "1da65169afa610c91f96b68600749c29df580bce3ae0b966d2138b057f8cc963"), looks := true }, kinds := [], alts := [], laidByText := true, laidKinds := [.sentinel, .data], laidTests := true, laidLooks := .later }
def DigestNothingCardSaid : Prop := Claim7.holds Tryd.pinned (.plain (OpenSpec.ofChange digestNothingSpec)) digestNothingCard

/-- THE TIED CARD OF 'pintlelaw8.DigestCuts'. -/
def digestCutsCard : Claim7 := { stood := { row := digestCutsRow, standIns := [], harness := (true, "1da65169afa610c91f96b68600749c29df580bce3ae0b966d2138b057f8cc963"), looks := true }, kinds := [], alts := [], laidByText := true, laidKinds := [.sentinel, .data], laidTests := true, laidLooks := .later }
def DigestCutsCardSaid : Prop := Claim7.holds Tryd.pinned (.plain (OpenSpec.ofChange digestCutsSpec)) digestCutsCard

/-- THE SECOND FORM's CARD OF 'pintlelaw8.DigestNews'. -/
def digestNewsUptoCard : Claim7 := { stood := { row := digestNewsUptoRow, standIns := [], harness := (true, "1da65169afa610c91f96b68600749c29df580bce3ae0b966d2138b057f8cc963"), looks := true }, kinds := [], alts := [], laidByText := true, laidKinds := [.sentinel, .data], laidTests := true, laidLooks := .later }
def DigestNewsUptoCardSaid : Prop := Claim7.holds Tryd.pinned (.plain (OpenSpec.upto digestNewsSpec)) digestNewsUptoCard

/-- THE SECOND FORM's CARD OF 'pintlelaw8.DigestPlays'. -/
def digestPlaysUptoCard : Claim7 := { stood := { row := digestPlaysUptoRow, standIns := [], harness := (true, "1da65169afa610c91f96b68600749c29df580bce3ae0b966d2138b057f8cc963"), looks := true }, kinds := [], alts := [], laidByText := true, laidKinds := [.sentinel, .data], laidTests := true, laidLooks := .later }
def DigestPlaysUptoCardSaid : Prop := Claim7.holds Tryd.pinned (.plain (OpenSpec.upto digestPlaysSpec)) digestPlaysUptoCard

/-- THE SECOND FORM's CARD OF 'pintlelaw8.DigestOfs'. -/
def digestOfsUptoCard : Claim7 := { stood := { row := digestOfsUptoRow, standIns := [], harness := (true, "1da65169afa610c91f96b68600749c29df580bce3ae0b966d2138b057f8cc963"), looks := true }, kinds := [], alts := [], laidByText := true, laidKinds := [.sentinel, .data], laidTests := true, laidLooks := .later }
def DigestOfsUptoCardSaid : Prop := Claim7.holds Tryd.pinned (.plain (OpenSpec.upto digestOfsSpec)) digestOfsUptoCard

/-- THE SECOND FORM's CARD OF 'pintlelaw8.DigestTwo'. -/
def digestTwoUptoCard : Claim7 := { stood := { row := digestTwoUptoRow, standIns := [], harness := (true, "1da65169afa610c91f96b68600749c29df580bce3ae0b966d2138b057f8cc963"), looks := true }, kinds := [], alts := [], laidByText := true, laidKinds := [.sentinel, .data], laidTests := true, laidLooks := .later }
def DigestTwoUptoCardSaid : Prop := Claim7.holds Tryd.pinned (.plain (OpenSpec.upto digestTwoSpec)) digestTwoUptoCard

/-- THE SECOND FORM's CARD OF 'pintlelaw8.DigestNothing'. -/
def digestNothingUptoCard : Claim7 := { stood := { row := digestNothingUptoRow, standIns := [], harness := (true, "1da65169afa610c91f96b68600749c29df580bce3ae0b966d2138b057f8cc963"), looks := true }, kinds := [], alts := [], laidByText := true, laidKinds := [.sentinel, .data], laidTests := true, laidLooks := .later }
def DigestNothingUptoCardSaid : Prop := Claim7.holds Tryd.pinned (.plain (OpenSpec.upto digestNothingSpec)) digestNothingUptoCard

/-- THE SECOND FORM's CARD OF 'pintlelaw8.DigestCuts'. -/
def digestCutsUptoCard : Claim7 := { stood := { row := digestCutsUptoRow, standIns := [], harness := (true, "1da65169afa610c91f96b68600749c29df580bce3ae0b966d2138b057f8cc963"), looks := true }, kinds := [], alts := [], laidByText := true, laidKinds := [.sentinel, .data], laidTests := true, laidLooks := .later }
def DigestCutsUptoCardSaid : Prop := Claim7.holds Tryd.pinned (.plain (OpenSpec.upto digestCutsSpec)) digestCutsUptoCard
end Rows
end Go.Proofs.YtfkbgodfcnmepaaDoor
