/-
  DERIVED. GIVEN WITH THE SEED: THE CARDS: each row of YtchnkpgkckadmaaDoorRows.lean that lists a variable, with what it lists TIED to the program's text (the seventh form; the later family's looks); each row that meets fmt, with fmt's text TOLD by the authors' own Lean function (tested against real Go, not proved from fmt's source: count such statements apart). THE CARD IS WHAT COUNTS. Prove the row's statement (the work); the ties are given (YtchnkpgkckadmaaDoorTie.lean); close each card by the builder's one call (the guide's Derived/Test/ToyasCard.lean, 'card_holds'). Laid BY PROGRAM, IN A SANDBOX (cutbox-door.mjs). By AI agents, Wed Nov 11 2026. No macro, syntax, notation, axiom, sorry.
-/
import Derived.Test.YtchnkpgkckadmaaDoorRows
import GoSem.ClaimSeven
namespace Go.Proofs.YtchnkpgkckadmaaDoor
namespace Rows

/-- THE TIED CARD OF 'pintlelaw16.NamingBack'. -/
def namingBackCard : Claim7 := { stood := { row := namingBackRow, standIns := [], harness := (true, "a1b068944562df7f37dec6c73ce6a7beddbbf1429856c7f483ab6e8401bed400"), looks := true }, kinds := [], alts := [], laidByText := true, laidKinds := [.sentinel, .sentinel, .sentinel, .sentinel, .sentinel, .sentinel, .sentinel, .data, .data, .data, .data], laidTests := true, laidLooks := .later }
def NamingBackCardSaid : Prop := Claim7.holds Tryd.pinned (.plain (OpenSpec.ofChange namingBackSpec)) namingBackCard

/-- THE TIED CARD OF 'pintlelaw16.NamingPlain'. -/
def namingPlainCard : Claim7 := { stood := { row := namingPlainRow, standIns := [], harness := (true, "a1b068944562df7f37dec6c73ce6a7beddbbf1429856c7f483ab6e8401bed400"), looks := true }, kinds := [], alts := [], laidByText := true, laidKinds := [.sentinel, .sentinel, .sentinel, .sentinel, .sentinel, .sentinel, .sentinel, .data, .data, .data, .data], laidTests := true, laidLooks := .later }
def NamingPlainCardSaid : Prop := Claim7.holds Tryd.pinned (.plain (OpenSpec.ofChange namingPlainSpec)) namingPlainCard

/-- THE TIED CARD OF 'pintlelaw16.NamingWorded'. -/
def namingWordedCard : Claim7 := { stood := { row := namingWordedRow, standIns := [], harness := (true, "a1b068944562df7f37dec6c73ce6a7beddbbf1429856c7f483ab6e8401bed400"), looks := true }, kinds := [], alts := [], laidByText := true, laidKinds := [.sentinel, .sentinel, .sentinel, .sentinel, .sentinel, .sentinel, .sentinel, .data, .data, .data, .data], laidTests := true, laidLooks := .later }
def NamingWordedCardSaid : Prop := Claim7.holds Tryd.pinned (.plain (OpenSpec.ofChange namingWordedSpec)) namingWordedCard

/-- THE SECOND FORM's CARD OF 'pintlelaw16.NamingBack'. -/
def namingBackUptoCard : Claim7 := { stood := { row := namingBackUptoRow, standIns := [], harness := (true, "a1b068944562df7f37dec6c73ce6a7beddbbf1429856c7f483ab6e8401bed400"), looks := true }, kinds := [], alts := [], laidByText := true, laidKinds := [.sentinel, .sentinel, .sentinel, .sentinel, .sentinel, .sentinel, .sentinel, .data, .data, .data, .data], laidTests := true, laidLooks := .later }
def NamingBackUptoCardSaid : Prop := Claim7.holds Tryd.pinned (.plain (OpenSpec.upto namingBackSpec)) namingBackUptoCard

/-- THE SECOND FORM's CARD OF 'pintlelaw16.NamingPlain'. -/
def namingPlainUptoCard : Claim7 := { stood := { row := namingPlainUptoRow, standIns := [], harness := (true, "a1b068944562df7f37dec6c73ce6a7beddbbf1429856c7f483ab6e8401bed400"), looks := true }, kinds := [], alts := [], laidByText := true, laidKinds := [.sentinel, .sentinel, .sentinel, .sentinel, .sentinel, .sentinel, .sentinel, .data, .data, .data, .data], laidTests := true, laidLooks := .later }
def NamingPlainUptoCardSaid : Prop := Claim7.holds Tryd.pinned (.plain (OpenSpec.upto namingPlainSpec)) namingPlainUptoCard

/-- THE SECOND FORM's CARD OF 'pintlelaw16.NamingWorded'. -/
def namingWordedUptoCard : Claim7 := { stood := { row := namingWordedUptoRow, standIns := [], harness := (true, "a1b068944562df7f37dec6c73ce6a7beddbbf1429856c7f483ab6e8401bed400"), looks := true }, kinds := [], alts := [], laidByText := true, laidKinds := [.sentinel, .sentinel, .sentinel, .sentinel, .sentinel, .sentinel, .sentinel, .data, .data, .data, .data], laidTests := true, laidLooks := .later }
def NamingWordedUptoCardSaid : Prop := Claim7.holds Tryd.pinned (.plain (OpenSpec.upto namingWordedSpec)) namingWordedUptoCard
end Rows
end Go.Proofs.YtchnkpgkckadmaaDoor
