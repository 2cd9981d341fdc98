/-
  NARROWER THAN 'FOR EVERY INPUT', by the rows' own cells (each row's printed sentence says how): PatternOwn: laid.
  DERIVED. THE GIVEN ROWS OF THIS SEAT. 1 by the template 'for every input the law returns true; each argument reads behind the call as it read before'; 0 by the template 'total and deterministic' (their statements: YtpfidohkohldaaaGreatDoorTotals.lean).
  GIVEN WITH THE SEED: the statements are not yours to turn. If you find one false, say at which input.
  Laid BY PROGRAM, IN A SANDBOX (cutbox-rows.mjs): the forced cells as the released guide's own fill.sh prints them over the translation 8cace8e5bbefe29d… (all of the seat's roots in one cut). By AI agents, Wed Nov 11 2026. No macro, syntax, notation, axiom, sorry.
-/
import Derived.Test.YtpfidohkohldaaaGreatDoorChecked
import GoSem.Claim
import GoSem.ClaimJoined
import GoSem.ClaimMapViews
import Derived.JoinedTies
import Derived.KernelRfl
namespace Go.Proofs.YtpfidohkohldaaaGreatDoor
/- THE CELL 'sum', in the pinned program and in every row, IS THE sha256 OF THE DUMP (.gsa) THAT YtpfidohkohldaaaGreatDoorProg.lean LOADS. Nothing in Lean hashes anything: it is a label: what it is worth is what the hold of that sum in a sandbox is worth. -/
noncomputable def Tryz.pinned : Pinned := { name := "ytpfidohkohldaaagreatdoor", sum := "8cace8e5bbefe29d645d75263cbbf8a59c67e74340da19ba68a3cede14841926", checked := Tryz.checked }
namespace Rows
def none {H : Type} : Left H := { results := [], args := [] }

/- WHAT THE LISTED PACKAGE-LEVEL VARIABLES READ AS WHEN THE CALL BEGINS. Each datum BY PROGRAM (the guide's laid-datum.mjs) off the statement by which the dump's own 'gosem.cut.vars' lays the variable. In a bare row this is a premise. The card (YtpfidohkohldaaaGreatDoorCards.lean) ties it to the program's text. -/
def laid_pintle_api_ErrArg {H : Type} : DataW H := .iface "*errors.errorString" (.ptr (.agg [.lit (.string [112, 105, 110, 116, 108, 101, 58, 32, 97, 114, 103, 117, 109, 101, 110, 116])]))
def laid_pintle_api_ErrText {H : Type} : DataW H := .iface "*errors.errorString" (.ptr (.agg [.lit (.string [112, 105, 110, 116, 108, 101, 58, 32, 110, 111, 32, 112, 97, 116, 116, 101, 114, 110])]))
def laid_pintle_api_ErrInvalid {H : Type} : DataW H := .iface "*errors.errorString" (.ptr (.agg [.lit (.string [112, 105, 110, 116, 108, 101, 58, 32, 112, 97, 116, 116, 101, 114, 110, 32, 105, 110, 118, 97, 108, 105, 100])]))
def laid_pintle_api_ErrTwice {H : Type} : DataW H := .iface "*errors.errorString" (.ptr (.agg [.lit (.string [112, 105, 110, 116, 108, 101, 58, 32, 116, 119, 105, 99, 101])]))
def laid_pintle_api_ErrLacks {H : Type} : DataW H := .iface "*errors.errorString" (.ptr (.agg [.lit (.string [112, 105, 110, 116, 108, 101, 58, 32, 108, 97, 99, 107, 115])]))
def laid_pintle_api_ErrUnsafe {H : Type} : DataW H := .iface "*errors.errorString" (.ptr (.agg [.lit (.string [112, 105, 110, 116, 108, 101, 58, 32, 117, 110, 115, 97, 102, 101])]))
def laid_pintle_pattern_rules {H : Type} : DataW H := .agg [.agg [.agg [.lit (.int .i64 0), .lit (.int .i64 0)], .lit (.bool false), .agg [.lit (.bool false), .lit (.bool false), .lit (.bool false), .lit (.bool false), .lit (.bool false), .lit (.bool false), .lit (.bool false), .lit (.bool false), .lit (.bool false)]], .agg [.agg [.lit (.int .i64 0), .lit (.int .i64 2)], .lit (.bool true), .agg [.lit (.bool false), .lit (.bool false), .lit (.bool false), .lit (.bool false), .lit (.bool false), .lit (.bool false), .lit (.bool false), .lit (.bool false), .lit (.bool false)]], .agg [.agg [.lit (.int .i64 1), .lit (.int .i64 3)], .lit (.bool true), .agg [.lit (.bool false), .lit (.bool false), .lit (.bool false), .lit (.bool false), .lit (.bool false), .lit (.bool false), .lit (.bool false), .lit (.bool false), .lit (.bool false)]], .agg [.agg [.lit (.int .i64 4), .lit (.int .i64 4)], .lit (.bool true), .agg [.lit (.bool true), .lit (.bool false), .lit (.bool true), .lit (.bool false), .lit (.bool false), .lit (.bool false), .lit (.bool false), .lit (.bool false), .lit (.bool false)]], .agg [.agg [.lit (.int .i64 5), .lit (.int .i64 5)], .lit (.bool true), .agg [.lit (.bool true), .lit (.bool false), .lit (.bool false), .lit (.bool true), .lit (.bool false), .lit (.bool false), .lit (.bool false), .lit (.bool false), .lit (.bool false)]], .agg [.agg [.lit (.int .i64 6), .lit (.int .i64 6)], .lit (.bool true), .agg [.lit (.bool false), .lit (.bool true), .lit (.bool true), .lit (.bool false), .lit (.bool false), .lit (.bool false), .lit (.bool false), .lit (.bool false), .lit (.bool false)]], .agg [.agg [.lit (.int .i64 7), .lit (.int .i64 7)], .lit (.bool true), .agg [.lit (.bool false), .lit (.bool true), .lit (.bool false), .lit (.bool true), .lit (.bool false), .lit (.bool false), .lit (.bool false), .lit (.bool false), .lit (.bool false)]], .agg [.agg [.lit (.int .i64 8), .lit (.int .i64 8)], .lit (.bool false), .agg [.lit (.bool false), .lit (.bool false), .lit (.bool false), .lit (.bool false), .lit (.bool false), .lit (.bool false), .lit (.bool false), .lit (.bool false), .lit (.bool false)]]]
def laid_pintle_pattern_hazards {H : Type} : DataW H := .agg [.agg [.lit (.int .i64 0), .agg [.lit (.bool false), .lit (.bool false), .lit (.bool false), .lit (.bool false), .lit (.bool true), .lit (.bool false), .lit (.bool true), .lit (.bool false), .lit (.bool false)], .agg [.lit (.bool false), .lit (.bool false), .lit (.bool false), .lit (.bool false), .lit (.bool false), .lit (.bool false), .lit (.bool true), .lit (.bool false), .lit (.bool false)]], .agg [.lit (.int .i64 0), .agg [.lit (.bool false), .lit (.bool false), .lit (.bool false), .lit (.bool false), .lit (.bool false), .lit (.bool true), .lit (.bool false), .lit (.bool true), .lit (.bool false)], .agg [.lit (.bool false), .lit (.bool false), .lit (.bool false), .lit (.bool false), .lit (.bool false), .lit (.bool false), .lit (.bool false), .lit (.bool true), .lit (.bool false)]], .agg [.lit (.int .i64 0), .agg [.lit (.bool true), .lit (.bool false), .lit (.bool false), .lit (.bool false), .lit (.bool false), .lit (.bool false), .lit (.bool false), .lit (.bool false), .lit (.bool true)], .agg [.lit (.bool false), .lit (.bool false), .lit (.bool false), .lit (.bool false), .lit (.bool false), .lit (.bool false), .lit (.bool false), .lit (.bool false), .lit (.bool true)]], .agg [.lit (.int .i64 1), .agg [.lit (.bool false), .lit (.bool false), .lit (.bool false), .lit (.bool false), .lit (.bool true), .lit (.bool true), .lit (.bool false), .lit (.bool false), .lit (.bool false)], .agg [.lit (.bool false), .lit (.bool false), .lit (.bool false), .lit (.bool false), .lit (.bool false), .lit (.bool true), .lit (.bool false), .lit (.bool false), .lit (.bool false)]], .agg [.lit (.int .i64 1), .agg [.lit (.bool false), .lit (.bool false), .lit (.bool false), .lit (.bool false), .lit (.bool false), .lit (.bool false), .lit (.bool true), .lit (.bool true), .lit (.bool false)], .agg [.lit (.bool false), .lit (.bool false), .lit (.bool false), .lit (.bool false), .lit (.bool false), .lit (.bool false), .lit (.bool false), .lit (.bool true), .lit (.bool false)]], .agg [.lit (.int .i64 1), .agg [.lit (.bool false), .lit (.bool false), .lit (.bool true), .lit (.bool false), .lit (.bool false), .lit (.bool false), .lit (.bool false), .lit (.bool false), .lit (.bool true)], .agg [.lit (.bool false), .lit (.bool false), .lit (.bool false), .lit (.bool false), .lit (.bool false), .lit (.bool false), .lit (.bool false), .lit (.bool false), .lit (.bool true)]]]
def laid_pintle_pattern_heads {H : Type} : DataW H := .agg [.lit (.string [32, 32, 45, 62, 32]), .lit (.string [32, 32, 60, 45, 32])]
def laid_pintle_pattern_tokenWords {H : Type} : DataW H := .agg [.lit (.string []), .lit (.string [101]), .lit (.string [115]), .lit (.string [101, 101]), .lit (.string [101, 115]), .lit (.string [115, 101]), .lit (.string [115, 115]), .lit (.string [112, 115, 107])]

/-- 'pintlelaw15.PatternOwn': WHATEVER THE INPUT: true; the input reads as it did. -/
def patternOwnSpec : ChangeSpec := { name := "patternOwn", fn := fun _ => fun
  | [d1, d2, d3, d4] => { results := [.lit (.bool true)], args := [d1, d2, d3, d4] }
  | _ => none }
def patternOwnRow : OpenClaim := { program := "ytpfidohkohldaaagreatdoor", sum := "8cace8e5bbefe29d645d75263cbbf8a59c67e74340da19ba68a3cede14841926", func := "pintle/pintlelaw15.PatternOwn", spec := "patternOwn", inPlace := ["internal/abi.NoEscape", "slices.overlaps[int]", "internal/bytealg.MakeNoZero"], unfollowed := true, recurses := true, named := ["pintle/api.ErrInvalid", "pintle/api.ErrText", "pintle/pattern.heads", "pintle/pattern.tokenWords", "pintle/api.ErrUnsafe", "pintle/pattern.rules", "pintle/api.ErrTwice", "pintle/api.ErrLacks", "pintle/pattern.hazards", "pintle/api.ErrArg"], apart := false, laid := [("pintle/api.ErrArg", laid_pintle_api_ErrArg), ("pintle/api.ErrText", laid_pintle_api_ErrText), ("pintle/api.ErrInvalid", laid_pintle_api_ErrInvalid), ("pintle/api.ErrTwice", laid_pintle_api_ErrTwice), ("pintle/api.ErrLacks", laid_pintle_api_ErrLacks), ("pintle/api.ErrUnsafe", laid_pintle_api_ErrUnsafe), ("pintle/pattern.rules", laid_pintle_pattern_rules), ("pintle/pattern.hazards", laid_pintle_pattern_hazards), ("pintle/pattern.heads", laid_pintle_pattern_heads), ("pintle/pattern.tokenWords", laid_pintle_pattern_tokenWords)] }
def PatternOwnSaid : Prop := patternOwnRow.holds Tryz.pinned (OpenSpec.ofChange patternOwnSpec)

/-- ITS FALSE NEIGHBOUR: 'it returns false'. Refute it at one input. -/
def patternOwnWrong : ChangeSpec := { name := "patternOwn", fn := fun _ => fun
  | [d1, d2, d3, d4] => { results := [.lit (.bool false)], args := [d1, d2, d3, d4] }
  | _ => none }
def PatternOwnWrongFalsely : Prop := patternOwnRow.holds Tryz.pinned (OpenSpec.ofChange patternOwnWrong)

/- THE SECOND FORM. 'bulk': how many values and letters a reading holds, each counted each time it is reached (what is shared counts as often as it is met; a slice's spare places count too). A statement '..UptoSaid' is the law's where the arguments, and the package variables that the reading takes, are together of bulk at most 1048576: NARROWER than '..Said'. Prove '..Said' where nothing that the law and all that it calls make is longer than what came in: it says more and counts as full. Else prove '..UptoSaid'. A law counts once. -/
mutual
def uptoBulk {H : Type} : DataW H → Nat
  | .lit (.string bytes) => bytes.length + 1
  | .lit _ => 1
  | .nil => 1
  | .ptr d => uptoBulk d + 1
  | .slice elems spare => uptoBulkAll elems + uptoBulkAll spare + 1
  | .agg parts => uptoBulkAll parts + 1
  | .iface _ d => uptoBulk d + 1
  | .map entries => uptoBulkEntries entries + 1
  | .held _ => 1
def uptoBulkAll {H : Type} : List (DataW H) → Nat
  | [] => 0
  | d :: r => uptoBulk d + uptoBulkAll r
def uptoBulkEntries {H : Type} : List (Lit × DataW H) → Nat
  | [] => 0
  | x :: r => uptoBulkEntry x + uptoBulkEntries r
def uptoBulkEntry {H : Type} : Lit × DataW H → Nat
  | (.string bytes, d) => bytes.length + uptoBulk d + 1
  | (_, d) => uptoBulk d + 1
 end
def uptoSmall : (H : Type) → List (DataW H) → Bool := fun _ ds => decide (uptoBulkAll ds ≤ 1048576)
def OpenSpec.upto (s : _root_.Go.ChangeSpec) : _root_.Go.OpenSpec := { _root_.Go.OpenSpec.ofChange s with cond := some uptoSmall }

/-- 'pintlelaw15.PatternOwn', WHERE WHAT IT READS IS OF BULK AT MOST 1048576: true; the input reads as it did. -/
def patternOwnUptoRow : OpenClaim := { program := "ytpfidohkohldaaagreatdoor", sum := "8cace8e5bbefe29d645d75263cbbf8a59c67e74340da19ba68a3cede14841926", func := "pintle/pintlelaw15.PatternOwn", spec := "patternOwn", inPlace := ["internal/abi.NoEscape", "slices.overlaps[int]", "internal/bytealg.MakeNoZero"], unfollowed := true, recurses := true, named := ["pintle/api.ErrInvalid", "pintle/api.ErrText", "pintle/pattern.heads", "pintle/pattern.tokenWords", "pintle/api.ErrUnsafe", "pintle/pattern.rules", "pintle/api.ErrTwice", "pintle/api.ErrLacks", "pintle/pattern.hazards", "pintle/api.ErrArg"], apart := false, laid := [("pintle/api.ErrArg", laid_pintle_api_ErrArg), ("pintle/api.ErrText", laid_pintle_api_ErrText), ("pintle/api.ErrInvalid", laid_pintle_api_ErrInvalid), ("pintle/api.ErrTwice", laid_pintle_api_ErrTwice), ("pintle/api.ErrLacks", laid_pintle_api_ErrLacks), ("pintle/api.ErrUnsafe", laid_pintle_api_ErrUnsafe), ("pintle/pattern.rules", laid_pintle_pattern_rules), ("pintle/pattern.hazards", laid_pintle_pattern_hazards), ("pintle/pattern.heads", laid_pintle_pattern_heads), ("pintle/pattern.tokenWords", laid_pintle_pattern_tokenWords)], narrowed := true }
def PatternOwnUptoSaid : Prop := patternOwnUptoRow.holds Tryz.pinned (OpenSpec.upto patternOwnSpec)

end Rows
end Go.Proofs.YtpfidohkohldaaaGreatDoor
