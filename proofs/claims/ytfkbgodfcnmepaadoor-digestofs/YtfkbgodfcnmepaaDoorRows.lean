/-
  NARROWER THAN 'FOR EVERY INPUT', by the rows' own cells (each row's printed sentence says how): DigestNews: laid · DigestPlays: laid · DigestOfs: laid · DigestTwo: laid · DigestNothing: laid · DigestCuts: laid.
  DERIVED. THE GIVEN ROWS OF THIS SEAT. 6 by the template 'for every input the law returns true; each argument reads behind the call as it read before'; 0 by the template 'total and deterministic' (their statements: YtfkbgodfcnmepaaDoorTotals.lean).
  GIVEN WITH THE SEED: the statements are not yours to turn. If you find one false, say at which input.
  Laid BY PROGRAM, IN A SANDBOX (cutbox-rows.mjs): the forced cells as the released guide's own fill.sh prints them over the translation 089e69bfe88ba5f7… (all of the seat's roots in one cut). By AI agents, Wed Nov 11 2026. No macro, syntax, notation, axiom, sorry.
-/
import Derived.Test.YtfkbgodfcnmepaaDoorChecked
import GoSem.Claim
import GoSem.ClaimJoined
import GoSem.ClaimMapViews
import Derived.JoinedTies
import Derived.KernelRfl
namespace Go.Proofs.YtfkbgodfcnmepaaDoor
/- THE CELL 'sum', in the pinned program and in every row, IS THE sha256 OF THE DUMP (.gsa) THAT YtfkbgodfcnmepaaDoorProg.lean LOADS. Nothing in Lean hashes anything: it is a label: what it is worth is what the hold of that sum in a sandbox is worth. -/
noncomputable def Tryd.pinned : Pinned := { name := "ytfkbgodfcnmepaadoor", sum := "089e69bfe88ba5f7e0956edb093c6a06d95e05c2ede81c60939cfd03762597b9", checked := Tryd.checked }
namespace Rows
def none {H : Type} : Left H := { results := [], args := [] }

/- WHAT THE LISTED PACKAGE-LEVEL VARIABLES READ AS WHEN THE CALL BEGINS. Each datum BY PROGRAM (the guide's laid-datum.mjs) off the statement by which the dump's own 'gosem.cut.vars' lays the variable. In a bare row this is a premise. The card (YtfkbgodfcnmepaaDoorCards.lean) ties it to the program's text. -/
def laid_pintle_api_ErrArg {H : Type} : DataW H := .iface "*errors.errorString" (.ptr (.agg [.lit (.string [112, 105, 110, 116, 108, 101, 58, 32, 97, 114, 103, 117, 109, 101, 110, 116])]))
def laid_pintle_digest_beginning {H : Type} : DataW H := .agg [.lit (.int .u32 1779033703), .lit (.int .u32 3144134277), .lit (.int .u32 1013904242), .lit (.int .u32 2773480762), .lit (.int .u32 1359893119), .lit (.int .u32 2600822924), .lit (.int .u32 528734635), .lit (.int .u32 1541459225)]

/-- 'pintlelaw8.DigestNews': WHATEVER THE INPUT: true; the input reads as it did. -/
def digestNewsSpec : ChangeSpec := { name := "digestNews", fn := fun _ => fun
  | [d1, d2] => { results := [.lit (.bool true)], args := [d1, d2] }
  | _ => none }
def digestNewsRow : OpenClaim := { program := "ytfkbgodfcnmepaadoor", sum := "089e69bfe88ba5f7e0956edb093c6a06d95e05c2ede81c60939cfd03762597b9", func := "pintle/pintlelaw8.DigestNews", spec := "digestNews", inPlace := ["sync/atomic.AddInt64", "sync/atomic.LoadInt64"], unfollowed := true, recurses := true, named := ["pintle/api.ErrArg", "pintle/digest.beginning"], apart := false, laid := [("pintle/api.ErrArg", laid_pintle_api_ErrArg), ("pintle/digest.beginning", laid_pintle_digest_beginning)] }
def DigestNewsSaid : Prop := digestNewsRow.holds Tryd.pinned (OpenSpec.ofChange digestNewsSpec)

/-- ITS FALSE NEIGHBOUR: 'it returns false'. Refute it at one input. -/
def digestNewsWrong : ChangeSpec := { name := "digestNews", fn := fun _ => fun
  | [d1, d2] => { results := [.lit (.bool false)], args := [d1, d2] }
  | _ => none }
def DigestNewsWrongFalsely : Prop := digestNewsRow.holds Tryd.pinned (OpenSpec.ofChange digestNewsWrong)

/-- 'pintlelaw8.DigestPlays': WHATEVER THE INPUT: true; the input reads as it did. -/
def digestPlaysSpec : ChangeSpec := { name := "digestPlays", fn := fun _ => fun
  | [d1, d2, d3] => { results := [.lit (.bool true)], args := [d1, d2, d3] }
  | _ => none }
def digestPlaysRow : OpenClaim := { program := "ytfkbgodfcnmepaadoor", sum := "089e69bfe88ba5f7e0956edb093c6a06d95e05c2ede81c60939cfd03762597b9", func := "pintle/pintlelaw8.DigestPlays", spec := "digestPlays", inPlace := ["sync/atomic.AddInt64", "sync/atomic.LoadInt64"], unfollowed := true, recurses := true, named := ["pintle/api.ErrArg", "pintle/digest.beginning"], apart := false, laid := [("pintle/api.ErrArg", laid_pintle_api_ErrArg), ("pintle/digest.beginning", laid_pintle_digest_beginning)] }
def DigestPlaysSaid : Prop := digestPlaysRow.holds Tryd.pinned (OpenSpec.ofChange digestPlaysSpec)

/-- ITS FALSE NEIGHBOUR: 'it returns false'. Refute it at one input. -/
def digestPlaysWrong : ChangeSpec := { name := "digestPlays", fn := fun _ => fun
  | [d1, d2, d3] => { results := [.lit (.bool false)], args := [d1, d2, d3] }
  | _ => none }
def DigestPlaysWrongFalsely : Prop := digestPlaysRow.holds Tryd.pinned (OpenSpec.ofChange digestPlaysWrong)

/-- 'pintlelaw8.DigestOfs': WHATEVER THE INPUT: true; the input reads as it did. -/
def digestOfsSpec : ChangeSpec := { name := "digestOfs", fn := fun _ => fun
  | [d] => { results := [.lit (.bool true)], args := [d] }
  | _ => none }
def digestOfsRow : OpenClaim := { program := "ytfkbgodfcnmepaadoor", sum := "089e69bfe88ba5f7e0956edb093c6a06d95e05c2ede81c60939cfd03762597b9", func := "pintle/pintlelaw8.DigestOfs", spec := "digestOfs", inPlace := ["sync/atomic.AddInt64", "sync/atomic.LoadInt64"], unfollowed := true, recurses := true, named := ["pintle/api.ErrArg", "pintle/digest.beginning"], apart := false, laid := [("pintle/api.ErrArg", laid_pintle_api_ErrArg), ("pintle/digest.beginning", laid_pintle_digest_beginning)] }
def DigestOfsSaid : Prop := digestOfsRow.holds Tryd.pinned (OpenSpec.ofChange digestOfsSpec)

/-- ITS FALSE NEIGHBOUR: 'it returns false'. Refute it at one input. -/
def digestOfsWrong : ChangeSpec := { name := "digestOfs", fn := fun _ => fun
  | [d] => { results := [.lit (.bool false)], args := [d] }
  | _ => none }
def DigestOfsWrongFalsely : Prop := digestOfsRow.holds Tryd.pinned (OpenSpec.ofChange digestOfsWrong)

/-- 'pintlelaw8.DigestTwo': WHATEVER THE INPUT: true; the input reads as it did. -/
def digestTwoSpec : ChangeSpec := { name := "digestTwo", fn := fun _ => fun
  | [d1, d2, d3, d4] => { results := [.lit (.bool true)], args := [d1, d2, d3, d4] }
  | _ => none }
def digestTwoRow : OpenClaim := { program := "ytfkbgodfcnmepaadoor", sum := "089e69bfe88ba5f7e0956edb093c6a06d95e05c2ede81c60939cfd03762597b9", func := "pintle/pintlelaw8.DigestTwo", spec := "digestTwo", inPlace := ["sync/atomic.AddInt64", "sync/atomic.LoadInt64"], named := ["pintle/api.ErrArg", "pintle/digest.beginning"], apart := false, laid := [("pintle/api.ErrArg", laid_pintle_api_ErrArg), ("pintle/digest.beginning", laid_pintle_digest_beginning)] }
def DigestTwoSaid : Prop := digestTwoRow.holds Tryd.pinned (OpenSpec.ofChange digestTwoSpec)

/-- ITS FALSE NEIGHBOUR: 'it returns false'. Refute it at one input. -/
def digestTwoWrong : ChangeSpec := { name := "digestTwo", fn := fun _ => fun
  | [d1, d2, d3, d4] => { results := [.lit (.bool false)], args := [d1, d2, d3, d4] }
  | _ => none }
def DigestTwoWrongFalsely : Prop := digestTwoRow.holds Tryd.pinned (OpenSpec.ofChange digestTwoWrong)

/-- 'pintlelaw8.DigestNothing': WHATEVER THE INPUT: true; the input reads as it did. -/
def digestNothingSpec : ChangeSpec := { name := "digestNothing", fn := fun _ => fun
  | [d] => { results := [.lit (.bool true)], args := [d] }
  | _ => none }
def digestNothingRow : OpenClaim := { program := "ytfkbgodfcnmepaadoor", sum := "089e69bfe88ba5f7e0956edb093c6a06d95e05c2ede81c60939cfd03762597b9", func := "pintle/pintlelaw8.DigestNothing", spec := "digestNothing", inPlace := ["sync/atomic.AddInt64", "sync/atomic.LoadInt64"], named := ["pintle/digest.beginning", "pintle/api.ErrArg"], apart := false, laid := [("pintle/api.ErrArg", laid_pintle_api_ErrArg), ("pintle/digest.beginning", laid_pintle_digest_beginning)] }
def DigestNothingSaid : Prop := digestNothingRow.holds Tryd.pinned (OpenSpec.ofChange digestNothingSpec)

/-- ITS FALSE NEIGHBOUR: 'it returns false'. Refute it at one input. -/
def digestNothingWrong : ChangeSpec := { name := "digestNothing", fn := fun _ => fun
  | [d] => { results := [.lit (.bool false)], args := [d] }
  | _ => none }
def DigestNothingWrongFalsely : Prop := digestNothingRow.holds Tryd.pinned (OpenSpec.ofChange digestNothingWrong)

/-- 'pintlelaw8.DigestCuts': WHATEVER THE INPUT: true; the input reads as it did. -/
def digestCutsSpec : ChangeSpec := { name := "digestCuts", fn := fun _ => fun
  | [d1, d2] => { results := [.lit (.bool true)], args := [d1, d2] }
  | _ => none }
def digestCutsRow : OpenClaim := { program := "ytfkbgodfcnmepaadoor", sum := "089e69bfe88ba5f7e0956edb093c6a06d95e05c2ede81c60939cfd03762597b9", func := "pintle/pintlelaw8.DigestCuts", spec := "digestCuts", inPlace := ["sync/atomic.AddInt64", "sync/atomic.LoadInt64"], named := ["pintle/api.ErrArg", "pintle/digest.beginning"], apart := false, laid := [("pintle/api.ErrArg", laid_pintle_api_ErrArg), ("pintle/digest.beginning", laid_pintle_digest_beginning)] }
def DigestCutsSaid : Prop := digestCutsRow.holds Tryd.pinned (OpenSpec.ofChange digestCutsSpec)

/-- ITS FALSE NEIGHBOUR: 'it returns false'. Refute it at one input. -/
def digestCutsWrong : ChangeSpec := { name := "digestCuts", fn := fun _ => fun
  | [d1, d2] => { results := [.lit (.bool false)], args := [d1, d2] }
  | _ => none }
def DigestCutsWrongFalsely : Prop := digestCutsRow.holds Tryd.pinned (OpenSpec.ofChange digestCutsWrong)

/- THE SECOND FORM. 'bulk': how many values and letters a reading holds, each counted each time it is reached (what is shared counts as often as it is met; a slice's spare places count too). A statement '..UptoSaid' is the law's where the arguments, and the package variables that the reading takes, are together of bulk at most 1048576: NARROWER than '..Said'. Prove '..Said' where nothing that the law and all that it calls make is longer than what came in: it says more and counts as full. Else prove '..UptoSaid'. A law counts once. -/
mutual
def uptoBulk {H : Type} : DataW H → Nat
  | .lit (.string bytes) => bytes.length + 1
  | .lit _ => 1
  | .nil => 1
  | .ptr d => uptoBulk d + 1
  | .slice elems spare => uptoBulkAll elems + uptoBulkAll spare + 1
  | .agg parts => uptoBulkAll parts + 1
  | .iface _ d => uptoBulk d + 1
  | .map entries => uptoBulkEntries entries + 1
  | .held _ => 1
def uptoBulkAll {H : Type} : List (DataW H) → Nat
  | [] => 0
  | d :: r => uptoBulk d + uptoBulkAll r
def uptoBulkEntries {H : Type} : List (Lit × DataW H) → Nat
  | [] => 0
  | x :: r => uptoBulkEntry x + uptoBulkEntries r
def uptoBulkEntry {H : Type} : Lit × DataW H → Nat
  | (.string bytes, d) => bytes.length + uptoBulk d + 1
  | (_, d) => uptoBulk d + 1
 end
def uptoSmall : (H : Type) → List (DataW H) → Bool := fun _ ds => decide (uptoBulkAll ds ≤ 1048576)
def OpenSpec.upto (s : _root_.Go.ChangeSpec) : _root_.Go.OpenSpec := { _root_.Go.OpenSpec.ofChange s with cond := some uptoSmall }

/-- 'pintlelaw8.DigestNews', WHERE WHAT IT READS IS OF BULK AT MOST 1048576: true; the input reads as it did. -/
def digestNewsUptoRow : OpenClaim := { program := "ytfkbgodfcnmepaadoor", sum := "089e69bfe88ba5f7e0956edb093c6a06d95e05c2ede81c60939cfd03762597b9", func := "pintle/pintlelaw8.DigestNews", spec := "digestNews", inPlace := ["sync/atomic.AddInt64", "sync/atomic.LoadInt64"], unfollowed := true, recurses := true, named := ["pintle/api.ErrArg", "pintle/digest.beginning"], apart := false, laid := [("pintle/api.ErrArg", laid_pintle_api_ErrArg), ("pintle/digest.beginning", laid_pintle_digest_beginning)], narrowed := true }
def DigestNewsUptoSaid : Prop := digestNewsUptoRow.holds Tryd.pinned (OpenSpec.upto digestNewsSpec)

/-- 'pintlelaw8.DigestPlays', WHERE WHAT IT READS IS OF BULK AT MOST 1048576: true; the input reads as it did. -/
def digestPlaysUptoRow : OpenClaim := { program := "ytfkbgodfcnmepaadoor", sum := "089e69bfe88ba5f7e0956edb093c6a06d95e05c2ede81c60939cfd03762597b9", func := "pintle/pintlelaw8.DigestPlays", spec := "digestPlays", inPlace := ["sync/atomic.AddInt64", "sync/atomic.LoadInt64"], unfollowed := true, recurses := true, named := ["pintle/api.ErrArg", "pintle/digest.beginning"], apart := false, laid := [("pintle/api.ErrArg", laid_pintle_api_ErrArg), ("pintle/digest.beginning", laid_pintle_digest_beginning)], narrowed := true }
def DigestPlaysUptoSaid : Prop := digestPlaysUptoRow.holds Tryd.pinned (OpenSpec.upto digestPlaysSpec)

/-- 'pintlelaw8.DigestOfs', WHERE WHAT IT READS IS OF BULK AT MOST 1048576: true; the input reads as it did. -/
def digestOfsUptoRow : OpenClaim := { program := "ytfkbgodfcnmepaadoor", sum := "089e69bfe88ba5f7e0956edb093c6a06d95e05c2ede81c60939cfd03762597b9", func := "pintle/pintlelaw8.DigestOfs", spec := "digestOfs", inPlace := ["sync/atomic.AddInt64", "sync/atomic.LoadInt64"], unfollowed := true, recurses := true, named := ["pintle/api.ErrArg", "pintle/digest.beginning"], apart := false, laid := [("pintle/api.ErrArg", laid_pintle_api_ErrArg), ("pintle/digest.beginning", laid_pintle_digest_beginning)], narrowed := true }
def DigestOfsUptoSaid : Prop := digestOfsUptoRow.holds Tryd.pinned (OpenSpec.upto digestOfsSpec)

/-- 'pintlelaw8.DigestTwo', WHERE WHAT IT READS IS OF BULK AT MOST 1048576: true; the input reads as it did. -/
def digestTwoUptoRow : OpenClaim := { program := "ytfkbgodfcnmepaadoor", sum := "089e69bfe88ba5f7e0956edb093c6a06d95e05c2ede81c60939cfd03762597b9", func := "pintle/pintlelaw8.DigestTwo", spec := "digestTwo", inPlace := ["sync/atomic.AddInt64", "sync/atomic.LoadInt64"], named := ["pintle/api.ErrArg", "pintle/digest.beginning"], apart := false, laid := [("pintle/api.ErrArg", laid_pintle_api_ErrArg), ("pintle/digest.beginning", laid_pintle_digest_beginning)], narrowed := true }
def DigestTwoUptoSaid : Prop := digestTwoUptoRow.holds Tryd.pinned (OpenSpec.upto digestTwoSpec)

/-- 'pintlelaw8.DigestNothing', WHERE WHAT IT READS IS OF BULK AT MOST 1048576: true; the input reads as it did. -/
def digestNothingUptoRow : OpenClaim := { program := "ytfkbgodfcnmepaadoor", sum := "089e69bfe88ba5f7e0956edb093c6a06d95e05c2ede81c60939cfd03762597b9", func := "pintle/pintlelaw8.DigestNothing", spec := "digestNothing", inPlace := ["sync/atomic.AddInt64", "sync/atomic.LoadInt64"], named := ["pintle/digest.beginning", "pintle/api.ErrArg"], apart := false, laid := [("pintle/api.ErrArg", laid_pintle_api_ErrArg), ("pintle/digest.beginning", laid_pintle_digest_beginning)], narrowed := true }
def DigestNothingUptoSaid : Prop := digestNothingUptoRow.holds Tryd.pinned (OpenSpec.upto digestNothingSpec)

/-- 'pintlelaw8.DigestCuts', WHERE WHAT IT READS IS OF BULK AT MOST 1048576: true; the input reads as it did. -/
def digestCutsUptoRow : OpenClaim := { program := "ytfkbgodfcnmepaadoor", sum := "089e69bfe88ba5f7e0956edb093c6a06d95e05c2ede81c60939cfd03762597b9", func := "pintle/pintlelaw8.DigestCuts", spec := "digestCuts", inPlace := ["sync/atomic.AddInt64", "sync/atomic.LoadInt64"], named := ["pintle/api.ErrArg", "pintle/digest.beginning"], apart := false, laid := [("pintle/api.ErrArg", laid_pintle_api_ErrArg), ("pintle/digest.beginning", laid_pintle_digest_beginning)], narrowed := true }
def DigestCutsUptoSaid : Prop := digestCutsUptoRow.holds Tryd.pinned (OpenSpec.upto digestCutsSpec)

end Rows
end Go.Proofs.YtfkbgodfcnmepaaDoor
