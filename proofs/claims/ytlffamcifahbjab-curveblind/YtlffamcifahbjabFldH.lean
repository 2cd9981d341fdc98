import Derived.Test.YtlffamcifahbjabFldT
import Derived.Test.YtlffamcifahbjabChecked
namespace Go.Proofs.Ytlffamcifahbjab
set_option linter.unusedSimpArgs false
open Go.ChangeShapes Go.WideShapes Go.ChangeAt Go.RowKit Go.Pin Go.Fld
theorem own : ownKnob Try.prog.godebug = none := by kernel_rfl
theorem laidOut : laidOutB Try.prog = true := by kernel_rfl
theorem key_of {l : List Int} (hl : l.length = 32) (h : ∀ x ∈ l, (Lit.int .u8 x).wf = true) : Key32 l := ⟨hl, fun x hx => by
  have := bounds_u8 (h x hx)
  omega⟩
theorem u64_of {x : Int} (h : (Lit.int .u64 x).wf = true) : 0 ≤ x ∧ x < 18446744073709551616 := by
  have := bounds_u64 h
  omega
theorem u32_of {x : Int} (h : (Lit.int .u32 x).wf = true) : ∃ n : Nat, x = (n : Int) ∧ n < 4294967296 := by
  have := bounds_u32 h
  exact ⟨x.toNat, by omega, by omega⟩
end Go.Proofs.Ytlffamcifahbjab
