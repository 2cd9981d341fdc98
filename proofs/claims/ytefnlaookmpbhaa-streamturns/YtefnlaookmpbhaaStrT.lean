import Derived.Test.YtefnlaookmpbhaaStrS
import Derived.Test.YtefnlaookmpbhaaStrG
namespace Go.Proofs.Ytefnlaookmpbhaa
set_option linter.unusedSimpArgs false
set_option linter.unusedVariables false
open Go.ChangeShapes Go.WideShapes Go.ChangeAt Go.RowKit Go.Pin Go.Str
/-- a part of a slice -/
theorem run_mid (w : World) (g lo hi len cap : Nat) (x y : Int) (hx : x = (lo : Int)) (hy : y = (hi : Int)) (h1 : lo ≤ hi) (h2 : hi ≤ cap) (h0 : lo < cap) : (Instr.slice 40 (.slice (some ⟨g, 0, none⟩) len cap) (some (.int .i64 x)) (some (.int .i64 y)) none).run Try.prog w = .ok (.slice (some ⟨g, lo, none⟩) (hi - lo) (cap - lo)) w := by
  subst hx; subst hy
  have e1 : ¬ cap = lo := by omega
  have e2 : (⟨g, 0, none⟩ : Addr).add lo = ⟨g, lo, none⟩ := by rw [add_mid, Nat.zero_add]
  have h3 : ((lo : Nat) : Int) ≤ (hi : Int) := by omega
  have h4 : ((hi : Nat) : Int) ≤ (cap : Int) := by omega
  simp [Instr.slice, run_underlying Try.underlying40, Instr.sliceBounds, run_sliceBound, size_u8, sliced, e1, e2, h3, h4, h1, h2]
section
variable {a : Act} {o : Oper} {x y z : Operand}
theorem run_loadKey {g : Nat} {l : List Nat} (hl : l.length = 32) (ho : o.op = .load 23 x) (he : a.eval x = .pointer (some ⟨g, 0, none⟩)) (w : World) (hg : RK w g l 23) : (execOp a.eval o).run Try.prog w = .ok (.value (.agg (VN .u8 l))) w := by
  unfold execOp
  simp only [ho, he, Instr.loadAt, Instr.sureAddr, Sem.run_bind, Sem.run_pure, Result.andThen_ok, run_loadVar_row w g 23 23 _ (0, 0) _ hg Try.underlying23 rfl (infoK hl)]
theorem run_loadNonce {g : Nat} {l : List Nat} (hl : l.length = 12) (ho : o.op = .load 26 x) (he : a.eval x = .pointer (some ⟨g, 0, none⟩)) (w : World) (hg : RK w g l 26) : (execOp a.eval o).run Try.prog w = .ok (.value (.agg (VN .u8 l))) w := by
  unfold execOp
  simp only [ho, he, Instr.loadAt, Instr.sureAddr, Sem.run_bind, Sem.run_pure, Result.andThen_ok, run_loadVar_row w g 26 26 _ (0, 0) _ hg Try.underlying26 rfl (infoNn hl)]
theorem run_slicePre {g n len cap : Nat} (hn : n ≤ cap) (h0 : 0 < cap) (ho : o.op = .slice 40 x none (some y) none) (he : a.eval x = .slice (some ⟨g, 0, none⟩) len cap) (hy : a.eval y = .int .i64 (n : Int)) (w : World) : (execOp a.eval o).run Try.prog w = .ok (.value (.slice (some ⟨g, 0, none⟩) n cap)) w := by
  have := run_pre w g n len cap (n : Int) rfl hn h0
  unfold execOp
  simp only [ho, he, Option.map_some, Option.map_none, hy, run_sliceAt_slice _ 40 _ _ _ _ Try.underlying40, Sem.run_bind, this, Result.andThen_ok]
  rfl
theorem run_sliceMid {g lo hi len cap : Nat} (h1 : lo ≤ hi) (h2 : hi ≤ cap) (h0 : lo < cap) (ho : o.op = .slice 40 x (some y) (some z) none) (he : a.eval x = .slice (some ⟨g, 0, none⟩) len cap) (hy : a.eval y = .int .i64 (lo : Int)) (hz : a.eval z = .int .i64 (hi : Int)) (w : World) : (execOp a.eval o).run Try.prog w = .ok (.value (.slice (some ⟨g, lo, none⟩) (hi - lo) (cap - lo))) w := by
  have := run_mid w g lo hi len cap (lo : Int) (hi : Int) rfl rfl h1 h2 h0
  unfold execOp
  simp only [ho, he, Option.map_some, Option.map_none, hy, hz, run_sliceAt_slice _ 40 _ _ _ _ Try.underlying40, Sem.run_bind, this, Result.andThen_ok]
  rfl
end
end Go.Proofs.Ytefnlaookmpbhaa
