import Derived.Test.YtefnlaookmpbhaaEngB
import Derived.Test.YtefnlaookmpbhaaStrB
namespace Go.Proofs.Ytefnlaookmpbhaa
set_option linter.unusedSimpArgs false
set_option linter.unusedVariables false
open Go.ChangeShapes Go.WideShapes Go.ChangeAt Go.RowKit Go.Pin Go.Str
theorem wp_as {P : Program} {c c' : Code} {Q : Exit → Act → World → Prop} {a : Act} {w : World} (h : c = c') (hc : Code.wp P c' Q a w) : Code.wp P c Q a w := by rw [h]; exact hc
/-- the region number n -/
def findReg (n : Nat) : Code → Option Code
  | .region i ops d => if i = n then some (.region i ops d) else none
  | .seq a b => match findReg n a with
    | some c => some c
    | none => findReg n b
  | .block _ c => findReg n c
  | .loop c => findReg n c
  | .scope c => findReg n c
  | .cond _ a b => match findReg n a with
    | some c => some c
    | none => findReg n b
  | _ => none
theorem wpCall {P : Program} {o : Oper} {a : Act} {w : World} {K : Act → World → Prop} {Q : Exit → Act → World → Prop} {f : Nat} {xs : Array Operand} {ts : Array TypeId} {args : Array Value} {v : Value} {R : World → Prop} {d : Option Nat}
    (ho : o.op = .call { callee := .value (.func f), args := xs, argTypes := ts }) (hd : o.dst = d) (ha : xs.map a.eval = args) (hen : ∀ w, (callFunc f args).run P w = .ok (.enter f args) w) (hc : Calls P f args w fun e w' => e = .returned v ∧ R w') (h : ∀ w', R w' → K (a.put d v) w') : Oper.wp P o a w K Q := by
  subst hd
  unfold Oper.wp execOp
  simp only [ho]
  go_simp
  refine hc.mono ?_
  rintro e w' ⟨rfl, hr⟩
  exact h w' hr
theorem wi (n : Int) (m : Nat) (h : n = m) (hm : m < 9223372036854775808) : IntKind.i64.wrap n = (m : Int) := by subst h; rw [IntKind.wrap_i64]; omega
section
variable {a : Act} {o : Oper} {x y : Operand} {g p q : Nat}
theorem run_addI (h : p + q < 9223372036854775808) (ho : o.op = .binOp .add 3 x y 3) (hx : a.eval x = .int .i64 (p : Int)) (hy : a.eval y = .int .i64 (q : Int)) (w : World) : (execOp a.eval o).run Try.prog w = .ok (.value (.int .i64 ((p + q : Nat) : Int))) w := by
  have hw : IntKind.i64.wrap ((p : Int) + (q : Int)) = ((p + q : Nat) : Int) := wi _ _ (by omega) h
  unfold execOp
  simp only [ho, hx, hy]
  go_simp
theorem run_mulI (h : p * q < 9223372036854775808) (ho : o.op = .binOp .mul 3 x y 3) (hx : a.eval x = .int .i64 (p : Int)) (hy : a.eval y = .int .i64 (q : Int)) (w : World) : (execOp a.eval o).run Try.prog w = .ok (.value (.int .i64 ((p * q : Nat) : Int))) w := by
  have hw : IntKind.i64.wrap ((p : Int) * (q : Int)) = ((p * q : Nat) : Int) := wi _ _ (by simp) h
  unfold execOp
  simp only [ho, hx, hy]
  go_simp
theorem run_remI (h0 : 0 < q) (h : p < 9223372036854775808) (ho : o.op = .binOp .rem 3 x y 3) (hx : a.eval x = .int .i64 (p : Int)) (hy : a.eval y = .int .i64 (q : Int)) (w : World) : (execOp a.eval o).run Try.prog w = .ok (.value (.int .i64 ((p % q : Nat) : Int))) w := by
  have hq : ¬ ((q : Int) = 0) := by omega
  have hq' : ¬ (q = 0) := by omega
  have hm : p % q < 9223372036854775808 := Nat.lt_of_le_of_lt (Nat.mod_le _ _) h
  have hw : IntKind.i64.wrap ((p : Int).tmod (q : Int)) = ((p % q : Nat) : Int) := by
    rw [show (p : Int).tmod (q : Int) = ((p % q : Nat) : Int) by rw [Int.tmod_eq_emod_of_nonneg (by omega)]; rfl]
    exact wi _ _ rfl hm
  unfold execOp
  simp only [ho, hx, hy]
  go_simp
  exact Int.tmod_eq_emod_of_nonneg (by omega)
theorem run_ixW {n : Nat} (hn : n < 16) (ho : o.op = .indexAddr 68 x y) (he : a.eval x = .pointer (some ⟨g, 0, none⟩)) (hy : a.eval y = .int .i64 (n : Int)) (w : World) : (execOp a.eval o).run Try.prog w = .ok (.value (.pointer (some ⟨g, n, none⟩))) w := by
  have : (n : Int) < 16 := by omega
  unfold execOp
  simp only [ho, he, hy]
  go_simp
theorem run_ixF {n : Nat} (hn : n < 16) (ho : o.op = .indexAddr 88 x y) (he : a.eval x = .pointer (some ⟨g, 0, none⟩)) (hy : a.eval y = .int .i64 (n : Int)) (w : World) : (execOp a.eval o).run Try.prog w = .ok (.value (.pointer (some ⟨g, 4 * n, none⟩))) w := by
  have : (n : Int) < 16 := by omega
  unfold execOp
  simp only [ho, he, hy]
  go_simp
end
end Go.Proofs.Ytefnlaookmpbhaa
