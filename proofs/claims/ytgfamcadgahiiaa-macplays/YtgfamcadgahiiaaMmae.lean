import Derived.Laws.Tables
import Derived.Test.YtgfamcadgahiiaaMmad
namespace Go.Proofs.Ytgfamcadgahiiaa
set_option linter.unusedSimpArgs false
set_option linter.unusedVariables false
open Go.ChangeShapes Go.WideShapes Go.ChangeAt Go.RowKit Go.Pin Go.Prm
theorem wpRun {P : Program} {o : Oper} {a : Act} {w w' : World} {v : Value} {d : Option Nat} {K : Act → World → Prop} {Q : Exit → Act → World → Prop} (hd : o.dst = d) (hrun : (execOp a.eval o).run P w = .ok (.value v) w') (h : K (a.put d v) w') : Oper.wp P o a w K Q := by
  subst hd
  unfold Oper.wp
  rw [hrun]
  exact h
theorem wpCall {P : Program} {o : Oper} {a : Act} {w : World} {K : Act → World → Prop} {Q : Exit → Act → World → Prop} {f : Nat} {xs : Array Operand} {ts : Array TypeId} {args : Array Value} {v : Value} {R : World → Prop} {d : Option Nat}
    (ho : o.op = .call { callee := .value (.func f), args := xs, argTypes := ts }) (hd : o.dst = d) (ha : xs.map a.eval = args) (hen : ∀ w, (callFunc f args).run P w = .ok (.enter f args) w) (hc : Calls P f args w fun e w' => e = .returned v ∧ R w') (h : ∀ w', R w' → K (a.put d v) w') : Oper.wp P o a w K Q := by
  subst hd
  unfold Oper.wp execOp
  simp only [ho]
  go_simp
  refine hc.mono ?_
  rintro e w' ⟨rfl, hr⟩
  exact h w' hr
theorem wpCallX {α : Type} {P : Program} {o : Oper} {a : Act} {w : World} {K : Act → World → Prop} {Q : Exit → Act → World → Prop} {f : Nat} {xs : Array Operand} {ts : Array TypeId} {args : Array Value} {v : α → Value} {R : α → World → Prop} {d : Option Nat}
    (ho : o.op = .call { callee := .value (.func f), args := xs, argTypes := ts }) (hd : o.dst = d) (ha : xs.map a.eval = args) (hen : ∀ w, (callFunc f args).run P w = .ok (.enter f args) w) (hc : Calls P f args w fun e w' => ∃ x, e = .returned (v x) ∧ R x w') (h : ∀ x w', R x w' → K (a.put d (v x)) w') : Oper.wp P o a w K Q := by
  subst hd
  unfold Oper.wp execOp
  simp only [ho]
  go_simp
  refine hc.mono ?_
  rintro e w' ⟨x, rfl, hr⟩
  exact h x w' hr
theorem wpBuiltin {P : Program} {o : Oper} {a : Act} {w w' : World} {K : Act → World → Prop} {Q : Exit → Act → World → Prop} {x y : Operand} {t t' : TypeId} {v u z : Value} {d : Option Nat}
    (ho : o.op = .call { callee := .builtin .copy, args := #[x, y], argTypes := #[t, t'] }) (hd : o.dst = d) (hx : a.eval x = v) (hy : a.eval y = u) (hr : (Builtin.copy_ #[t, t'] o.type #[v, u]).run P w = .ok z w') (h : K (a.put d z) w') : Oper.wp P o a w K Q := by
  subst hd
  unfold Oper.wp execOp
  simp only [ho, resolve, invoke, builtin, Sem.run_bind, Sem.run_pure, Result.andThen_ok, List.map_toArray, List.map_cons, List.map_nil, hx, hy, hr]
  exact h
section
variable {a : Act} {o : Oper} {x y : Operand} {g : Nat}
theorem run_assign {P : Program} {v : Value} (ho : o.op = .assign x) (he : a.eval x = v) (w : World) : (execOp a.eval o).run P w = .ok (.value v) w := by
  unfold execOp
  simp only [ho, he]
  rfl
theorem run_fM0 (ho : o.op = .fieldAddr 69 x 0) (he : a.eval x = .pointer (some ⟨g, 0, none⟩)) (w : World) : (execOp a.eval o).run Try.prog w = .ok (.value (.pointer (some ⟨g, 0, none⟩))) w := by
  unfold execOp
  simp only [ho, he]
  go_simp
theorem run_fM1 (ho : o.op = .fieldAddr 69 x 1) (he : a.eval x = .pointer (some ⟨g, 0, none⟩)) (w : World) : (execOp a.eval o).run Try.prog w = .ok (.value (.pointer (some ⟨g, 1, none⟩))) w := by
  unfold execOp
  simp only [ho, he]
  go_simp
theorem run_fM2 (ho : o.op = .fieldAddr 69 x 2) (he : a.eval x = .pointer (some ⟨g, 0, none⟩)) (w : World) : (execOp a.eval o).run Try.prog w = .ok (.value (.pointer (some ⟨g, 6, none⟩))) w := by
  unfold execOp
  simp only [ho, he]
  go_simp
theorem run_fM3 (ho : o.op = .fieldAddr 69 x 3) (he : a.eval x = .pointer (some ⟨g, 0, none⟩)) (w : World) : (execOp a.eval o).run Try.prog w = .ok (.value (.pointer (some ⟨g, 22, none⟩))) w := by
  unfold execOp
  simp only [ho, he]
  go_simp
theorem run_fM4 (ho : o.op = .fieldAddr 69 x 4) (he : a.eval x = .pointer (some ⟨g, 0, none⟩)) (w : World) : (execOp a.eval o).run Try.prog w = .ok (.value (.pointer (some ⟨g, 27, none⟩))) w := by
  unfold execOp
  simp only [ho, he]
  go_simp
theorem run_fM5 (ho : o.op = .fieldAddr 69 x 5) (he : a.eval x = .pointer (some ⟨g, 0, none⟩)) (w : World) : (execOp a.eval o).run Try.prog w = .ok (.value (.pointer (some ⟨g, 44, none⟩))) w := by
  unfold execOp
  simp only [ho, he]
  go_simp
theorem run_ldR {f : Nat} {rv : Value} (ho : o.op = .load 25 x) (he : a.eval x = .pointer (some ⟨g, f, none⟩)) (w : World) (hg : w.cell? ⟨g, f, none⟩ = some rv) : (execOp a.eval o).run Try.prog w = .ok (.value rv) w := by
  unfold execOp
  simp only [ho, he]
  go_simp
theorem run_ldI {f : Nat} {v : Int} (ho : o.op = .load 3 x) (he : a.eval x = .pointer (some ⟨g, f, none⟩)) (w : World) (hg : w.cell? ⟨g, f, none⟩ = some (.int .i64 v)) : (execOp a.eval o).run Try.prog w = .ok (.value (.int .i64 v)) w := by
  unfold execOp
  simp only [ho, he]
  go_simp
theorem run_ldN {f : Nat} {cs : List Int} (hl : cs.length = 5) (ho : o.op = .load 66 x) (he : a.eval x = .pointer (some ⟨g, f, none⟩)) (w : World) (hg : w.rangeAt g f (cs.map (Value.int .u64))) : (execOp a.eval o).run Try.prog w = .ok (.value (.agg (VI .u64 cs))) w := by
  unfold execOp
  simp only [ho, he, Instr.loadAt, Instr.sureAddr, Sem.run_bind, Sem.run_pure, Result.andThen_ok, run_loadVar_mid w g f 66 (cs.map (Value.int .u64)) _ hg Try.underlying66 rfl (by rw [List.length_map, hl]; kernel_rfl)]
  rfl
theorem run_ld17 {f : Nat} {cs : List Int} (hl : cs.length = 17) (ho : o.op = .load 67 x) (he : a.eval x = .pointer (some ⟨g, f, none⟩)) (w : World) (hg : w.rangeAt g f (cs.map (Value.int .u8))) : (execOp a.eval o).run Try.prog w = .ok (.value (.agg (VI .u8 cs))) w := by
  unfold execOp
  simp only [ho, he, Instr.loadAt, Instr.sureAddr, Sem.run_bind, Sem.run_pure, Result.andThen_ok, run_loadVar_mid w g f 67 (cs.map (Value.int .u8)) _ hg Try.underlying67 rfl (by rw [List.length_map, hl]; kernel_rfl)]
  rfl
theorem run_ld16 {f : Nat} {cs : List Int} (hl : cs.length = 16) (ho : o.op = .load 35 x) (he : a.eval x = .pointer (some ⟨g, f, none⟩)) (w : World) (hg : w.rangeAt g f (cs.map (Value.int .u8))) : (execOp a.eval o).run Try.prog w = .ok (.value (.agg (VI .u8 cs))) w := by
  unfold execOp
  simp only [ho, he, Instr.loadAt, Instr.sureAddr, Sem.run_bind, Sem.run_pure, Result.andThen_ok, run_loadVar_mid w g f 35 (cs.map (Value.int .u8)) _ hg Try.underlying35 rfl (by rw [List.length_map, hl]; kernel_rfl)]
  rfl
theorem run_ldT {f : Nat} {cs : List Int} (hl : cs.length = 16) (ho : o.op = .load 36 x) (he : a.eval x = .pointer (some ⟨g, f, none⟩)) (w : World) (hg : w.rangeAt g f (cs.map (Value.int .u8))) : (execOp a.eval o).run Try.prog w = .ok (.value (.agg (VI .u8 cs))) w := by
  unfold execOp
  simp only [ho, he, Instr.loadAt, Instr.sureAddr, Sem.run_bind, Sem.run_pure, Result.andThen_ok, run_loadVar_mid w g f 36 (cs.map (Value.int .u8)) _ hg Try.underlying36 rfl (by rw [List.length_map, hl]; kernel_rfl)]
  rfl
theorem run_ldK {f : Nat} {cs : List Int} (hl : cs.length = 32) (ho : o.op = .load 23 x) (he : a.eval x = .pointer (some ⟨g, f, none⟩)) (w : World) (hg : w.rangeAt g f (cs.map (Value.int .u8))) : (execOp a.eval o).run Try.prog w = .ok (.value (.agg (VI .u8 cs))) w := by
  unfold execOp
  simp only [ho, he, Instr.loadAt, Instr.sureAddr, Sem.run_bind, Sem.run_pure, Result.andThen_ok, run_loadVar_mid w g f 23 (cs.map (Value.int .u8)) _ hg Try.underlying23 rfl (by rw [List.length_map, hl]; kernel_rfl)]
  rfl
/-- a part of an array -/
theorem run_sl17 {f : Nat} (ho : o.op = .slice 67 x none none none) (he : a.eval x = .pointer (some ⟨g, f, none⟩)) (w : World) : (execOp a.eval o).run Try.prog w = .ok (.value (.slice (some ⟨g, f, none⟩) 17 17)) w := by
  unfold execOp
  simp only [ho, he]
  go_simp
theorem run_sl16 {f : Nat} (ho : o.op = .slice 35 x none none none) (he : a.eval x = .pointer (some ⟨g, f, none⟩)) (w : World) : (execOp a.eval o).run Try.prog w = .ok (.value (.slice (some ⟨g, f, none⟩) 16 16)) w := by
  unfold execOp
  simp only [ho, he]
  go_simp
theorem run_gtr {v : Nat} (ho : o.op = .binOp .gtr 3 x y 3) (hx : a.eval x = .int .i64 (v : Int)) (hy : a.eval y = .int .i64 0) (w : World) : (execOp a.eval o).run Try.prog w = .ok (.value (.bool (decide (0 < v)))) w := by
  unfold execOp
  simp only [ho, hx, hy]
  go_simp
theorem run_eq16 {v : Nat} (ho : o.op = .binOp .eql 3 x y 3) (hx : a.eval x = .int .i64 (v : Int)) (hy : a.eval y = .int .i64 16) (w : World) : (execOp a.eval o).run Try.prog w = .ok (.value (.bool (decide (v = 16)))) w := by
  unfold execOp
  simp only [ho, hx, hy]
  go_simp
  rw [Bool.eq_iff_iff]
  simp
  omega
end
theorem sixteenM {l : List Int} (h : l.length = 16) : ∃ k0 k1 k2 k3 k4 k5 k6 k7 k8 k9 k10 k11 k12 k13 k14 k15, l = [k0, k1, k2, k3, k4, k5, k6, k7, k8, k9, k10, k11, k12, k13, k14, k15] := by
  match l, h with
  | [k0, k1, k2, k3, k4, k5, k6, k7, k8, k9, k10, k11, k12, k13, k14, k15], _ => exact ⟨k0, k1, k2, k3, k4, k5, k6, k7, k8, k9, k10, k11, k12, k13, k14, k15, rfl⟩
def z16 : List Int := List.replicate 16 0
def z17 : List Int := List.replicate 17 0
theorem built_mac (ra : Option Addr) (x0 x1 x2 x3 x4 k0 k1 k2 k3 k4 k5 k6 k7 k8 k9 k10 k11 k12 k13 k14 k15 : Int) : Program.built Try.prog 69 [(0, .pointer ra), (1, .agg (VI .u64 [x0, x1, x2, x3, x4])), (2, .agg (VI .u8 [k0, k1, k2, k3, k4, k5, k6, k7, k8, k9, k10, k11, k12, k13, k14, k15]))] = some (macL (.pointer ra) [x0, x1, x2, x3, x4] [k0, k1, k2, k3, k4, k5, k6, k7, k8, k9, k10, k11, k12, k13, k14, k15] z5 z17 0).toArray := by kernel_rfl
theorem run_buildM {a : Act} {o : Oper} {x y z : Nat} {ra : Option Addr} {r m : List Int} (hr : r.length = 5) (hm : m.length = 16) (ho : o.op = .build 69 #[(0, .tmp x), (1, .tmp y), (2, .tmp z)]) (hx : a.eval (.tmp x) = .pointer ra) (hy : a.eval (.tmp y) = .agg (VI .u64 r)) (hz : a.eval (.tmp z) = .agg (VI .u8 m)) (w : World) :
    (execOp a.eval o).run Try.prog w = .ok (.value (.agg (macL (.pointer ra) r m z5 z17 0).toArray)) w := by
  obtain ⟨x0, x1, x2, x3, x4, rfl⟩ := five hr
  obtain ⟨k0, k1, k2, k3, k4, k5, k6, k7, k8, k9, k10, k11, k12, k13, k14, k15, rfl⟩ := sixteenM hm
  unfold execOp
  have hb := run_build (P := Try.prog) w 69 #[(0, a.eval (.tmp x)), (1, a.eval (.tmp y)), (2, a.eval (.tmp z))] _ (by rw [hx, hy, hz]; exact built_mac ra x0 x1 x2 x3 x4 k0 k1 k2 k3 k4 k5 k6 k7 k8 k9 k10 k11 k12 k13 k14 k15)
  simp only [ho]
  have e : (Array.map (fun (x : Nat × Operand) => (x.fst, a.eval x.snd)) #[(0, Operand.tmp x), (1, .tmp y), (2, .tmp z)]) = #[(0, a.eval (.tmp x)), (1, a.eval (.tmp y)), (2, a.eval (.tmp z))] := by simp
  rw [e]
  simp only [Sem.run_bind, hb, Result.andThen_ok]
  rfl
section
variable {a : Act} {o : Oper} {x y : Operand} {g : Nat}
theorem run_slKlo (ho : o.op = .slice 23 x none (some y) none) (he : a.eval x = .pointer (some ⟨g, 0, none⟩)) (hy : a.eval y = .int .i64 16) (w : World) : (execOp a.eval o).run Try.prog w = .ok (.value (.slice (some ⟨g, 0, none⟩) 16 32)) w := by
  unfold execOp
  simp only [ho, he, Option.map_some, Option.map_none, hy]
  go_simp
theorem run_slKhi (ho : o.op = .slice 23 x (some y) none none) (he : a.eval x = .pointer (some ⟨g, 0, none⟩)) (hy : a.eval y = .int .i64 16) (w : World) : (execOp a.eval o).run Try.prog w = .ok (.value (.slice (some ⟨g, 16, none⟩) 16 16)) w := by
  unfold execOp
  simp only [ho, he, Option.map_some, Option.map_none, hy]
  go_simp
theorem run_ap {ad : Option Addr} {len cap : Nat} (hl : 16 ≤ len) (ho : o.op = .sliceToArrayPointer 35 x) (he : a.eval x = .slice ad len cap) (w : World) : (execOp a.eval o).run Try.prog w = .ok (.value (.pointer ad)) w := by
  unfold execOp
  simp only [ho, he, Sem.run_bind, run_arrayAt (P := Try.prog) (w := w) 35 5 16 ad len cap Try.underlying35 hl, Result.andThen_ok]
  rfl
theorem run_slHeld {f h : Nat} (hh : h ≤ 16) (ho : o.op = .slice 67 x (some y) (some (.const (.int .i64 16))) none) (he : a.eval x = .pointer (some ⟨g, f, none⟩)) (hy : a.eval y = .int .i64 (h : Int)) (w : World) : (execOp a.eval o).run Try.prog w = .ok (.value (.slice (some ⟨g, f + h, none⟩) (16 - h) (17 - h))) w := by
  have h1 : (h : Int) ≤ 16 := by omega
  have h2 : ¬ (17 : Int) = h := by omega
  have h3 : ¬ (17 : Nat) = h := by omega
  have h4 : ¬ (17 - h = 0) := by omega
  unfold execOp
  simp only [ho, he, Option.map_some, Option.map_none, hy]
  go_simp
  first | done | omega | (constructor <;> omega)
theorem run_ix17 {h : Nat} (hh : h < 17) (ho : o.op = .indexAddr 67 x y) (he : a.eval x = .pointer (some ⟨g, 0, none⟩)) (hy : a.eval y = .int .i64 (h : Int)) (w : World) : (execOp a.eval o).run Try.prog w = .ok (.value (.pointer (some ⟨g, h, none⟩))) w := by
  have h1 : (h : Int) < 17 := by omega
  unfold execOp
  simp only [ho, he, hy]
  go_simp
end
end Go.Proofs.Ytgfamcadgahiiaa
