import Derived.Test.YtfeoamkngnpcmaaPrkC
namespace Go.Proofs.Ytfeoamkngnpcmaa
set_option linter.unusedSimpArgs false
open Go.ChangeShapes Go.WideShapes Go.ChangeAt Go.RowKit Go.Pin Go.Prm
theorem quietAt_load_midV {P : Program} {C : World → Prop} {o : Oper} {a : Act} {Y : World} (ty : TypeId) (x : Operand) (ho : o.op = .load ty x) (b f : Nat) (hx : a.eval x = .pointer (some ⟨b, f, none⟩)) (k : IntKind) (l : List Int) (d : TypeDesc) (hg : Y.rangeAt b f (l.map (Value.int k)))
    (hu : P.underlying ty = some d) (hd : d.isRow = true) (hi : (P.info? ty).map (·.size) = some l.length) : o.quietAt P a C Y (.agg (VI k l)) := by
  unfold Oper.quietAt execOp
  simp only [ho, hx, Instr.loadAt, Instr.sureAddr, Sem.run_bind, Sem.run_pure, Result.andThen_ok, run_loadVar_mid Y b f ty (l.map (Value.int k)) d hg hu hd (by rw [List.length_map]; exact hi)]
  exact ⟨rfl, rfl⟩
/-- the cells of a Step -/
def stepL (kd a b c : Int) (low row : List Int) : List Value := [.int .i64 kd, .int .i64 a, .int .i64 b, .int .i64 c] ++ (low.map (Value.int .u8) ++ row.map (Value.int .u8))
def stepC (kd a b c : Int) (low row : List Int) : Array Value := (stepL kd a b c low row).toArray
theorem step_box {w : World} {q : Nat} {kd a b c : Int} {low row : List Int} (hl : low.length = 16) {T : TypeId} (h : w.heap[q]? = some (.cells (stepC kd a b c low row) T (0, 0))) :
    w.cell? ⟨q, 0, none⟩ = some (.int .i64 kd) ∧ w.cell? ⟨q, 1, none⟩ = some (.int .i64 a) ∧ w.cell? ⟨q, 2, none⟩ = some (.int .i64 b) ∧ w.cell? ⟨q, 3, none⟩ = some (.int .i64 c) ∧ w.rangeAt q 4 (low.map (Value.int .u8)) ∧ w.rangeAt q 20 (row.map (Value.int .u8)) := by
  have hc : ∀ j, w.cell? ⟨q, j, none⟩ = (stepL kd a b c low row)[j]? := fun j => by
    rw [cell_of_row w _ _ _ _ _ h, stepC]; simp
  refine ⟨by rw [hc]; rfl, by rw [hc]; rfl, by rw [hc]; rfl, by rw [hc]; rfl, fun j v hv => ?_, fun j v hv => ?_⟩
  · have hj : j < (low.map (Value.int .u8)).length := (List.getElem?_eq_some_iff.1 hv).1
    rw [hc, stepL, List.getElem?_append_right (by simp), List.getElem?_append_left (by simp at hj ⊢; omega)]
    simp only [List.length_cons, List.length_nil, Nat.add_sub_cancel_left]
    exact hv
  · have hj : j < (row.map (Value.int .u8)).length := (List.getElem?_eq_some_iff.1 hv).1
    rw [hc, stepL, List.getElem?_append_right (by simp; omega), List.getElem?_append_right (by simp; omega)]
    simp only [List.length_cons, List.length_nil, List.length_map, hl]
    rw [show 20 + j - (0 + 1 + 1 + 1 + 1) - 16 = j by omega]
    exact hv
def pl (x : Int) : Nat := (x % 8).toNat
theorem pl_lt (x : Int) : pl x < 8 := by unfold pl; omega
theorem place_is (x : Int) (w : World) : Calls Try.prog 19 #[.int .i64 x] w fun e w' => e = .returned (.int .i64 ((pl x : Nat) : Int)) ∧ w' = w := by
  refine (place_any x w).mono ?_
  rintro e w' ⟨⟨k, hk, hkx, rfl⟩, rfl⟩
  exact ⟨by rw [show k = pl x by unfold pl; omega], rfl⟩
/-- what a step makes of the numbers and of the log -/
def nsx (ns : Nat → Nat) (kd a b c : Int) (low row : List Int) : Nat → Nat :=
  if kd = 1 then upd ns (pl c) (nb (clp low ++ [0]) % P) else if kd = 2 then upd ns (pl c) (nb row % P)
  else if kd = 3 then upd ns (pl c) ((ns (pl a) + ns (pl b)) % P) else if kd = 4 then upd ns (pl c) (ns (pl a) * ns (pl b) % P) else ns
def lgx (l : List (Int × Int)) (kd : Int) : List (Int × Int) := if kd = 3 then l ++ [(3, 11)] else if kd = 4 then l ++ [(3, 12)] else l
theorem lgx_len (l : List (Int × Int)) (kd : Int) : (lgx l kd).length ≤ l.length + 1 := by
  unfold lgx
  split
  · simp
  · split <;> simp
/-- what a step leaves -/
def Stepped (B g : Nat) (S : Nat → Prop) (rv : Value) (ns' : Nat → Nat) (l' : List (Int × Int)) (w w' : World) : Prop :=
  ∃ S' es' vs', St B g S' es' ns' rv l' l' vs' w' ∧ (∀ i, i < 8 → num (es' i) = ns' i) ∧ Grow S w w' ∧ ∀ k, S' k → S k ∨ w.heap.size ≤ k
theorem upd_num {es : Nat → List Int} {ns : Nat → Nat} (h : ∀ i, i < 8 → num (es i) = ns i) (c : Nat) {z : List Int} {m : Nat} (hz : num z = m) : ∀ i, i < 8 → num (upd es c z i) = upd ns c m i := fun i hi => by
  by_cases e : i = c
  · subst e; rw [upd_same, upd_same]; exact hz
  · rw [upd_ne _ _ e, upd_ne _ _ e]; exact h i hi
end Go.Proofs.Ytfeoamkngnpcmaa
