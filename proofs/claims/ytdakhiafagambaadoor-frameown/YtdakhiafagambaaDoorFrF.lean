import Derived.Test.YtdakhiafagambaaDoorFrE
import Derived.Test.YtdakhiafagambaaDoorFrZ
/- stage 20: what the program's Put and Reader are held to; the law's code, script -/
namespace Go.Proofs.YtdakhiafagambaaDoor
set_option linter.unusedSimpArgs false
set_option linter.unusedVariables false
open Go.ChangeShapes Go.WideShapes Go.ChangeAt Go.RowKit Go.Pin
/-- nothing has changed but the blocks of F, and what is new -/
structure Chg (F : List Nat) (w w' : World) : Prop where
  os : w'.os = w.os
  tape : w'.tape = w.tape
  output : w'.output = w.output
  size : w.heap.size ≤ w'.heap.size
  blk : ∀ k, k < w.heap.size → k ∉ F → w'.heap[k]? = w.heap[k]?
theorem Chg.below {F : List Nat} {q : Nat} {w0 w w' : World} (h : Chg F w w') (hb : Below q w0 w) (hF : ∀ k ∈ F, q ≤ k) (hq : q ≤ w.heap.size) : Below q w0 w' :=
  ⟨h.os.trans hb.os, h.tape.trans hb.tape, h.output.trans hb.output, Nat.le_trans hb.size h.size, fun k hk => (h.blk k (by omega) (fun hm => by have := hF k hm; omega)).trans (hb.block k hk)⟩
theorem Chg.of_below {F : List Nat} {w w' : World} (h : Below w.heap.size w w') : Chg F w w' := ⟨h.os, h.tape, h.output, h.size, fun k hk _ => h.block k hk⟩
/-- what Put is held to -/
def PutC : Prop := ∀ (ea : Int → Addr) (W : World) (vd vm : Value) (D M : List Int), Errs ea W → RdB W vd D → RdB W vm M → D.length ≤ 300000 → M.length ≤ 300000 →
  Calls Tryd.prog 10 #[vd, vm] W fun e w' => ∃ v c, e = .returned (.tuple #[v, EV ea c]) ∧ ((65535 < M.length → c = 3 ∧ v = .slice none 0 0) ∧ (¬ 65535 < M.length → c = 0 ∧ w'.ownsRow W.heap.size 5 1 v (D.length + 2 + M.length) ((D ++ frm M).map (Value.int .u8)))) ∧ Below W.heap.size W w'
/-- what a Reader is held to: rep g H F w: the Reader in block g keeps H, in the blocks F -/
structure RdrC (rep : Nat → List Int → List Nat → World → Prop) : Prop where
  zero : ∀ w : World, rep w.heap.size [] [w.heap.size] (w.alloc (.cells zRd 39))
  lt : ∀ {g H F w}, rep g H F w → ∀ k ∈ F, k < w.heap.size
  keep : ∀ {g H F w w'}, rep g H F w → (∀ k ∈ F, w'.heap[k]? = w.heap[k]?) → w.heap.size ≤ w'.heap.size → rep g H F w'
  feed : ∀ {g : Nat} {H C : List Int} {F : List Nat} {W : World} {v : Value}, rep g H F W → RdB W v C → (∀ k, v.ownBlock = some k → k ∉ F) → H.length + C.length ≤ 1000000 →
    Calls Tryd.prog 19 #[.pointer (some ⟨g, 0, none⟩), v] W fun e w' => e = .returned (.tuple #[]) ∧ Chg F W w' ∧ ∃ F', rep g (H ++ C) F' w' ∧ ∀ k ∈ F', k ∈ F ∨ W.heap.size ≤ k
  next : ∀ {g : Nat} {H : List Int} {F : List Nat} {W : World}, rep g H F W → Byb H → H.length ≤ 1000000 →
    Calls Tryd.prog 20 #[.pointer (some ⟨g, 0, none⟩)] W fun e w' => ∃ v b, e = .returned (.tuple #[v, .bool b]) ∧ Chg F W w' ∧ ∃ F', (∀ k ∈ F', k ∈ F ∨ W.heap.size ≤ k) ∧ (nxt H = none → b = false ∧ v = .slice none 0 0 ∧ rep g H F' w') ∧ (∀ m r, nxt H = some (m, r) → b = true ∧ w'.ownsRow W.heap.size 5 1 v m.length (m.map (Value.int .u8)) ∧ rep g r F' w' ∧ ∀ k, v.ownBlock = some k → k ∉ F')
  held : ∀ {g : Nat} {H : List Int} {F : List Nat} {W : World}, rep g H F W → H.length ≤ 1000000 →
    Calls Tryd.prog 21 #[.pointer (some ⟨g, 0, none⟩)] W fun e w' => e = .returned (.int .i64 (H.length : Int)) ∧ Below W.heap.size W w'
  feed0 : ∀ (W : World) (v : Value) (C : List Int), RdB W v C → Calls Tryd.prog 19 #[.pointer none, v] W fun e w' => e = .returned (.tuple #[]) ∧ Below W.heap.size W w'
  next0 : ∀ W : World, Calls Tryd.prog 20 #[.pointer none] W fun e w' => e = .returned (.tuple #[.slice none 0 0, .bool false]) ∧ Below W.heap.size W w'
  held0 : ∀ W : World, Calls Tryd.prog 21 #[.pointer none] W fun e w' => e = .returned (.int .i64 0) ∧ Below W.heap.size W w'
theorem EV_0 (ea : Int → Addr) : EV ea 0 = .nilIface := rfl
theorem EV_3 (ea : Int → Addr) : EV ea 3 = .iface 63 (.pointer (some (ea 3))) := rfl
set_option maxRecDepth 100000 in
theorem code_any {ea : Int → Addr} (c : Int) (hc : c = 0 ∨ c = 3) (W : World) (hE : Errs ea W) :
    Calls Tryd.prog 12 #[EV ea c] W fun e w' => e = .returned (.int .i64 c) ∧ w' = W := by
  have h3 := (hE 3 (by decide)).1
  have he := eq_err hE (c := 3) (d := 3) (by decide) (by decide)
  simp only [eblk] at h3
  simp only [decide_true] at he
  rcases hc with rfl | rfl
  · rw [EV_0]
    clear he h3
    go_enter Tryd.func12, Tryd.ntmps12
    go_wp2
    go_ret
    exact ⟨rfl, rfl⟩
  · rw [EV_3]
    go_enter Tryd.func12, Tryd.ntmps12
    go_wp2
    go_ret
    exact ⟨rfl, rfl⟩
end Go.Proofs.YtdakhiafagambaaDoor
