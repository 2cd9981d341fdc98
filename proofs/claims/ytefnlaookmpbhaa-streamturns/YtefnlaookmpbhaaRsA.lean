import Derived.Test.YtefnlaookmpbhaaStrC
namespace Go.Proofs.Ytefnlaookmpbhaa
set_option linter.unusedSimpArgs false
set_option linter.unusedVariables false
open Go.ChangeShapes Go.WideShapes Go.ChangeAt Go.RowKit Go.Pin Go.Str
set_option maxRecDepth 100000 in
set_option maxHeartbeats 4000000 in
theorem rturn (x n : Nat) (hx : x < 4294967296) (hn : n ≤ 16) (w : World) :
    Calls Try.prog 38 #[.int .i64 (x : Int), .int .i64 (n : Int)] w fun e w' => e = .returned (.int .i64 ((rot x n : Nat) : Int)) ∧ w' = w := by
  have HX : Hid (∀ i, i ≤ 16 → 2 ^ i ≤ 65536 ∧ 0 < 2 ^ i) := fun i hi => ⟨by have := Nat.pow_le_pow_right (n := 2) (by decide) hi; omega, Nat.two_pow_pos i⟩
  go_enter Try.func38, Try.ntmps38
  go_wp2
  go_loopw [5, 6] (fun u v w' => ∃ i : Nat, i ≤ n ∧ u = .int .i64 ((2 ^ i : Nat) : Int) ∧ v = .int .i64 (i : Int) ∧ w' = w) (fun _ v _ => n - (intOf v).toNat)
  case atStart => exact ⟨0, by omega, rfl, rfl, rfl⟩
  case round =>
    obtain ⟨i, hi, rfl, rfl, hw⟩ := hrel
    obtain rfl : w = wr := hw.symm
    obtain ⟨u1, u2⟩ := HX.out i (by omega)
    obtain ⟨u, hu⟩ : ∃ u, 2 ^ i = u := ⟨_, rfl⟩
    rw [hu] at u1 u2 ⊢
    have HU : Hid (2 ^ i = u) := hu
    clear hu HX
    by_cases hlt : i < n
    · have b1 : (i : Int) < (n : Int) := by omega
      go_wp2
      go_roundw
      case rel => exact ⟨i + 1, by omega, by rw [Nat.pow_succ, HU.out]; exact congrArg (Value.int .i64) (by omega), by go_num, trivial⟩
      case measure => simp [intOf]; omega
    · have b1 : ¬ (i : Int) < (n : Int) := by omega
      have hxu : x * u < 9223372036854775808 := by
        have := Nat.mul_le_mul (Nat.le_of_lt hx) u1
        omega
      obtain ⟨p, hp⟩ : ∃ p, x * u = p := ⟨_, rfl⟩
      have hpm : (x : Int) * (u : Int) = (p : Int) := by rw [← hp]; simp
      have wp : IntKind.i64.wrap ((x : Int) * (u : Int)) = (p : Int) := by rw [hpm, IntKind.wrap_i64]; omega
      have t1 : (p : Int).tdiv 4294967296 = ((p / 4294967296 : Nat) : Int) := rfl
      have HR : Hid (rot x n = p % 4294967296 + p / 4294967296) := by
        have e : i = n := by omega
        have := HU.out
        rw [e] at this
        show rot x n = _
        unfold rot
        rw [this, hp]
      rw [hp] at hxu
      clear hp
      go_wp2
      go_ret
      rw [HR.out]
      exact ⟨ret_int (by omega), rfl⟩
/-- a box of numbers -/
abbrev RI (w : World) (g : Nat) (L : List Nat) (T : TypeId) : Prop := w.heap[g]? = some (.cells (VN .i64 L) T (0, 0))
theorem RI.cell {w : World} {g : Nat} {L : List Nat} {T : TypeId} (h : RI w g L T) {i : Nat} (hi : i < L.length) : w.cell? ⟨g, i, none⟩ = some (.int .i64 ((L.getD i 0 : Nat) : Int)) := by
  rw [cell_of_row _ _ _ _ _ _ h, VN_at _ _ _ hi]
theorem RI.froz {w : World} {g : Nat} {L : List Nat} {T : TypeId} (h : RI w g L T) (i : Nat) : w.frozen? ⟨g, i, none⟩ = false := frozen_of_row w _ _ _ _ h
theorem RI.set {w : World} {g : Nat} {L : List Nat} {T : TypeId} (h : RI w g L T) (i v : Nat) : RI (w.setCell ⟨g, i, none⟩ (.int .i64 (v : Int))) g (L.set i v) T := by
  unfold RI at h ⊢
  rw [← VN_set]
  simp [World.setCell, Array.getElem?_modify, h]
theorem RI.other {w : World} {g : Nat} {L : List Nat} {T : TypeId} (h : RI w g L T) {g' : Nat} (hn : g ≠ g') (i : Nat) (v : Value) : RI (w.setCell ⟨g', i, none⟩ v) g L T := (heap_setCell_other _ _ _ _ hn).trans h
/-- four cells of a box -/
structure P4 (g i j k m : Nat) (w : World) (a b c d : Nat) : Prop where
  A : w.cell? ⟨g, i, none⟩ = some (.int .i64 (a : Int))
  B : w.cell? ⟨g, j, none⟩ = some (.int .i64 (b : Int))
  C : w.cell? ⟨g, k, none⟩ = some (.int .i64 (c : Int))
  D : w.cell? ⟨g, m, none⟩ = some (.int .i64 (d : Int))
  F : ∀ o, w.frozen? ⟨g, o, none⟩ = false
section
variable {g i j k m : Nat} {w : World} {a b c d : Nat}
theorem P4.sA (h : P4 g i j k m w a b c d) (hij : i ≠ j) (hik : i ≠ k) (him : i ≠ m) (v : Nat) : P4 g i j k m (w.setCell ⟨g, i, none⟩ (.int .i64 (v : Int))) v b c d :=
  ⟨cs_same h.A _, cs_other h.B _ hij, cs_other h.C _ hik, cs_other h.D _ him, fun o => by rw [World.frozen?_setCell]; exact h.F o⟩
theorem P4.sB (h : P4 g i j k m w a b c d) (hij : i ≠ j) (hjk : j ≠ k) (hjm : j ≠ m) (v : Nat) : P4 g i j k m (w.setCell ⟨g, j, none⟩ (.int .i64 (v : Int))) a v c d :=
  ⟨cs_other h.A _ (Ne.symm hij), cs_same h.B _, cs_other h.C _ hjk, cs_other h.D _ hjm, fun o => by rw [World.frozen?_setCell]; exact h.F o⟩
theorem P4.sC (h : P4 g i j k m w a b c d) (hik : i ≠ k) (hjk : j ≠ k) (hkm : k ≠ m) (v : Nat) : P4 g i j k m (w.setCell ⟨g, k, none⟩ (.int .i64 (v : Int))) a b v d :=
  ⟨cs_other h.A _ (Ne.symm hik), cs_other h.B _ (Ne.symm hjk), cs_same h.C _, cs_other h.D _ hkm, fun o => by rw [World.frozen?_setCell]; exact h.F o⟩
theorem P4.sD (h : P4 g i j k m w a b c d) (him : i ≠ m) (hjm : j ≠ m) (hkm : k ≠ m) (v : Nat) : P4 g i j k m (w.setCell ⟨g, m, none⟩ (.int .i64 (v : Int))) a b c v :=
  ⟨cs_other h.A _ (Ne.symm him), cs_other h.B _ (Ne.symm hjm), cs_other h.C _ (Ne.symm hkm), cs_same h.D _, fun o => by rw [World.frozen?_setCell]; exact h.F o⟩
end
theorem info16i {t : List Nat} (h : t.length = 16) : (Try.prog.info? 61).map (·.size) = some (VN .i64 t).size := by rw [VN_size, h]; kernel_rfl
end Go.Proofs.Ytefnlaookmpbhaa
