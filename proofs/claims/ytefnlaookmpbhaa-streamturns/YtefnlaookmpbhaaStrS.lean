import Derived.Test.YtefnlaookmpbhaaStrQ
import Derived.Test.YtefnlaookmpbhaaStrR
namespace Go.Proofs.Ytefnlaookmpbhaa
set_option linter.unusedSimpArgs false
set_option linter.unusedVariables false
open Go.ChangeShapes Go.WideShapes Go.ChangeAt Go.RowKit Go.Pin Go.Str
theorem add_spot {x : Addr} {w : World} {v : Value} (h : w.cell? (x.add 0) = some v) : ∃ b o, x = ⟨b, o, none⟩ := by
  obtain ⟨b, o, s⟩ := x
  cases s with
  | none => exact ⟨b, o, rfl⟩
  | some s =>
    exfalso
    simp only [World.cell?, Addr.add, if_true] at h
    split at h <;> simp_all
theorem nat_list (l : List Int) (h : ∀ x ∈ l, (Lit.int .u8 x).wf = true) : ∃ D : List Nat, l = D.map Int.ofNat ∧ D.length = l.length ∧ ∀ x ∈ D, x < 256 := by
  induction l with
  | nil => exact ⟨[], rfl, rfl, by simp⟩
  | cons a l ih =>
    obtain ⟨D, h1, h2, h3⟩ := ih (fun x hx => h x (by simp [hx]))
    have ha := h a (by simp)
    have hb : 0 ≤ a ∧ a < 256 := by
      simp [Lit.wf] at ha
      have h1 : IntKind.u8.min = 0 := by decide
      have h2 : IntKind.u8.max = 255 := by decide
      omega
    refine ⟨a.toNat :: D, ?_, by simp [h2], fun x hx => ?_⟩
    · simp only [List.map_cons, ← h1]; congr 1; show a = (a.toNat : Int); omega
    · rcases List.mem_cons.1 hx with rfl | hx
      · omega
      · exact h3 x hx
theorem vn_of (l : List Int) (h : ∀ x ∈ l, (Lit.int .u8 x).wf = true) : ∃ D : List Nat, VI .u8 l = VN .u8 D ∧ Bs l.length D := by
  obtain ⟨D, h1, h2, h3⟩ := nat_list l h
  exact ⟨D, by rw [h1]; rfl, h2, h3⟩
theorem u32_of {x : Int} (h : (Lit.int .u32 x).wf = true) : ∃ n : Nat, x = (n : Int) ∧ n < 4294967296 := by
  simp [Lit.wf] at h
  have h1 : IntKind.u32.min = 0 := by decide
  have h2 : IntKind.u32.max = 4294967295 := by decide
  exact ⟨x.toNat, by omega, by omega⟩
theorem i64_of {x : Int} (h : (Lit.int .i64 x).wf = true) : -9223372036854775808 ≤ x ∧ x < 9223372036854775808 := by
  simp [Lit.wf] at h
  have h1 : IntKind.i64.min = -9223372036854775808 := by decide
  have h2 : IntKind.i64.max = 9223372036854775807 := by decide
  omega
/-- bytes that came in -/
theorem open_rd {H : Type} {enc : TypeId × Value → H} {W : World} {a : Option Addr} {len cap : Nat} {d : DataW H} {p : List MemPlace}
    (h : DataW.Trod enc Try.prog W 0 (fun _ => true) true 40 (.slice a len cap) d p) : ∃ D : List Nat, D.length = len ∧ (∀ x ∈ D, x < 256) ∧ len ≤ cap ∧ Rd W (.slice a len cap) D := by
  obtain ⟨fuel, hf⟩ := h
  rcases open_ints Try.underlying40 Try.underlying5 (by kernel_rfl) hf with ⟨hcs, _⟩ | ⟨x, l, c, zs, hcs, _, hl, hm, hz, hx, hcell, hwz⟩
  · simp [Value.cells] at hcs
    obtain ⟨rfl, rfl, rfl⟩ := hcs
    exact ⟨[], rfl, by simp, Nat.le_refl _, none, 0, rfl, Nat.le_refl _, .inl rfl⟩
  · simp [Value.cells] at hcs
    obtain ⟨rfl, rfl, rfl⟩ := hcs
    have hz' : zs.length = cap := by simpa using hz
    obtain ⟨D, h1, h2, h3⟩ := nat_list zs hwz
    have hl2 : (D.take len).length = len := by rw [List.length_take]; omega
    refine ⟨D.take len, hl2, fun y hy => h3 y (List.mem_of_mem_take hy), hl, some x, cap, by rw [hl2], by rw [hl2]; exact hl, ?_⟩
    by_cases e : len = 0
    · left; subst e; simp
    · right
      obtain ⟨b, o, rfl⟩ := add_spot (hcell 0 (by omega))
      refine ⟨b, o, rfl, fun j hj => ?_⟩
      rw [hl2] at hj
      have := hcell j (by omega)
      rw [add_mid] at this
      rw [this, h1]
      simp [List.getD, List.getElem?_take_of_lt hj, show j < D.length by omega]
/-- numbers that came in -/
def RdI (w : World) (a : Option Addr) (C : List Int) : Prop := C = [] ∨ ∃ b o, a = some ⟨b, o, none⟩ ∧ ∀ j, j < C.length → w.cell? ⟨b, o + j, none⟩ = some (.int .i64 (C.getD j 0))
theorem open_ri {H : Type} {enc : TypeId × Value → H} {W : World} {a : Option Addr} {len cap : Nat} {d : DataW H} {p : List MemPlace}
    (h : DataW.Trod enc Try.prog W 0 (fun _ => true) true 49 (.slice a len cap) d p) : ∃ C : List Int, C.length = len ∧ (∀ x ∈ C, -9223372036854775808 ≤ x ∧ x < 9223372036854775808) ∧ RdI W a C ∧ len ≤ maxLen := by
  obtain ⟨fuel, hf⟩ := h
  rcases open_ints Try.underlying49 Try.underlying3 (by kernel_rfl) hf with ⟨hcs, _⟩ | ⟨x, l, c, zs, hcs, _, hl, hm, hz, hx, hcell, hwz⟩
  · simp [Value.cells] at hcs
    obtain ⟨rfl, rfl, rfl⟩ := hcs
    exact ⟨[], rfl, by simp, .inl rfl, Nat.zero_le _⟩
  · simp [Value.cells] at hcs
    obtain ⟨rfl, rfl, rfl⟩ := hcs
    have hz' : zs.length = cap := by simpa using hz
    have hl2 : (zs.take len).length = len := by rw [List.length_take]; omega
    refine ⟨zs.take len, hl2, fun y hy => i64_of (hwz y (List.mem_of_mem_take hy)), ?_, by omega⟩
    by_cases e : len = 0
    · left; subst e; simp
    · right
      obtain ⟨b, o, rfl⟩ := add_spot (hcell 0 (by omega))
      refine ⟨b, o, rfl, fun j hj => ?_⟩
      rw [hl2] at hj
      have := hcell j (by omega)
      rw [add_mid] at this
      rw [this]
      simp [List.getD, List.getElem?_take_of_lt hj]
/-- the beginning of an array, of a slice -/
theorem run_upto (w : World) (t : TypeId) (N g n : Nat) (x : Int) (hx : x = (n : Int)) (hN : 0 < N) (hn : n ≤ N) (ht : Try.prog.underlying t = some (.array N 5)) : (Instr.sliceAt t (.pointer (some ⟨g, 0, none⟩)) none (some (.int .i64 x)) none).run Try.prog w = .ok (.slice (some ⟨g, 0, none⟩) n N) w := by
  subst hx
  have e1 : ¬ N = 0 := by omega
  have e2 : (⟨g, 0, none⟩ : Addr).add 0 = ⟨g, 0, none⟩ := add_mid g 0 0
  have h2 : ((n : Nat) : Int) ≤ (N : Int) := by omega
  simp [Instr.sliceAt, Instr.sureAddr, run_underlying ht, Instr.sliceBounds, run_sliceBound, size_u8, e1, e2, h2, hn]
theorem run_pre (w : World) (g n len cap : Nat) (x : Int) (hx : x = (n : Int)) (hn : n ≤ cap) (h0 : 0 < cap) : (Instr.slice 40 (.slice (some ⟨g, 0, none⟩) len cap) none (some (.int .i64 x)) none).run Try.prog w = .ok (.slice (some ⟨g, 0, none⟩) n cap) w := by
  subst hx
  have e1 : ¬ cap = 0 := by omega
  have e2 : (⟨g, 0, none⟩ : Addr).add 0 = ⟨g, 0, none⟩ := add_mid g 0 0
  have h2 : ((n : Nat) : Int) ≤ (cap : Int) := by omega
  simp [Instr.slice, run_underlying Try.underlying40, Instr.sliceBounds, run_sliceBound, size_u8, sliced, e1, e2, h2, hn]
theorem own : ownKnob Try.prog.godebug = none := by kernel_rfl
theorem laidOut : laidOutB Try.prog = true := by kernel_rfl
end Go.Proofs.Ytefnlaookmpbhaa
