import Derived.Test.YtfkbgodfcnmepabDoorDgV
import Derived.Deep.Slices
namespace Go.Proofs.YtfkbgodfcnmepabDoor
set_option linter.unusedSimpArgs false
set_option linter.unusedVariables false
open Go.ChangeShapes Go.WideShapes Go.ChangeAt Go.RowKit Go.Pin Go.Str Go.Dig Go.Deep
def BytL (Ds : List (List Int)) : Prop := ∀ D ∈ Ds, Byt D
def PSrc (B : Nat) (w : World) (bx : List (Nat × Obj)) (a : Option Addr) (n : Nat) (Ds : List (List Int)) : Prop :=
  (Ds.length = n ∧ n ≤ maxLen) ∧ ∀ j, j < n → ∃ b o u, a = some ⟨b, o, none⟩ ∧ (∀ W, Below B w W → (∀ q ∈ bx, W.heap[q.1]? = some q.2) → W.cell? ⟨b, o + j, none⟩ = some u) ∧ Src B w bx u (Ds.getD j [])
theorem PSrc.sub {B : Nat} {w : World} {bx by' : List (Nat × Obj)} {a : Option Addr} {n : Nat} {Ds : List (List Int)} (h : PSrc B w bx a n Ds) (hs : ∀ p ∈ bx, p ∈ by') : PSrc B w by' a n Ds := by
  refine ⟨h.1, fun j hj => ?_⟩
  obtain ⟨b, o, u, h1, h2, h3⟩ := h.2 j hj
  exact ⟨b, o, u, h1, fun W hW hq => h2 W hW (fun q hm => hq q (hs q hm)), h3.sub hs⟩
theorem u8_of {x : Int} (h : (Lit.int .u8 x).wf = true) : 0 ≤ x ∧ x < 256 := by
  simp [Lit.wf] at h
  have h1 : IntKind.u8.min = 0 := by decide
  have h2 : IntKind.u8.max = 255 := by decide
  omega
theorem i64_of {x : Int} (h : (Lit.int .i64 x).wf = true) : -9223372036854775808 ≤ x ∧ x < 9223372036854775808 := by
  simp [Lit.wf] at h
  have h1 : IntKind.i64.min = -9223372036854775808 := by decide
  have h2 : IntKind.i64.max = 9223372036854775807 := by decide
  omega
theorem add_spot {x : Addr} {w : World} {v : Value} (h : w.cell? (x.add 0) = some v) : ∃ b o, x = ⟨b, o, none⟩ := by
  obtain ⟨b, o, s⟩ := x
  cases s with
  | none => exact ⟨b, o, rfl⟩
  | some s =>
    exfalso
    simp only [World.cell?, Addr.add, if_true] at h
    split at h <;> simp_all
/-- bytes that came in -/
theorem open_cells {H : Type} {enc : TypeId × Value → H} {W : World} {fuel : Nat} {cs : List Value} {x : DataW H × List MemPlace}
    (hf : DataW.trod enc Tryd.prog W 0 (fun _ => true) true fuel 22 cs = some x) : ∃ (v : Value) (D : List Int), cs = [v] ∧ RdB W v D ∧ Byt D ∧ D.length ≤ maxLen := by
  rcases open_ints Tryd.underlying22 Tryd.underlying5 (by kernel_rfl) hf with ⟨hcs, _⟩ | ⟨x, l, c, zs, hcs, _, hl, hm, hz, hx, hcell, hwz⟩
  · exact ⟨_, [], hcs, ⟨none, 0, rfl, Nat.le_refl _, .inl rfl⟩, (fun x hx => nomatch hx), Nat.zero_le _⟩
  · have hz' : zs.length = c := by simpa using hz
    have hl2 : (zs.take l).length = l := by rw [List.length_take]; omega
    refine ⟨_, zs.take l, hcs, ⟨some x, c, by rw [hl2], by rw [hl2]; exact hl, ?_⟩, fun y hy => u8_of (hwz y (List.mem_of_mem_take hy)), by rw [hl2]; omega⟩
    by_cases e : l = 0
    · left; subst e; simp
    · right
      obtain ⟨b, o, rfl⟩ := add_spot (hcell 0 (by omega))
      refine ⟨b, o, rfl, fun j v hv => ?_⟩
      have hj : j < l := by have := (List.getElem?_eq_some_iff.1 hv).1; rw [List.length_map, hl2] at this; exact this
      have := hcell j (by omega)
      rw [add_mid] at this
      rw [this, ← hv]
      simp [List.getElem?_take_of_lt hj, show j < zs.length by omega]
theorem open_rb {H : Type} {enc : TypeId × Value → H} {W : World} {a : Option Addr} {len cap : Nat} {d : DataW H} {p : List MemPlace}
    (h : DataW.Trod enc Tryd.prog W 0 (fun _ => true) true 22 (.slice a len cap) d p) : ∃ D : List Int, D.length = len ∧ Byt D ∧ RdB W (.slice a len cap) D := by
  obtain ⟨fuel, hf⟩ := h
  obtain ⟨v, D, hc, hr, hb, _⟩ := open_cells hf
  have e : v = .slice a len cap := by simp [Value.cells] at hc; exact hc.symm
  subst e
  obtain ⟨a', c', e2, _⟩ := id hr
  injection e2 with _ e3 _
  exact ⟨D, e3.symm, hb, hr⟩
/-- numbers that came in -/
def RdI (w : World) (a : Option Addr) (C : List Int) : Prop := C = [] ∨ ∃ b o, a = some ⟨b, o, none⟩ ∧ ∀ j, j < C.length → w.cell? ⟨b, o + j, none⟩ = some (.int .i64 (C.getD j 0))
theorem RdI.at {w : World} {a : Option Addr} {C : List Int} (h : RdI w a C) (j : Nat) (hj : j < C.length) : ∃ b o, a = some ⟨b, o, none⟩ ∧ w.cell? ⟨b, o + j, none⟩ = some (.int .i64 (C.getD j 0)) := by
  rcases h with rfl | ⟨b, o, h1, h2⟩
  · cases hj
  · exact ⟨b, o, h1, h2 j hj⟩
/-- pieces that came in -/
def PRd (w : World) (a : Option Addr) (Ds : List (List Int)) : Prop := ∀ j, j < Ds.length → ∃ b o u, a = some ⟨b, o, none⟩ ∧ w.cell? ⟨b, o + j, none⟩ = some u ∧ RdB w u (Ds.getD j [])
theorem PRd.src {w : World} {a : Option Addr} {Ds : List (List Int)} (h : PRd w a Ds) (hm : Ds.length ≤ maxLen) (bx : List (Nat × Obj)) : PSrc w.heap.size w bx a Ds.length Ds := by
  refine ⟨⟨rfl, hm⟩, fun j hj => ?_⟩
  obtain ⟨b, o, u, h1, h2, h3⟩ := h j hj
  refine ⟨b, o, u, h1, fun W hW _ => ?_, h3.src bx⟩
  rw [World.cell?_of_block (a := ⟨b, o + j, none⟩) (hW.block b (World.block_lt_of_cell? w _ h2))]
  exact h2
theorem open_pieces {H : Type} {enc : TypeId × Value → H} {W : World} {a : Option Addr} {len cap : Nat} {d : DataW H} {p : List MemPlace}
    (h : DataW.Trod enc Tryd.prog W 0 (fun _ => true) true 35 (.slice a len cap) d p) : ∃ Ds : List (List Int), Ds.length = len ∧ BytL Ds ∧ PRd W a Ds ∧ (∀ D ∈ Ds, D.length ≤ maxLen) ∧ len ≤ maxLen := by
  obtain ⟨fuel, hf⟩ := h
  rcases open_slice Tryd.underlying35 hf with ⟨hcs, _⟩ | ⟨x, len', cap', m, n, D, Pl, hcs, _, hl, hm, hmm, _, hx⟩
  · simp [Value.cells] at hcs
    obtain ⟨rfl, rfl, rfl⟩ := hcs
    exact ⟨[], rfl, (fun D hD => nomatch hD), (fun j hj => nomatch hj), (fun D hD => nomatch hD), Nat.zero_le _⟩
  · simp [Value.cells] at hcs
    obtain ⟨rfl, rfl, rfl⟩ := hcs
    have hlm : len ≤ m := by rw [hmm]; split <;> omega
    have ce : Tryd.prog.cellsOf 22 = 1 := by kernel_rfl
    have each : ∀ i, i < len → ∃ q : Value × List Int, W.cell? (x.add i) = some q.1 ∧ RdB W q.1 q.2 ∧ Byt q.2 ∧ q.2.length ≤ maxLen := by
      intro i hi
      obtain ⟨cs', h1, h2⟩ := hx i (by omega)
      rw [ce] at h1
      obtain ⟨_, hlen, hcell⟩ := World.cells?_some h1
      obtain ⟨v, D, hc, hr, hb, hm⟩ := open_cells h2
      refine ⟨(v, D), ?_, hr, hb, hm⟩
      have e := hcell 0 (by omega)
      rw [add_add, hc] at e
      simpa using e
    obtain ⟨q, hq⟩ := choose_lt each
    have hat : ∀ j, j < len → ((List.range len).map (fun i => (q i).2)).getD j [] = (q j).2 := fun j hj => by simp [List.getD, hj]
    refine ⟨(List.range len).map (fun i => (q i).2), by simp, fun D hD => ?_, fun j hj => ?_, fun D hD => ?_, by omega⟩
    · simp only [List.mem_map, List.mem_range] at hD
      obtain ⟨i, hi, rfl⟩ := hD
      exact (hq i hi).2.2.1
    · have hj' : j < len := by simpa using hj
      obtain ⟨b, o, rfl⟩ := add_spot (w := W) (x := x) (v := (q 0).1) (by exact (hq 0 (by omega)).1)
      have := (hq j hj').1
      rw [add_mid] at this
      refine ⟨b, o, (q j).1, rfl, this, ?_⟩
      rw [hat j hj']
      exact (hq j hj').2.1
    · simp only [List.mem_map, List.mem_range] at hD
      obtain ⟨i, hi, rfl⟩ := hD
      exact (hq i hi).2.2.2
end Go.Proofs.YtfkbgodfcnmepabDoor
