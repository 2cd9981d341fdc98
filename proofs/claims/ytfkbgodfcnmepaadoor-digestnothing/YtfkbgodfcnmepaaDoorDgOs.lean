import Derived.Test.YtfkbgodfcnmepaaDoorDgO
namespace Go.Proofs.YtfkbgodfcnmepaaDoor
set_option linter.unusedSimpArgs false
set_option linter.unusedVariables false
open Go.ChangeShapes Go.WideShapes Go.ChangeAt Go.RowKit Go.Pin Go.Str Go.Dig Go.Deep
/-- a script -/
abbrev Stp := Bool × List Int
def Scr (W : World) (a : Option Addr) (l : List Stp) : Prop := ∀ i, i < l.length → ∃ b o u, a = some ⟨b, o, none⟩ ∧ W.cell? ⟨b, o + i * 2, none⟩ = some (.bool (l.getD i (false, [])).1) ∧ W.cell? ⟨b, o + i * 2 + 1, none⟩ = some u ∧ RdB W u (l.getD i (false, [])).2
theorem open_script {H : Type} {enc : TypeId × Value → H} {W : World} {a : Option Addr} {len cap : Nat} {d : DataW H} {p : List MemPlace}
    (h : DataW.Trod enc Tryd.prog W 0 (fun _ => true) true 41 (.slice a len cap) d p) : ∃ l : List Stp, l.length = len ∧ Scr W a l ∧ (∀ q ∈ l, Byt q.2 ∧ q.2.length ≤ maxLen) := by
  have he : Tryd.prog.underlying 44 = _ := Tryd.underlying44
  obtain ⟨fuel, hf⟩ := h
  rcases open_slice Tryd.underlying41 hf with ⟨hcs, _⟩ | ⟨x, len', cap', m, n, D, Pl, hcs, _, hl, hm, hmm, _, hx⟩
  · simp [Value.cells] at hcs
    obtain ⟨rfl, rfl, rfl⟩ := hcs
    exact ⟨[], rfl, (fun j hj => nomatch hj), (fun D hD => nomatch hD)⟩
  · simp [Value.cells] at hcs
    obtain ⟨rfl, rfl, rfl⟩ := hcs
    have hlm : len ≤ m := by rw [hmm]; split <;> omega
    have ce : Tryd.prog.cellsOf 44 = 2 := by kernel_rfl
    have cb : Tryd.prog.cellsOf 4 = 1 := by kernel_rfl
    have cl : Tryd.prog.cellsOf 22 = 1 := by kernel_rfl
    have each : ∀ i, i < len → ∃ q : Value × Stp, W.cell? (x.add (i * 2)) = some (.bool q.2.1) ∧ W.cell? (x.add (i * 2 + 1)) = some q.1 ∧ RdB W q.1 q.2.2 ∧ Byt q.2.2 ∧ q.2.2.length ≤ maxLen := by
      intro i hi
      obtain ⟨cs', h1, h2⟩ := hx i (by omega)
      rw [ce] at h1
      obtain ⟨_, hlen, hcell⟩ := World.cells?_some h1
      obtain ⟨xs, k, hk, hxy, _, hxl, hf⟩ := DataW.trod_struct he h2
      match xs, hxl with
      | [y0, y1], _ =>
        have g0 := hf 0 _ rfl
        have g1 := hf 1 _ rfl
        simp only [List.getElem_toArray, List.getElem_cons_zero, List.getElem_cons_succ, cb, cl, List.getElem?_cons_zero, List.getElem?_cons_succ] at g0 g1
        obtain ⟨z0, hz0, _⟩ := DataW.trod_bool Tryd.underlying4 g0
        obtain ⟨v, D, hc, hr, hb, hm⟩ := open_cells g1
        have e0 : cs'[0]? = some (.bool z0) := by
          have := congrArg (fun z => z[0]?) hz0
          simpa using this
        have e1 : cs'[1]? = some v := by
          have := congrArg (fun z => z[0]?) hc
          simpa using this
        refine ⟨(v, z0, D), ?_, ?_, hr, hb, hm⟩
        · have e := hcell 0 (by omega)
          rw [add_add, e0] at e
          exact e
        · have e := hcell 1 (by omega)
          rw [add_add, e1] at e
          exact e
    obtain ⟨q, hq⟩ := choose_lt each
    have hat : ∀ j, j < len → ((List.range len).map (fun i => (q i).2)).getD j (false, []) = (q j).2 := fun j hj => by simp [List.getD, hj]
    refine ⟨(List.range len).map (fun i => (q i).2), by simp, fun j hj => ?_, fun D hD => ?_⟩
    · have hj' : j < len := by simpa using hj
      have h0 := (hq 0 (by omega)).1
      rw [Nat.zero_mul] at h0
      obtain ⟨b, o, rfl⟩ := add_spot h0
      have h1 := (hq j hj').1
      have h2 := (hq j hj').2.1
      rw [add_mid] at h1 h2
      refine ⟨b, o, (q j).1, rfl, ?_, by rw [Nat.add_assoc]; exact h2, ?_⟩
      · rw [hat j hj']; exact h1
      · rw [hat j hj']
        exact (hq j hj').2.2.1
    · simp only [List.mem_map, List.mem_range] at hD
      obtain ⟨i, hi, rfl⟩ := hD
      exact (hq i hi).2.2.2
end Go.Proofs.YtfkbgodfcnmepaaDoor
