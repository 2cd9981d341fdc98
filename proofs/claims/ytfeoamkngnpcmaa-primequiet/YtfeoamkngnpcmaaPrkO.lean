import Derived.Test.YtfeoamkngnpcmaaPrkW
import Derived.Deep.Slices
namespace Go.Proofs.Ytfeoamkngnpcmaa
set_option linter.unusedSimpArgs false
open Go.ChangeShapes Go.WideShapes Go.ChangeAt Go.RowKit Go.Pin Go.Prm Go.Deep
section
variable {H : Type} {enc : TypeId × Value → H} {P : Program} {w : World} {base : Nat} {spare : Nat → Bool} {held : Bool}
theorem row_of_trod {t e : TypeId} {n : Nat} {k : IntKind} {fuel : Nat} {cs : List Value} {x : DataW H × List MemPlace} (ht : P.underlying t = some (.array n e)) (he : P.underlying e = some (.int k)) (hce : P.cellsOf e = 1) (hlen : cs.length = n)
    (h : DataW.trod enc P w base spare held fuel t cs = some x) : ∃ l : List Int, cs = l.map (Value.int k) ∧ l.length = n ∧ ∀ x ∈ l, (Lit.int k x).wf = true := by
  obtain ⟨xs, m, _, _, hl, hxl, hall⟩ := DataW.trod_array ht h
  have key : ∀ i, i < n → ∃ x, cs[i]? = some (.int k x) ∧ (Lit.int k x).wf = true := by
    intro i hi
    have h1 := hall i hi
    rw [List.getElem?_eq_getElem (by omega)] at h1
    obtain ⟨x, hx, _, hw⟩ := DataW.trod_int he h1
    refine ⟨x, ?_, hw⟩
    rw [hce, Nat.mul_one] at hx
    have h3 := congrArg (fun z => z[0]?) hx
    simp at h3
    exact h3
  refine ⟨(List.range n).map (fun i : Nat => intOf (cs[i]?.getD .nilIface)), ?_, by simp, ?_⟩
  · apply List.ext_getElem?
    intro i
    by_cases hi : i < n
    · obtain ⟨x, hx, _⟩ := key i hi
      rw [hx]
      simp [hi, hx, intOf]
    · rw [List.getElem?_eq_none (by omega)]
      simp [hi]
  · intro x hx
    simp only [List.mem_map, List.mem_range] at hx
    obtain ⟨i, hi, rfl⟩ := hx
    obtain ⟨y, hy, hw⟩ := key i hi
    rw [hy]
    simpa [intOf] using hw
end
theorem cut_at {cs : List Value} (n m : Nat) : cs.drop n = (cs.drop n).take m ++ cs.drop (n + m) := by
  have := (List.take_append_drop m (cs.drop n)).symm
  rw [List.drop_drop] at this
  exact this
theorem cut6 {cs : List Value} (h : cs.length = 37) : cs = (cs.drop 0).take 1 ++ ((cs.drop 1).take 1 ++ ((cs.drop 2).take 1 ++ ((cs.drop 3).take 1 ++ ((cs.drop 4).take 16 ++ (cs.drop 20).take 17)))) := by
  have e : (cs.drop 20).take 17 = cs.drop 20 := List.take_of_length_le (by rw [List.length_drop]; omega)
  rw [e, ← cut_at 4 16, ← cut_at 3 1, ← cut_at 2 1, ← cut_at 1 1, ← cut_at 0 1]
  rfl
/-- a script -/
abbrev Stp := Int × Int × Int × Int × List Int × List Int
def Stp.cells (q : Stp) : List Value := stepL q.1 q.2.1 q.2.2.1 q.2.2.2.1 q.2.2.2.2.1 q.2.2.2.2.2
def Scr (W : World) (v : Value) (l : List Stp) : Prop := ∃ a c, v = .slice a l.length c ∧ l.length ≤ c ∧ (l = [] ∨ ∃ b o, a = some ⟨b, o, none⟩ ∧ b < W.heap.size ∧ ∀ i q, l[i]? = some q → W.rangeAt b (o + i * 37) q.cells ∧ Key16 q.2.2.2.2.1 ∧ Key17 q.2.2.2.2.2)
theorem open_script {H : Type} {enc : TypeId × Value → H} {W : World} {base : Nat} {spare : Nat → Bool} {held : Bool} {a : Option Addr} {len cap : Nat} {d : DataW H} {p : List MemPlace}
    (h : DataW.Trod enc Try.prog W base spare held 22 (.slice a len cap) d p) : ∃ l : List Stp, l.length = len ∧ Scr W (.slice a len cap) l := by
  have he : Try.prog.underlying 41 = _ := Try.underlying41
  obtain ⟨fuel, hf⟩ := h
  rcases open_slice Try.underlying22 hf with ⟨hcs, _⟩ | ⟨x, len', cap', m, n, D, Pl, hcs, _, hl, hm, hmm, _, hx⟩
  · simp [Value.cells] at hcs
    obtain ⟨rfl, rfl, rfl⟩ := hcs
    exact ⟨[], rfl, none, 0, rfl, Nat.le_refl _, .inl rfl⟩
  · simp [Value.cells] at hcs
    obtain ⟨rfl, rfl, rfl⟩ := hcs
    have hlm : len ≤ m := by rw [hmm]; split <;> omega
    have ce : Try.prog.cellsOf 41 = 37 := by kernel_rfl
    have ci : Try.prog.cellsOf 3 = 1 := by kernel_rfl
    have c16 : Try.prog.cellsOf 38 = 16 := by kernel_rfl
    have c17 : Try.prog.cellsOf 39 = 17 := by kernel_rfl
    have each : ∀ i, i < len → ∃ q : Stp, (∀ j v, q.cells[j]? = some v → W.cell? (x.add (i * 37 + j)) = some v) ∧ Key16 q.2.2.2.2.1 ∧ Key17 q.2.2.2.2.2 := by
      intro i hi
      obtain ⟨cs', h1, h2⟩ := hx i (by omega)
      rw [ce] at h1
      obtain ⟨_, hlen, hcell⟩ := World.cells?_some h1
      obtain ⟨xs, k, hk, hxy, _, hxl, hf⟩ := DataW.trod_struct he h2
      match xs, hxl with
      | [y0, y1, y2, y3, y4, y5], _ =>
        have g0 := hf 0 _ rfl
        have g1 := hf 1 _ rfl
        have g2 := hf 2 _ rfl
        have g3 := hf 3 _ rfl
        have g4 := hf 4 _ rfl
        have g5 := hf 5 _ rfl
        simp only [List.getElem_toArray, List.getElem_cons_zero, List.getElem_cons_succ, ci, c16, c17, List.getElem?_cons_zero, List.getElem?_cons_succ] at g0 g1 g2 g3 g4 g5
        obtain ⟨z0, hz0, _⟩ := DataW.trod_int Try.underlying3 g0
        obtain ⟨z1, hz1, _⟩ := DataW.trod_int Try.underlying3 g1
        obtain ⟨z2, hz2, _⟩ := DataW.trod_int Try.underlying3 g2
        obtain ⟨z3, hz3, _⟩ := DataW.trod_int Try.underlying3 g3
        obtain ⟨low, hlow, ll, wl⟩ := row_of_trod Try.underlying38 Try.underlying5 (by kernel_rfl) (by rw [List.length_take, List.length_drop]; omega) g4
        obtain ⟨row, hrow, lr, wr⟩ := row_of_trod Try.underlying39 Try.underlying5 (by kernel_rfl) (by rw [List.length_take, List.length_drop]; omega) g5
        have hcs : cs' = stepL z0 z1 z2 z3 low row := by
          have := cut6 hlen
          rw [hz0, hz1, hz2, hz3, hlow, hrow] at this
          rw [this]
          rfl
        refine ⟨(z0, z1, z2, z3, low, row), fun j v hv => ?_, key16_of ll wl, key17_of lr wr⟩
        have hj : j < cs'.length := by
          have h9 : cs'[j]? = some v := by rw [hcs]; exact hv
          exact (List.getElem?_eq_some_iff.1 h9).1
        have e := hcell j (by omega)
        rw [add_add] at e
        rw [e, ← hv]
        show cs'[j]? = (stepL z0 z1 z2 z3 low row)[j]?
        rw [hcs]
    obtain ⟨q, hq⟩ := choose_lt each
    refine ⟨(List.range len).map q, by simp, some x, cap, by simp, by simpa using hl, ?_⟩
    by_cases h0 : len = 0
    · left; subst h0; rfl
    right
    obtain ⟨b, o, s⟩ := x
    have hc0 := (hq 0 (by omega)).1 0 (.int .i64 (q 0).1) rfl
    have hs : s = none := by
      rw [Nat.zero_mul] at hc0
      simpa [Addr.add] using World.cell?_spot hc0
    subst hs
    refine ⟨b, o, rfl, by
      rw [add_mid] at hc0
      exact World.block_lt_of_cell? W _ hc0, fun i q' hq' => ?_⟩
    have hi : i < len := by simpa using (List.getElem?_eq_some_iff.1 hq').1
    have e : q' = q i := by
      rw [List.getElem?_map, List.getElem?_range hi] at hq'
      simpa using hq'.symm
    subst e
    refine ⟨fun j v hv => ?_, (hq i hi).2⟩
    have := (hq i hi).1 j v hv
    rw [add_mid, ← Nat.add_assoc] at this
    exact this
end Go.Proofs.Ytfeoamkngnpcmaa
