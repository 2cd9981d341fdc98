import Derived.Test.YtdakhiafagambaaDoorFrC
import Derived.Test.YtdakhiafagambaaDoorTie
import Derived.Test.YtdakhiafagambaaDoorCards
import Derived.LaidLaws
import Derived.LaidHandle
import Derived.Lay
import Derived.LaidEql
import Derived.SevenTiedAt
namespace Go.Proofs.YtdakhiafagambaaDoor
set_option linter.unusedSimpArgs false
set_option linter.unusedVariables false
open Go.ChangeShapes Go.WideShapes Go.ChangeAt Go.RowKit Go.Pin
theorem own : ownKnob Tryd.prog.godebug = none := by kernel_rfl
theorem laidOut : laidOutB Tryd.prog = true := by kernel_rfl
def laidV : List (String × DataW Unit) := [("pintle/api.ErrLong", Rows.laid_pintle_api_ErrLong)]
theorem g_3 : Tryd.prog.globalNamed "pintle/api.ErrLong" = some (0) := by kernel_rfl
theorem t_3 : (Tryd.prog.globals[0]?).map (·.type) = some 25 := by kernel_rfl
theorem star : ("*errors.errorString" : String) = "*" ++ "errors.errorString" := by decide
theorem row_err : ∀ u, Tryd.prog.typeName? 3 u = some "*errors.errorString" → u = 63 := fun u h =>
  typeName_ptr_named (nm := "errors.errorString") (by rw [← star]; kernel_rfl) (by kernel_rfl) (by decide) u (by rw [← star]; exact h)
/-- where an error's variable lies -/
def eblk : Int → Nat
  | 3 => 0
  | _ => 0
def emsg : Int → List UInt8
  | 3 => [112, 105, 110, 116, 108, 101, 58, 32, 116, 111, 111, 32, 108, 111, 110, 103]
  | _ => []
def ecs : List Int := [3]
/-- the errors' variables, and where they point -/
def Errs (ea : Int → Addr) (W : World) : Prop := ∀ c ∈ ecs, W.cell? ⟨eblk c, 0, none⟩ = some (.iface 63 (.pointer (some (ea c)))) ∧ (∃ s : ByteArray, W.cell? (ea c) = some (.string s) ∧ s.data.toList = emsg c) ∧ ∃ ca ta, W.heap[(ea c).block]? = some (.cells ca ta (0, 0))
theorem Errs.inj {ea : Int → Addr} {W : World} (h : Errs ea W) : ∀ c ∈ ecs, ∀ d ∈ ecs, ea c = ea d → c = d := fun c hc d hd e => by
  obtain ⟨_, ⟨s, h1, h2⟩, _⟩ := h c hc
  obtain ⟨_, ⟨t, h3, h4⟩, _⟩ := h d hd
  rw [e, h3] at h1
  injection h1 with h1
  injection h1 with h1
  subst h1
  have : emsg c = emsg d := h2.symm.trans h4
  revert this
  have key : ∀ c ∈ ecs, ∀ d ∈ ecs, emsg c = emsg d → c = d := by decide
  exact key c hc d hd
theorem info_some {P : Program} {t : TypeId} {α : Type} {f : TypeInfo → α} {x : α} (h : (P.info? t).map f = some x) : ∃ i, P.info? t = some i ∧ f i = x := Option.map_eq_some_iff.1 h
theorem cellA_below {w W : World} {a : Addr} {v : Value} (hb : Below w.heap.size w W) (h : w.cell? a = some v) : W.cell? a = some v := by
  rw [World.cell?_of_block (hb.block a.block (World.block_lt_of_cell? w _ h))]
  exact h
theorem Errs.below {ea : Int → Addr} {w W : World} (h : Errs ea w) (hb : Below w.heap.size w W) : Errs ea W := fun c hc => by
  obtain ⟨h1, ⟨s, h2, h3⟩, ca, ta, h4⟩ := h c hc
  exact ⟨cellA_below hb h1, ⟨s, cellA_below hb h2, h3⟩, ca, ta, (hb.block _ (Array.getElem?_eq_some_iff.1 h4).1).trans h4⟩
theorem eq_err {ea : Int → Addr} {W : World} (h : Errs ea W) {c d : Int} (hc : c ∈ ecs) (hd : d ∈ ecs) : (binOp .eql 25 (.iface 63 (.pointer (some (ea c)))) (.iface 63 (.pointer (some (ea d))))).run Tryd.prog W = .ok (.bool (decide (c = d))) W := by
  obtain ⟨i, hi, hcm⟩ := info_some (P := Tryd.prog) (t := 63) (f := (·.comparable)) (x := true) (by kernel_rfl)
  obtain ⟨j, hj, hjs⟩ := info_some (P := Tryd.prog) (t := 80) (f := (·.size)) (x := 1) (by kernel_rfl)
  by_cases e : c = d
  · subst e
    rw [decide_eq_true rfl]
    exact run_eql_iface_ptr_same W (ea c) Tryd.underlying25 Tryd.underlying63 hi hcm hj
  · rw [decide_eq_false e]
    obtain ⟨_, _, ca, ta, h1⟩ := h c hc
    obtain ⟨_, _, cb, tb, h2⟩ := h d hd
    exact run_eql_iface_ptr_other W Tryd.underlying25 Tryd.underlying63 hi hcm hj (by rw [hjs]; decide) (fun e' => e (h.inj c hc d hd e')) h1 h2
/-- an error as a value -/
def EV (ea : Int → Addr) (c : Int) : Value := if c = 0 then .nilIface else .iface 63 (.pointer (some (ea c)))
set_option maxRecDepth 100000 in
theorem errs_of_laid {W : World} (h0 : laidMetH Tryd.prog laidV W) : ∃ ea, Errs ea W := by
  have h : laidMet Tryd.prog laidV W := h0
  obtain ⟨ps, ⟨g0, t0, cs0, f0, p0, q0, hg0, ht0, hv0, hd0, hqz, e0⟩, hnd, hrows⟩ := h
  obtain rfl := Option.some.inj (g_3.symm.trans hg0)
  obtain rfl := Option.some.inj (t_3.symm.trans ht0)
  have hqz' : q0 = [] := hqz
  subst hqz'
  subst e0
  obtain ⟨l0⟩ := cs0
  have ok0 : ∀ u v, l0 = [.iface u v] → Value.okWide Tryd.prog W .any 0 u v := fun u v e => by
    subst e
    exact (hrows (0) 0 (by simp [MemPlace.row])).2 u v (by simpa using World.var?_cell hg0 hv0 0)
  obtain ⟨a0, s0, rfl, hc0, hs0, hz0, rfl⟩ := errorString_of_trod Tryd.underlying25 row_err Tryd.underlying63 Tryd.underlying80 rfl rfl Tryd.underlying9 (by kernel_rfl) (by kernel_rfl) hd0 ok0
  have x0 : W.cell? ⟨0, 0, none⟩ = some (.iface 63 (.pointer (some a0))) := by simpa using World.var?_cell hg0 hv0 0
  refine ⟨fun c => if c = 3 then a0 else a0, fun c hc => ?_⟩
  simp only [ecs, List.mem_cons, List.not_mem_nil, or_false] at hc
  rcases hc with rfl
  · exact ⟨x0, ⟨s0, hc0, hs0⟩, (hrows a0.block a0.off (by simp [MemPlace.row])).1⟩
end Go.Proofs.YtdakhiafagambaaDoor
