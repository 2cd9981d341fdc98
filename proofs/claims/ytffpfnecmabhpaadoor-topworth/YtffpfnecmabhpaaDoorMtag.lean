import Derived.Deep.Slices
import Derived.Deep.Strs
import Derived.SizedLaws
import Derived.LaidLaws
import Derived.ChangeArms
import Derived.OpenShut
import Derived.Lib.LaidTab
import Derived.Test.YtffpfnecmabhpaaDoorTie
import Derived.Test.YtffpfnecmabhpaaDoorCards
import Derived.LaidHandle
import Derived.Lay
import Derived.LaidEql
import Derived.SevenTiedAt
import Derived.Laws.BytesArg
import Derived.Test.YtffpfnecmabhpaaDoorMtaf
namespace Go.Proofs.YtffpfnecmabhpaaDoor
set_option linter.unusedSimpArgs false
set_option linter.unusedVariables false
open Go.ChangeShapes Go.WideShapes Go.ChangeAt Go.RowKit Go.Pin Go.Pat Go.Deep
theorem add_spot {x : Addr} {w : World} {v : Value} (h : w.cell? (x.add 0) = some v) : ∃ b o, x = ⟨b, o, none⟩ := by
  obtain ⟨b, o, s⟩ := x
  cases s with
  | none => exact ⟨b, o, rfl⟩
  | some s =>
    exfalso
    simp only [World.cell?, Addr.add, if_true] at h
    split at h <;> simp_all
theorem weightsAll_mem {H : Type} {P : Program} {e : TypeId} : ∀ {ds : List (DataW H)} {d : DataW H} {k : Nat}, d ∈ ds → k ∈ d.weights P e → k ∈ DataW.weightsAll P e ds
  | [], _, _, h, _ => nomatch h
  | d' :: r, d, k, h, hk => by
    rw [DataW.weightsAll]
    rcases List.mem_cons.1 h with rfl | h
    · exact List.mem_append_left _ hk
    · exact List.mem_append_right _ (weightsAll_mem h hk)
theorem bytes_int : Tryd.prog.bytesOf 3 = 8 := by kernel_rfl
theorem bytes_line : Tryd.prog.bytesOf 45 = 32 := by kernel_rfl
/-- numbers that came in -/
theorem open_nums {H : Type} {enc : TypeId × Value → H} {W : World} {fuel : Nat} {cs : List Value} {x : DataW H × List MemPlace}
    (hf : DataW.trod enc Tryd.prog W 0 (fun _ => true) true fuel 22 cs = some x) (hs : ∀ k ∈ x.1.weights Tryd.prog 22, k ≤ reachBytes) : ∃ (v : Value) (C : List Int), cs = [v] ∧ RdN W v C := by
  rcases open_ints Tryd.underlying22 Tryd.underlying3 (by kernel_rfl) hf with ⟨hcs, _⟩ | ⟨y, l, c, zs, hcs, _, hl, hm, hz, hx, hcell, hwz⟩
  · exact ⟨_, [], hcs, none, 0, rfl, ⟨Nat.le_refl _, fun _ => rfl⟩, by simp, .inl rfl⟩
  · have hz' : zs.length = c := by simpa using hz
    have hl2 : (zs.take l).length = l := by rw [List.length_take]; omega
    have hb : l ≤ 140737488355328 := by
      have := hs ((l + (c - l)) * 8) (by
        rw [hx]
        simp only [DataW.weights, Tryd.underlying22]
        refine List.mem_cons.2 (.inl ?_)
        rw [bytes_int]
        simp [lits, hz', hl])
      unfold reachBytes at this
      omega
    refine ⟨_, zs.take l, hcs, some y, c, by rw [hl2], ⟨by rw [hl2]; exact hl, fun h => nomatch h⟩, by rw [hl2]; exact hb, ?_⟩
    by_cases e : l = 0
    · left; subst e; simp
    · right
      obtain ⟨b, o, rfl⟩ := add_spot (hcell 0 (by omega))
      refine ⟨b, o, rfl, fun j v hv => ?_⟩
      have hj : j < l := by have := (List.getElem?_eq_some_iff.1 hv).1; rw [List.length_map, hl2] at this; exact this
      have := hcell j (by omega)
      rw [add_mid] at this
      rw [this, ← hv]
      simp [List.getElem?_take_of_lt hj, show j < zs.length by omega]
theorem open_lines {H : Type} {enc : TypeId × Value → H} {W : World} {fuel : Nat} {cs : List Value} {x : DataW H × List MemPlace}
    (hf : DataW.trod enc Tryd.prog W 0 (fun _ => true) true fuel 24 cs = some x) (hs : ∀ k ∈ x.1.weights Tryd.prog 24, k ≤ reachBytes) : ∃ (v : Value) (L : List Ln), cs = [v] ∧ RdL W v L := by
  rcases open_slice Tryd.underlying24 hf with ⟨hcs, _⟩ | ⟨y, len, cap, m, n, D, Pl, hcs, _, hl, hm, hmm, hxe, hx⟩
  · exact ⟨_, [], hcs, none, 0, rfl, Nat.le_refl _, by simp, fun j hj => nomatch hj⟩
  · have hlm : len ≤ m := by rw [hmm]; split <;> omega
    have ce : Tryd.prog.cellsOf 45 = 2 := by kernel_rfl
    have ci : Tryd.prog.cellsOf 3 = 1 := by kernel_rfl
    have cn : Tryd.prog.cellsOf 22 = 1 := by kernel_rfl
    have he : Tryd.prog.underlying 45 = _ := Tryd.underlying45
    have hb : len ≤ 140737488355328 := by
      have := hs ((len + (m - len)) * 32) (by
        rw [hxe]
        simp only [DataW.weights, Tryd.underlying24]
        refine List.mem_cons.2 (.inl ?_)
        rw [bytes_line]
        simp)
      unfold reachBytes at this
      omega
    have each : ∀ i, i < len → ∃ q : Value × Ln, W.cell? (y.add (i * 2)) = some (.int .i64 q.2.1) ∧ W.cell? (y.add (i * 2 + 1)) = some q.1 ∧ RdN W q.1 q.2.2 := by
      intro i hi
      obtain ⟨cs', h1, h2⟩ := hx i (by omega)
      rw [ce] at h1
      obtain ⟨_, hlen, hcell⟩ := World.cells?_some h1
      obtain ⟨xs, k, hk, hxy, _, hxl, hf⟩ := DataW.trod_struct he h2
      match xs, hxl with
      | [y0, y1], _ =>
        have g0 := hf 0 _ rfl
        have g1 := hf 1 _ rfl
        simp only [List.getElem_toArray, List.getElem_cons_zero, List.getElem_cons_succ, ci, cn, List.getElem?_cons_zero, List.getElem?_cons_succ] at g0 g1
        obtain ⟨z0, hz0, _, _⟩ := DataW.trod_int Tryd.underlying3 g0
        have hw1 : ∀ k ∈ y1.1.weights Tryd.prog 22, k ≤ reachBytes := fun k hk => by
          refine hs k ?_
          rw [hxe]
          simp only [DataW.weights, Tryd.underlying24]
          refine List.mem_cons_of_mem _ (List.mem_append_left _ (weightsAll_mem (List.mem_map.2 ⟨i, List.mem_range.2 hi, rfl⟩) ?_))
          have hD : D i = .agg [y0.1, y1.1] := congrArg Prod.fst hxy
          rw [hD]
          simp only [DataW.weights, Tryd.underlying45]
          simp only [DataW.weightsEach, List.map_cons, List.map_nil]
          exact List.mem_append_right _ (List.mem_append_left _ hk)
        obtain ⟨v, C, hc, hr⟩ := open_nums g1 hw1
        have e0 : cs'[0]? = some (.int .i64 z0) := by
          have := congrArg (fun z => z[0]?) hz0
          simpa using this
        have e1 : cs'[1]? = some v := by
          have := congrArg (fun z => z[0]?) hc
          simpa using this
        refine ⟨(v, z0, C), ?_, ?_, hr⟩
        · have e := hcell 0 (by omega)
          rw [add_add, e0] at e
          exact e
        · have e := hcell 1 (by omega)
          rw [add_add, e1] at e
          exact e
    obtain ⟨q, hq⟩ := choose_lt each
    have hat : ∀ j, j < len → ((List.range len).map (fun i => (q i).2)).getD j (0, []) = (q j).2 := fun j hj => by simp [List.getD, hj]
    refine ⟨_, (List.range len).map (fun i => (q i).2), hcs, some y, cap, by simp, by simpa using hl, by simpa using hb, fun j hj => ?_⟩
    have hj' : j < len := by simpa using hj
    have h0 := (hq 0 (by omega)).1
    rw [Nat.zero_mul] at h0
    obtain ⟨b, o, rfl⟩ := add_spot h0
    have h1 := (hq j hj').1
    have h2 := (hq j hj').2.1
    rw [add_mid] at h1 h2
    refine ⟨b, o, (q j).1, rfl, ?_, by rw [Nat.add_assoc]; exact h2, ?_⟩
    · rw [hat j hj']; exact h1
    · rw [hat j hj']; exact (hq j hj').2.2
set_option maxRecDepth 100000 in
/-- a pattern that came in -/
theorem open_patternN {H : Type} {enc : TypeId × Value → H} {W : World} {v : Value} {d : DataW H} {ps : List MemPlace}
    (h : DataW.Trod enc Tryd.prog W 0 (fun _ => true) true 26 v d ps) (hs : ∀ k ∈ d.weights Tryd.prog 26, k ≤ reachBytes) : ∃ p : Pt, RdP W v p ∧ p.nm.size ≤ 140737488355328 := by
  obtain ⟨fuel, hf⟩ := h
  have c4 : Tryd.prog.cellsOf 26 = 4 := by kernel_rfl
  have cs1 : Tryd.prog.cellsOf 9 = 1 := by kernel_rfl
  have ca : Tryd.prog.cellsOf 23 = 2 := by kernel_rfl
  have cn : Tryd.prog.cellsOf 22 = 1 := by kernel_rfl
  have cl : Tryd.prog.cellsOf 24 = 1 := by kernel_rfl
  have he : Tryd.prog.underlying 26 = _ := Tryd.underlying26
  obtain ⟨y0, y1, y2, n, hx, hlen, g0, g1, g2⟩ := trod_struct3 he hf
  rw [c4] at hlen
  obtain ⟨e0, e1, e2, e3, rfl⟩ : ∃ e0 e1 e2 e3, v = .agg #[e0, e1, e2, e3] := by
    cases v with
    | agg cs =>
      obtain ⟨l⟩ := cs
      match l, hlen with
      | [e0, e1, e2, e3], _ => exact ⟨e0, e1, e2, e3, rfl⟩
    | _ => simp [Value.cells] at hlen
  simp only [cs1, ca, cl, Value.cells, List.drop_zero, List.take_succ_cons, List.take_zero, List.drop_succ_cons] at g0 g1 g2
  obtain ⟨nm, h0, hnx, _⟩ := DataW.trod_string Tryd.underlying9 g0
  obtain ⟨xs, m, _, hxa, _, hxl, hel⟩ := DataW.trod_array Tryd.underlying23 g1
  have hd : d = .agg [y0.1, y1.1, y2.1] := congrArg Prod.fst hx
  match xs, hxl with
  | [z0, z1], _ =>
    have k0 := hel 0 (by decide)
    have k1 := hel 1 (by decide)
    simp only [cn, Nat.zero_mul, Nat.one_mul, List.drop_zero, List.take_succ_cons, List.take_zero, List.drop_succ_cons, List.getElem?_cons_zero, List.getElem?_cons_succ] at k0 k1
    have hy1 : y1.1 = .agg [z0.1, z1.1] := congrArg Prod.fst hxa
    have hW : ∀ k, k ∈ y1.1.weights Tryd.prog 23 ∨ k ∈ y2.1.weights Tryd.prog 24 → k ≤ reachBytes := fun k hk => by
      refine hs k ?_
      rw [hd]
      simp only [DataW.weights, Tryd.underlying26, List.map_cons, List.map_nil, DataW.weightsEach]
      rcases hk with hk | hk
      · exact List.mem_append_right _ (List.mem_append_left _ hk)
      · exact List.mem_append_right _ (List.mem_append_right _ (List.mem_append_left _ hk))
    have hW0 : ∀ k ∈ z0.1.weights Tryd.prog 22, k ≤ reachBytes := fun k hk => hW k (.inl (by
      rw [hy1]; simp only [DataW.weights, Tryd.underlying23, DataW.weightsAll]
      exact List.mem_append_left _ hk))
    have hW1 : ∀ k ∈ z1.1.weights Tryd.prog 22, k ≤ reachBytes := fun k hk => hW k (.inl (by
      rw [hy1]; simp only [DataW.weights, Tryd.underlying23, DataW.weightsAll]
      exact List.mem_append_right _ (List.mem_append_left _ hk)))
    obtain ⟨w0, C0, q0, r0⟩ := open_nums k0 hW0
    obtain ⟨w1, C1, q1, r1⟩ := open_nums k1 hW1
    obtain ⟨w2, L, q2, r2⟩ := open_lines g2 (fun k hk => hW k (.inr hk))
    injection h0 with h0 _
    injection q0 with q0 _
    injection q1 with q1 _
    injection q2 with q2 _
    subst h0 q0 q1 q2
    refine ⟨⟨nm, C0, C1, L⟩, ⟨e1, e2, e3, rfl, r0, r1, r2⟩, ?_⟩
    have hy0 := congrArg Prod.fst hnx
    have := hs nm.data.toList.length (by
      rw [hd]
      simp only [DataW.weights, Tryd.underlying26, List.map_cons, List.map_nil, DataW.weightsEach]
      refine List.mem_append_left _ ?_
      rw [hy0]; simp [DataW.weights])
    unfold reachBytes at this
    have e : nm.data.toList.length = nm.size := by simp
    show nm.size ≤ _
    omega
theorem open_pattern {H : Type} {enc : TypeId × Value → H} {W : World} {v : Value} {d : DataW H} {ps : List MemPlace}
    (h : DataW.Trod enc Tryd.prog W 0 (fun _ => true) true 26 v d ps) (hs : ∀ k ∈ d.weights Tryd.prog 26, k ≤ reachBytes) : ∃ p : Pt, RdP W v p := by
  obtain ⟨p, h1, _⟩ := open_patternN h hs
  exact ⟨p, h1⟩
end Go.Proofs.YtffpfnecmabhpaaDoor
/- a package-level table of literals (arrays, structs, numbers, bools, texts): its cells, one behind the other -/
namespace Go.Pin
mutual
def flt (P : Program) : Nat → TypeId → DataW Unit → Option (List Value)
  | 0, _, _ => none
  | f + 1, t, d => match P.underlying t, d with
    | some .bool, .lit (.bool b) => some [.bool b]
    | some (.int k), .lit (.int k' n) => if k' = k then some [.int k n] else none
    | some .string, .lit (.string l) => some [.string ⟨l.toArray⟩]
    | some (.struct fs), .agg ds => match fltF P f 0 fs.toList ds with
      | some c => if c.length = P.cellsOf t then some c else none
      | none => none
    | some (.array n e), .agg ds => if ds.length = n then match fltA P f e ds with
      | some c => if c.length = P.cellsOf t then some c else none
      | none => none
      else none
    | _, _ => none
def fltF (P : Program) : Nat → Nat → List Field → List (DataW Unit) → Option (List Value)
  | 0, _, _, _ => none
  | _ + 1, _, [], [] => some []
  | f + 1, o, x :: fs, d :: ds => if x.offset = o then match flt P f x.type d with
      | none => none
      | some c => if c.length = P.cellsOf x.type then (fltF P f (o + c.length) fs ds).map (c ++ ·) else none
    else none
  | _ + 1, _, _, _ => none
def fltA (P : Program) : Nat → TypeId → List (DataW Unit) → Option (List Value)
  | 0, _, _ => none
  | _ + 1, _, [] => some []
  | f + 1, e, d :: ds => match flt P f e d with
      | none => none
      | some c => if c.length = P.cellsOf e then (fltA P f e ds).map (c ++ ·) else none
end
theorem piece {cs c r : List Value} {o k : Nat} (_ : c.length = k) (h1 : (cs.drop o).take k = c) (h2 : cs.drop (o + k) = r) : cs.drop o = c ++ r := by
  rw [← List.take_append_drop k (cs.drop o), h1, List.drop_drop, h2]
variable {P : Program} {w : World} {base : Nat} {sp : Nat → Bool} {held : Bool} {enc : TypeId × Value → Unit}
/-- what is read as a table of literals is their cells -/
theorem flt_all (f : Nat) : (∀ (m : Nat) (t : TypeId) (d : DataW Unit) (cs c : List Value) (p : List MemPlace), flt P f t d = some c → DataW.trod enc P w base sp held m t cs = some (d, p) → cs = c) ∧
    (∀ (m o : Nat) (fs : List Field) (ds : List (DataW Unit)) (cs c : List Value) (xs : List (DataW Unit × List MemPlace)), fltF P f o fs ds = some c → (∀ (i : Nat) (x : Field), fs[i]? = some x → DataW.trod enc P w base sp held m x.type ((cs.drop x.offset).take (P.cellsOf x.type)) = xs[i]?) → xs.map (·.1) = ds → cs.length = o + c.length → cs.drop o = c) ∧
    (∀ (m o : Nat) (e : TypeId) (ds : List (DataW Unit)) (cs c : List Value) (xs : List (DataW Unit × List MemPlace)), fltA P f e ds = some c → (∀ (i : Nat), i < ds.length → DataW.trod enc P w base sp held m e ((cs.drop ((o + i) * P.cellsOf e)).take (P.cellsOf e)) = xs[i]?) → xs.map (·.1) = ds → cs.length = o * P.cellsOf e + c.length → cs.drop (o * P.cellsOf e) = c) := by
  induction f with
  | zero =>
    refine ⟨fun m t d cs c p h => ?_, fun m o fs ds cs c xs h => ?_, fun m o e ds cs c xs h => ?_⟩
    · simp [flt] at h
    · simp [fltF] at h
    · simp [fltA] at h
  | succ f ih =>
    obtain ⟨ih1, ih2, ih3⟩ := ih
    refine ⟨fun m t d cs c p h h' => ?_, fun m o fs ds cs c xs h h' hx hl => ?_, fun m o e ds cs c xs h h' hx hl => ?_⟩
    · unfold flt at h
      split at h
      · rename_i hu
        obtain ⟨b, rfl, e⟩ := DataW.trod_bool hu h'
        injection e with e
        injection e with e
        injection e with e
        injection h with h
        rw [← h, e]
      · rename_i hu
        obtain ⟨z, rfl, e, _⟩ := DataW.trod_int hu h'
        injection e with e
        injection e with e
        injection e with e1 e2
        split at h
        · injection h with h
          rw [← h, e2]
        · rename_i hne
          exact absurd e1 hne
      · rename_i hu
        obtain ⟨s, rfl, e, _⟩ := DataW.trod_string hu h'
        injection e with e
        injection e with e
        injection e with e
        injection h with h
        rw [← h, e]
      · rename_i fs ds hu
        obtain ⟨xs, n, rfl, e, hl, _, hx⟩ := DataW.trod_struct hu h'
        injection e with e _
        injection e with e
        split at h
        · rename_i c' hc
          split at h
          · rename_i hlc
            injection h with h
            subst h
            have := ih2 n 0 fs.toList ds cs c' xs hc (fun i x hi => hx i x (by simpa using hi)) e.symm (by omega)
            simpa using this
          · simp at h
        · simp at h
      · rename_i n e0 ds hu
        obtain ⟨xs, m', rfl, e, hl, hxl, hx⟩ := DataW.trod_array hu h'
        injection e with e _
        injection e with e
        split at h
        · rename_i hdn
          split at h
          · rename_i c' hc
            split at h
            · rename_i hlc
              injection h with h
              subst h
              have := ih3 m' 0 e0 ds cs c' xs hc (fun i hi => by rw [Nat.zero_add]; exact hx i (by omega)) e.symm (by omega)
              simpa using this
            · simp at h
          · simp at h
        · simp at h
      · simp at h
    · cases fs with
      | nil =>
        cases ds with
        | nil =>
          simp only [fltF, Option.some.injEq] at h
          subst h
          exact List.drop_eq_nil_of_le (by simp at hl; omega)
        | cons d ds => simp [fltF] at h
      | cons x fs =>
        cases ds with
        | nil => simp [fltF] at h
        | cons d ds =>
          simp only [fltF] at h
          split at h
          · rename_i ho
            cases hc : flt P f x.type d with
            | none => rw [hc] at h; simp at h
            | some c1 =>
              rw [hc] at h
              simp only at h
              split at h
              · rename_i hk
                simp only [Option.map_eq_some_iff] at h
                obtain ⟨c2, h2, rfl⟩ := h
                cases xs with
                | nil => simp at hx
                | cons y ys =>
                  obtain ⟨y1, y2⟩ := y
                  simp only [List.map_cons, List.cons.injEq] at hx
                  obtain ⟨hy1, hys⟩ := hx
                  have h0 := h' 0 x rfl
                  rw [List.getElem?_cons_zero, hy1] at h0
                  have e1 := ih1 m x.type d _ c1 y2 hc h0
                  rw [ho] at e1
                  have e2 := ih2 m (o + c1.length) fs ds cs c2 ys h2 (fun i z hi => by have := h' (i + 1) z (by simpa using hi); simpa using this) hys (by rw [List.length_append] at hl; omega)
                  exact piece hk e1 (by rw [← hk]; exact e2)
              · simp at h
          · simp at h
    · cases ds with
      | nil =>
        simp only [fltA, Option.some.injEq] at h
        subst h
        exact List.drop_eq_nil_of_le (by simp at hl; omega)
      | cons d ds =>
        simp only [fltA] at h
        cases hc : flt P f e d with
        | none => rw [hc] at h; simp at h
        | some c1 =>
          rw [hc] at h
          simp only at h
          split at h
          · rename_i hk
            simp only [Option.map_eq_some_iff] at h
            obtain ⟨c2, h2, rfl⟩ := h
            cases xs with
            | nil => simp at hx
            | cons y ys =>
              obtain ⟨y1, y2⟩ := y
              simp only [List.map_cons, List.cons.injEq] at hx
              obtain ⟨hy1, hys⟩ := hx
              have h0 := h' 0 (by simp)
              rw [List.getElem?_cons_zero, hy1, Nat.add_zero] at h0
              have e1 := ih1 m e d _ c1 y2 hc h0
              have e2 := ih3 m (o + 1) e ds cs c2 ys h2 (fun i hi => by have := h' (i + 1) (by simp; omega); rw [show o + (i + 1) = o + 1 + i by omega] at this; simpa using this) hys (by rw [List.length_append] at hl; rw [Nat.add_mul, Nat.one_mul]; omega)
              rw [Nat.add_mul, Nat.one_mul] at e2
              exact piece hk e1 e2
          · simp at h
theorem cells_of_flt {f m : Nat} {t : TypeId} {d : DataW Unit} {cs c : List Value} {p : List MemPlace} (h : flt P f t d = some c) (h' : DataW.trod enc P w base sp held m t cs = some (d, p)) : cs = c := (flt_all f).1 m t d cs c p h h'
end Go.Pin
namespace Go.Proofs.YtffpfnecmabhpaaDoor
set_option linter.unusedSimpArgs false
set_option linter.unusedVariables false
open Go.ChangeShapes Go.WideShapes Go.ChangeAt Go.RowKit Go.Pin Go.Pat Go.Deep
theorem own : ownKnob Tryd.prog.godebug = none := by kernel_rfl
theorem laidOut : laidOutB Tryd.prog = true := by kernel_rfl
def laidV : List (String × DataW Unit) := [("pintle/api.ErrArg", Rows.laid_pintle_api_ErrArg), ("pintle/api.ErrInvalid", Rows.laid_pintle_api_ErrInvalid), ("pintle/api.ErrTwice", Rows.laid_pintle_api_ErrTwice), ("pintle/api.ErrLacks", Rows.laid_pintle_api_ErrLacks), ("pintle/api.ErrUnsafe", Rows.laid_pintle_api_ErrUnsafe), ("pintle/pattern.rules", Rows.laid_pintle_pattern_rules), ("pintle/pattern.hazards", Rows.laid_pintle_pattern_hazards)]
theorem g_1 : Tryd.prog.globalNamed "pintle/api.ErrArg" = some (0) := by kernel_rfl
theorem t_1 : (Tryd.prog.globals[0]?).map (·.type) = some 31 := by kernel_rfl
theorem g_9 : Tryd.prog.globalNamed "pintle/api.ErrInvalid" = some (1) := by kernel_rfl
theorem t_9 : (Tryd.prog.globals[1]?).map (·.type) = some 31 := by kernel_rfl
theorem g_10 : Tryd.prog.globalNamed "pintle/api.ErrTwice" = some (5) := by kernel_rfl
theorem t_10 : (Tryd.prog.globals[5]?).map (·.type) = some 31 := by kernel_rfl
theorem g_11 : Tryd.prog.globalNamed "pintle/api.ErrLacks" = some (6) := by kernel_rfl
theorem t_11 : (Tryd.prog.globals[6]?).map (·.type) = some 31 := by kernel_rfl
theorem g_12 : Tryd.prog.globalNamed "pintle/api.ErrUnsafe" = some (2) := by kernel_rfl
theorem t_12 : (Tryd.prog.globals[2]?).map (·.type) = some 31 := by kernel_rfl
theorem g_rules : Tryd.prog.globalNamed "pintle/pattern.rules" = some (3) := by kernel_rfl
theorem t_rules : (Tryd.prog.globals[3]?).map (·.type) = some 70 := by kernel_rfl
def c_rules : List Value := [.int .i64 0, .int .i64 0, .bool false, .bool false, .bool false, .bool false, .bool false, .bool false, .bool false, .bool false, .bool false, .bool false, .int .i64 0, .int .i64 2, .bool true, .bool false, .bool false, .bool false, .bool false, .bool false, .bool false, .bool false, .bool false, .bool false, .int .i64 1, .int .i64 3, .bool true, .bool false, .bool false, .bool false, .bool false, .bool false, .bool false, .bool false, .bool false, .bool false, .int .i64 4, .int .i64 4, .bool true, .bool true, .bool false, .bool true, .bool false, .bool false, .bool false, .bool false, .bool false, .bool false, .int .i64 5, .int .i64 5, .bool true, .bool true, .bool false, .bool false, .bool true, .bool false, .bool false, .bool false, .bool false, .bool false, .int .i64 6, .int .i64 6, .bool true, .bool false, .bool true, .bool true, .bool false, .bool false, .bool false, .bool false, .bool false, .bool false, .int .i64 7, .int .i64 7, .bool true, .bool false, .bool true, .bool false, .bool true, .bool false, .bool false, .bool false, .bool false, .bool false, .int .i64 8, .int .i64 8, .bool false, .bool false, .bool false, .bool false, .bool false, .bool false, .bool false, .bool false, .bool false, .bool false]
theorem f_rules : flt Tryd.prog 40 70 Rows.laid_pintle_pattern_rules = some c_rules := by kernel_rfl
theorem g_hazards : Tryd.prog.globalNamed "pintle/pattern.hazards" = some (4) := by kernel_rfl
theorem t_hazards : (Tryd.prog.globals[4]?).map (·.type) = some 74 := by kernel_rfl
def c_hazards : List Value := [.int .i64 0, .bool false, .bool false, .bool false, .bool false, .bool true, .bool false, .bool true, .bool false, .bool false, .bool false, .bool false, .bool false, .bool false, .bool false, .bool false, .bool true, .bool false, .bool false, .int .i64 0, .bool false, .bool false, .bool false, .bool false, .bool false, .bool true, .bool false, .bool true, .bool false, .bool false, .bool false, .bool false, .bool false, .bool false, .bool false, .bool false, .bool true, .bool false, .int .i64 0, .bool true, .bool false, .bool false, .bool false, .bool false, .bool false, .bool false, .bool false, .bool true, .bool false, .bool false, .bool false, .bool false, .bool false, .bool false, .bool false, .bool false, .bool true, .int .i64 1, .bool false, .bool false, .bool false, .bool false, .bool true, .bool true, .bool false, .bool false, .bool false, .bool false, .bool false, .bool false, .bool false, .bool false, .bool true, .bool false, .bool false, .bool false, .int .i64 1, .bool false, .bool false, .bool false, .bool false, .bool false, .bool false, .bool true, .bool true, .bool false, .bool false, .bool false, .bool false, .bool false, .bool false, .bool false, .bool false, .bool true, .bool false, .int .i64 1, .bool false, .bool false, .bool true, .bool false, .bool false, .bool false, .bool false, .bool false, .bool true, .bool false, .bool false, .bool false, .bool false, .bool false, .bool false, .bool false, .bool false, .bool true]
theorem f_hazards : flt Tryd.prog 40 74 Rows.laid_pintle_pattern_hazards = some c_hazards := by kernel_rfl
theorem star : ("*errors.errorString" : String) = "*" ++ "errors.errorString" := by decide
theorem row_err : ∀ u, Tryd.prog.typeName? 3 u = some "*errors.errorString" → u = 77 := fun u h =>
  typeName_ptr_named (nm := "errors.errorString") (by rw [← star]; kernel_rfl) (by kernel_rfl) (by decide) u (by rw [← star]; exact h)
/-- where an error's variable lies -/
def eblk : Int → Nat
  | 1 => 0
  | 9 => 1
  | 10 => 5
  | 11 => 6
  | 12 => 2
  | _ => 0
def emsg : Int → List UInt8
  | 1 => [112, 105, 110, 116, 108, 101, 58, 32, 97, 114, 103, 117, 109, 101, 110, 116]
  | 9 => [112, 105, 110, 116, 108, 101, 58, 32, 112, 97, 116, 116, 101, 114, 110, 32, 105, 110, 118, 97, 108, 105, 100]
  | 10 => [112, 105, 110, 116, 108, 101, 58, 32, 116, 119, 105, 99, 101]
  | 11 => [112, 105, 110, 116, 108, 101, 58, 32, 108, 97, 99, 107, 115]
  | 12 => [112, 105, 110, 116, 108, 101, 58, 32, 117, 110, 115, 97, 102, 101]
  | _ => []
def ecs : List Int := [1, 9, 10, 11, 12]
/-- the program's tables -/
structure Tabs (W : World) : Prop where
  rules : W.rangeAt 3 0 c_rules
  hazards : W.rangeAt 4 0 c_hazards
/-- the errors' variables, and where they point; the tables -/
def Errs (ea : Int → Addr) (W : World) : Prop := (∀ c ∈ ecs, W.cell? ⟨eblk c, 0, none⟩ = some (.iface 77 (.pointer (some (ea c)))) ∧ (∃ s : ByteArray, W.cell? (ea c) = some (.string s) ∧ s.data.toList = emsg c) ∧ ∃ ca ta, W.heap[(ea c).block]? = some (.cells ca ta (0, 0))) ∧ Tabs W
theorem Errs.inj {ea : Int → Addr} {W : World} (h : Errs ea W) : ∀ c ∈ ecs, ∀ d ∈ ecs, ea c = ea d → c = d := fun c hc d hd e => by
  obtain ⟨_, ⟨s, h1, h2⟩, _⟩ := h.1 c hc
  obtain ⟨_, ⟨t, h3, h4⟩, _⟩ := h.1 d hd
  rw [e, h3] at h1
  injection h1 with h1
  injection h1 with h1
  subst h1
  have : emsg c = emsg d := h2.symm.trans h4
  revert this
  have key : ∀ c ∈ ecs, ∀ d ∈ ecs, emsg c = emsg d → c = d := by decide
  exact key c hc d hd
theorem info_some {P : Program} {t : TypeId} {α : Type} {f : TypeInfo → α} {x : α} (h : (P.info? t).map f = some x) : ∃ i, P.info? t = some i ∧ f i = x := Option.map_eq_some_iff.1 h
theorem cellA_below {w W : World} {a : Addr} {v : Value} (hb : Below w.heap.size w W) (h : w.cell? a = some v) : W.cell? a = some v := by
  rw [World.cell?_of_block (hb.block a.block (World.block_lt_of_cell? w _ h))]
  exact h
theorem Tabs.below {w W : World} (h : Tabs w) (hb : Below w.heap.size w W) : Tabs W := ⟨fun n v hn => cellA_below hb (h.rules n v hn), fun n v hn => cellA_below hb (h.hazards n v hn)⟩
theorem Errs.below {ea : Int → Addr} {w W : World} (h : Errs ea w) (hb : Below w.heap.size w W) : Errs ea W := by
  refine ⟨fun c hc => ?_, h.2.below hb⟩
  obtain ⟨h1, ⟨s, h2, h3⟩, ca, ta, h4⟩ := h.1 c hc
  exact ⟨cellA_below hb h1, ⟨s, cellA_below hb h2, h3⟩, ca, ta, (hb.block _ (Array.getElem?_eq_some_iff.1 h4).1).trans h4⟩
theorem eq_err {ea : Int → Addr} {W : World} (h : Errs ea W) {c d : Int} (hc : c ∈ ecs) (hd : d ∈ ecs) : (binOp .eql 31 (.iface 77 (.pointer (some (ea c)))) (.iface 77 (.pointer (some (ea d))))).run Tryd.prog W = .ok (.bool (decide (c = d))) W := by
  obtain ⟨i, hi, hcm⟩ := info_some (P := Tryd.prog) (t := 77) (f := (·.comparable)) (x := true) (by kernel_rfl)
  obtain ⟨j, hj, hjs⟩ := info_some (P := Tryd.prog) (t := 96) (f := (·.size)) (x := 1) (by kernel_rfl)
  by_cases e : c = d
  · subst e
    rw [decide_eq_true rfl]
    exact run_eql_iface_ptr_same W (ea c) Tryd.underlying31 Tryd.underlying77 hi hcm hj
  · rw [decide_eq_false e]
    obtain ⟨_, _, ca, ta, h1⟩ := h.1 c hc
    obtain ⟨_, _, cb, tb, h2⟩ := h.1 d hd
    exact run_eql_iface_ptr_other W Tryd.underlying31 Tryd.underlying77 hi hcm hj (by rw [hjs]; decide) (fun e' => e (h.inj c hc d hd e')) h1 h2
/-- an error as a value -/
def EV (ea : Int → Addr) (c : Int) : Value := if c = 0 then .nilIface else .iface 77 (.pointer (some (ea c)))
set_option maxRecDepth 100000 in
theorem errs_of_laid {W : World} (h0 : laidMetH Tryd.prog laidV W) : ∃ ea, Errs ea W := by
  have h : laidMet Tryd.prog laidV W := h0
  obtain ⟨ps, ⟨g0, t0, cs0, f0, p0, q0, hg0, ht0, hv0, hd0, ⟨g1, t1, cs1, f1, p1, q1, hg1, ht1, hv1, hd1, ⟨g2, t2, cs2, f2, p2, q2, hg2, ht2, hv2, hd2, ⟨g3, t3, cs3, f3, p3, q3, hg3, ht3, hv3, hd3, ⟨g4, t4, cs4, f4, p4, q4, hg4, ht4, hv4, hd4, ⟨g5, t5, cs5, f5, p5, q5, hg5, ht5, hv5, hd5, ⟨g6, t6, cs6, f6, p6, q6, hg6, ht6, hv6, hd6, hqz, e6⟩, e5⟩, e4⟩, e3⟩, e2⟩, e1⟩, e0⟩, hnd, hrows⟩ := h
  obtain rfl := Option.some.inj (g_1.symm.trans hg0)
  obtain rfl := Option.some.inj (t_1.symm.trans ht0)
  obtain rfl := Option.some.inj (g_9.symm.trans hg1)
  obtain rfl := Option.some.inj (t_9.symm.trans ht1)
  obtain rfl := Option.some.inj (g_10.symm.trans hg2)
  obtain rfl := Option.some.inj (t_10.symm.trans ht2)
  obtain rfl := Option.some.inj (g_11.symm.trans hg3)
  obtain rfl := Option.some.inj (t_11.symm.trans ht3)
  obtain rfl := Option.some.inj (g_12.symm.trans hg4)
  obtain rfl := Option.some.inj (t_12.symm.trans ht4)
  obtain rfl := Option.some.inj (g_rules.symm.trans hg5)
  obtain rfl := Option.some.inj (t_rules.symm.trans ht5)
  obtain rfl := Option.some.inj (g_hazards.symm.trans hg6)
  obtain rfl := Option.some.inj (t_hazards.symm.trans ht6)
  have hqz' : q6 = [] := hqz
  subst hqz'
  subst e6
  subst e5
  subst e4
  subst e3
  subst e2
  subst e1
  subst e0
  obtain ⟨l5⟩ := cs5
  obtain rfl : l5 = c_rules := cells_of_flt f_rules hd5
  have y5 : W.rangeAt 3 0 c_rules := fun n v hn => by
    have := World.var?_cell hg5 hv5 n
    rw [Nat.zero_add, this, ← hn]
    simp
  obtain ⟨l6⟩ := cs6
  obtain rfl : l6 = c_hazards := cells_of_flt f_hazards hd6
  have y6 : W.rangeAt 4 0 c_hazards := fun n v hn => by
    have := World.var?_cell hg6 hv6 n
    rw [Nat.zero_add, this, ← hn]
    simp
  obtain ⟨l0⟩ := cs0
  have ok0 : ∀ u v, l0 = [.iface u v] → Value.okWide Tryd.prog W .any 0 u v := fun u v e => by
    subst e
    exact (hrows (0) 0 (by simp [MemPlace.row])).2 u v (by simpa using World.var?_cell hg0 hv0 0)
  obtain ⟨a0, s0, rfl, hc0, hs0, hz0, rfl⟩ := errorString_of_trod Tryd.underlying31 row_err Tryd.underlying77 Tryd.underlying96 rfl rfl Tryd.underlying9 (by kernel_rfl) (by kernel_rfl) hd0 ok0
  have x0 : W.cell? ⟨0, 0, none⟩ = some (.iface 77 (.pointer (some a0))) := by simpa using World.var?_cell hg0 hv0 0
  obtain ⟨l1⟩ := cs1
  have ok1 : ∀ u v, l1 = [.iface u v] → Value.okWide Tryd.prog W .any 0 u v := fun u v e => by
    subst e
    exact (hrows (1) 0 (by simp [MemPlace.row])).2 u v (by simpa using World.var?_cell hg1 hv1 0)
  obtain ⟨a1, s1, rfl, hc1, hs1, hz1, rfl⟩ := errorString_of_trod Tryd.underlying31 row_err Tryd.underlying77 Tryd.underlying96 rfl rfl Tryd.underlying9 (by kernel_rfl) (by kernel_rfl) hd1 ok1
  have x1 : W.cell? ⟨1, 0, none⟩ = some (.iface 77 (.pointer (some a1))) := by simpa using World.var?_cell hg1 hv1 0
  obtain ⟨l2⟩ := cs2
  have ok2 : ∀ u v, l2 = [.iface u v] → Value.okWide Tryd.prog W .any 0 u v := fun u v e => by
    subst e
    exact (hrows (5) 0 (by simp [MemPlace.row])).2 u v (by simpa using World.var?_cell hg2 hv2 0)
  obtain ⟨a2, s2, rfl, hc2, hs2, hz2, rfl⟩ := errorString_of_trod Tryd.underlying31 row_err Tryd.underlying77 Tryd.underlying96 rfl rfl Tryd.underlying9 (by kernel_rfl) (by kernel_rfl) hd2 ok2
  have x2 : W.cell? ⟨5, 0, none⟩ = some (.iface 77 (.pointer (some a2))) := by simpa using World.var?_cell hg2 hv2 0
  obtain ⟨l3⟩ := cs3
  have ok3 : ∀ u v, l3 = [.iface u v] → Value.okWide Tryd.prog W .any 0 u v := fun u v e => by
    subst e
    exact (hrows (6) 0 (by simp [MemPlace.row])).2 u v (by simpa using World.var?_cell hg3 hv3 0)
  obtain ⟨a3, s3, rfl, hc3, hs3, hz3, rfl⟩ := errorString_of_trod Tryd.underlying31 row_err Tryd.underlying77 Tryd.underlying96 rfl rfl Tryd.underlying9 (by kernel_rfl) (by kernel_rfl) hd3 ok3
  have x3 : W.cell? ⟨6, 0, none⟩ = some (.iface 77 (.pointer (some a3))) := by simpa using World.var?_cell hg3 hv3 0
  obtain ⟨l4⟩ := cs4
  have ok4 : ∀ u v, l4 = [.iface u v] → Value.okWide Tryd.prog W .any 0 u v := fun u v e => by
    subst e
    exact (hrows (2) 0 (by simp [MemPlace.row])).2 u v (by simpa using World.var?_cell hg4 hv4 0)
  obtain ⟨a4, s4, rfl, hc4, hs4, hz4, rfl⟩ := errorString_of_trod Tryd.underlying31 row_err Tryd.underlying77 Tryd.underlying96 rfl rfl Tryd.underlying9 (by kernel_rfl) (by kernel_rfl) hd4 ok4
  have x4 : W.cell? ⟨2, 0, none⟩ = some (.iface 77 (.pointer (some a4))) := by simpa using World.var?_cell hg4 hv4 0
  refine ⟨fun c => if c = 1 then a0 else if c = 9 then a1 else if c = 10 then a2 else if c = 11 then a3 else if c = 12 then a4 else a0, fun c hc => ?_, ⟨y5, y6⟩⟩
  simp only [ecs, List.mem_cons, List.not_mem_nil, or_false] at hc
  rcases hc with rfl | rfl | rfl | rfl | rfl
  · exact ⟨x0, ⟨s0, hc0, hs0⟩, (hrows a0.block a0.off (by simp [MemPlace.row])).1⟩
  · exact ⟨x1, ⟨s1, hc1, hs1⟩, (hrows a1.block a1.off (by simp [MemPlace.row])).1⟩
  · exact ⟨x2, ⟨s2, hc2, hs2⟩, (hrows a2.block a2.off (by simp [MemPlace.row])).1⟩
  · exact ⟨x3, ⟨s3, hc3, hs3⟩, (hrows a3.block a3.off (by simp [MemPlace.row])).1⟩
  · exact ⟨x4, ⟨s4, hc4, hs4⟩, (hrows a4.block a4.off (by simp [MemPlace.row])).1⟩
end Go.Proofs.YtffpfnecmabhpaaDoor
namespace Go.Proofs.YtffpfnecmabhpaaDoor
set_option linter.unusedSimpArgs false
set_option linter.unusedVariables false
open Go.ChangeShapes Go.WideShapes Go.ChangeAt Go.RowKit Go.Pin Go.Pat Go.Deep
def is3 (a b c t : Int) : Bool := t == a || t == b || t == c
def h3 (p : Pt) (k : Nat) (a b c : Int) : Bool := (p.ln.take (k + 1)).any fun l => l.2.any (is3 a b c)
theorem any_takeF (C : List Int) (f : Int → Bool) (i : Nat) (h : i < C.length) : (C.take (i + 1)).any f = ((C.take i).any f || f (C.getD i 0)) := by
  rw [List.take_add_one, List.any_append, List.getElem?_eq_getElem h]
  simp [List.getD, h]
theorem h3_one (p : Pt) (k : Nat) (a : Int) : h3 p k a a a = dn p k a := by
  unfold h3 dn
  congr 1
  funext l
  congr 1
  funext t
  simp [is3]
theorem any_or {α : Type} (L : List α) (f g : α → Bool) : (L.any fun x => f x || g x) = (L.any f || L.any g) := by
  induction L with
  | nil => rfl
  | cons x r ih => simp only [List.any_cons, ih]; cases f x <;> cases g x <;> simp
theorem h3_two (p : Pt) (k : Nat) (a b : Int) : h3 p k a b a = (dn p k a || dn p k b) := by
  unfold h3 dn
  rw [← any_or]
  congr 1
  funext l
  rw [← any_or]
  congr 1
  funext t
  simp only [is3]
  cases (t == a) <;> cases (t == b) <;> rfl
/-- more than a statement plays -/
def lng (p : Pt) : Bool := decide (200 < p.b0.length) || decide (200 < p.b1.length) || decide (200 < p.ln.length) || p.ln.any fun l => decide (200 < l.2.length)
end Go.Proofs.YtffpfnecmabhpaaDoor
namespace Go.Proofs.YtffpfnecmabhpaaDoor
set_option linter.unusedSimpArgs false
set_option linter.unusedVariables false
open Go.ChangeShapes Go.WideShapes Go.ChangeAt Go.RowKit Go.Pin Go.Pat Go.Deep
theorem oneWay_eq (p : Pt) : oneWay p = (decide (p.ln.length = 1) && lst p == 0) := by
  obtain ⟨nm, b0, b1, L⟩ := p
  match L with
  | [] => rfl
  | [(f, ts)] => simp [oneWay, lst]
  | x :: y :: r => simp [oneWay]
end Go.Proofs.YtffpfnecmabhpaaDoor
namespace Go.Proofs.YtffpfnecmabhpaaDoor
set_option linter.unusedSimpArgs false
set_option linter.unusedVariables false
open Go.ChangeShapes Go.WideShapes Go.ChangeAt Go.RowKit Go.Pin Go.Pat Go.Deep
theorem gcs_at (l : List Gd) : ∀ (j : Nat), j < l.length → (gcs l)[j * 3]? = some (.int .i64 (l.getD j (0, 0, 0)).1) ∧ (gcs l)[j * 3 + 1]? = some (.int .i64 (l.getD j (0, 0, 0)).2.1) ∧ (gcs l)[j * 3 + 2]? = some (.int .i64 (l.getD j (0, 0, 0)).2.2) := by
  induction l with
  | nil => intro j hj; simp at hj
  | cons g r ih =>
    intro j hj
    cases j with
    | zero => simp [gcs]
    | succ j =>
      have := ih j (by simpa using hj)
      have e : gcs (g :: r) = .int .i64 g.1 :: .int .i64 g.2.1 :: .int .i64 g.2.2 :: gcs r := by simp [gcs]
      rw [e, show (j + 1) * 3 = j * 3 + 1 + 1 + 1 by omega]
      simpa using this
/-- a list of grades of one's own -/
theorem own_slice {W : World} {b : Nat} {u : Value} {n : Nat} {xs : List Value} (h : W.ownsRow b 35 3 u n xs) : ∃ a cap, u = .slice a n cap := by
  rcases h.2 with ⟨rfl, rfl⟩ | ⟨g, cap, cur, rfl, _⟩
  · exact ⟨_, _, rfl⟩
  · exact ⟨_, _, rfl⟩
theorem own_at {W : World} {b : Nat} {a : Option Addr} {n cap : Nat} {l : List Gd} (h : W.ownsRow b 35 3 (.slice a n cap) n (gcs l)) {j : Nat} (hj : j < n) : n = l.length ∧ ∃ g, a = some ⟨g, 0, none⟩ ∧ b ≤ g ∧ ∀ W', Below W.heap.size W W' → W'.cell? ⟨g, j * 3, none⟩ = some (.int .i64 (l.getD j (0, 0, 0)).1) ∧ W'.cell? ⟨g, j * 3 + 1, none⟩ = some (.int .i64 (l.getD j (0, 0, 0)).2.1) ∧ W'.cell? ⟨g, j * 3 + 2, none⟩ = some (.int .i64 (l.getD j (0, 0, 0)).2.2) := by
  have hn : n = l.length := by have := h.1; rw [gcs_length] at this; omega
  refine ⟨hn, ?_⟩
  rcases h.2 with ⟨_, e⟩ | ⟨g, cap', cur, e, hb, hg, h1, h2, h3, h4⟩
  · omega
  · injection e with e1 e2 e3
    refine ⟨g, e1, hb, fun W' hW => ?_⟩
    have hg' : W'.heap[g]? = some (.cells cur 35 (0, 0)) := (hW.block g (Array.getElem?_eq_some_iff.1 hg).1).trans hg
    have hc : ∀ i v, i < n * 3 → (gcs l)[i]? = some v → W'.cell? ⟨g, i, none⟩ = some v := fun i v hi hv => by
      rw [cell_of_row _ _ _ _ _ _ hg', ← hv, ← h4, List.getElem?_take_of_lt hi]
      simp
    have := gcs_at l j (by omega)
    exact ⟨hc _ _ (by omega) this.1, hc _ _ (by omega) this.2.1, hc _ _ (by omega) this.2.2⟩
def who (f : Int) : ByteArray := ⟨#[if f = 0 then 105 else 114]⟩
def one (d : Int) : ByteArray := strOfNums [48 + d]
theorem one_size (d : Int) : (one d).size = 1 := rfl
def dgs : List Gd → ByteArray → ByteArray
  | [], s => s
  | g :: r, s => dgs r (s ++ who g.1 ++ one g.2.1 ++ one g.2.2)
end Go.Proofs.YtffpfnecmabhpaaDoor
namespace Go.Proofs.YtffpfnecmabhpaaDoor
set_option linter.unusedSimpArgs false
set_option linter.unusedVariables false
open Go.ChangeShapes Go.WideShapes Go.ChangeAt Go.RowKit Go.Pin Go.Pat Go.Deep
/-- what the program's Levels is held to -/
def LevC (ea : Int → Addr) : Prop := ∀ (v : Value) (p : Pt) (W : World) (more : Int), Errs ea W → RdP W v p → -9223372036854775808 ≤ more → more < 9223372036854775808 →
  Calls Tryd.prog 6 #[v, .int .i64 more] W fun e w' => ∃ u, e = .returned (.tuple #[u, EV ea (lvE p more)]) ∧ w'.ownsRow W.heap.size 35 3 u (lvL p more).length (gcs (lvL p more)) ∧ Below W.heap.size W w'
theorem lv_small {p : Pt} {more : Int} (h : lvE p more = 0) : (lvL p more).length ≤ 100 ∧ ∀ g ∈ lvL p more, (0 ≤ g.2.1 ∧ g.2.1 ≤ 9) ∧ 0 ≤ g.2.2 ∧ g.2.2 ≤ 9 := by
  have hc : chk p = 0 := by
    unfold lvE at h
    by_cases e : chk p = 0
    · exact e
    · simp [e] at h
  have hm : ¬ (more < 0 ∨ 64 < more) := by
    intro hm
    simp [lvE, hc, hm] at h
  have := (chk_valid hc).2
  unfold lvL
  rw [if_pos h]
  refine ⟨by simp; omega, fun g hg => ?_⟩
  obtain ⟨k, _, rfl⟩ := List.mem_map.1 hg
  have h1 := src_in p k
  have h2 := bst_in p (sender p k) k
  refine ⟨by show 0 ≤ src p k ∧ src p k ≤ 9; omega, ?_⟩
  show 0 ≤ dst p k ∧ dst p k ≤ 9
  unfold dst
  repeat' split
  all_goals omega
def pKK : Pt := ⟨⟨#[75, 75]⟩, [2], [2], [(0, [1, 4, 6]), (1, [1, 3, 5])]⟩
def pNX1 : Pt := ⟨⟨#[78, 88, 49]⟩, [], [], [(0, [1]), (1, [1, 3, 2]), (0, [4])]⟩
def zP : Pt := ⟨ByteArray.empty, [], [], []⟩
theorem kk_ok : lvE pKK 2 = 0 ∧ dgs (lvL pKK 2) ByteArray.empty = ⟨#[105, 49, 50, 114, 50, 52, 105, 50, 53, 114, 50, 53]⟩ := by decide +kernel
theorem nx1_ok : lvE pNX1 2 = 0 ∧ dgs (lvL pNX1 2) ByteArray.empty = ⟨#[105, 48, 48, 114, 48, 49, 105, 48, 51, 114, 50, 49, 105, 48, 53]⟩ := by decide +kernel
theorem z_bad : lvE zP 65 = 9 := by decide +kernel
end Go.Proofs.YtffpfnecmabhpaaDoor
