import Derived.Deep.Slices
import Derived.Deep.Strs
import Derived.SizedLaws
import Derived.LaidLaws
import Derived.ChangeArms
import Derived.OpenShut
import Derived.Lib.LaidTab
import Derived.Test.YtpfidohkohldaaaGreatDoorMqab
namespace Go.Proofs.YtpfidohkohldaaaGreatDoor
set_option linter.unusedSimpArgs false
set_option linter.unusedVariables false
open Go.ChangeShapes Go.WideShapes Go.ChangeAt Go.RowKit Go.Pin Go.Pat Go.Deep
theorem add_spot {x : Addr} {w : World} {v : Value} (h : w.cell? (x.add 0) = some v) : ∃ b o, x = ⟨b, o, none⟩ := by
  obtain ⟨b, o, s⟩ := x
  cases s with
  | none => exact ⟨b, o, rfl⟩
  | some s =>
    exfalso
    simp only [World.cell?, Addr.add, if_true] at h
    split at h <;> simp_all
theorem weightsAll_mem {H : Type} {P : Program} {e : TypeId} : ∀ {ds : List (DataW H)} {d : DataW H} {k : Nat}, d ∈ ds → k ∈ d.weights P e → k ∈ DataW.weightsAll P e ds
  | [], _, _, h, _ => nomatch h
  | d' :: r, d, k, h, hk => by
    rw [DataW.weightsAll]
    rcases List.mem_cons.1 h with rfl | h
    · exact List.mem_append_left _ hk
    · exact List.mem_append_right _ (weightsAll_mem h hk)
theorem bytes_int : Tryz.prog.bytesOf 3 = 8 := by kernel_rfl
theorem bytes_line : Tryz.prog.bytesOf 43 = 32 := by kernel_rfl
/-- numbers that came in -/
theorem open_nums {H : Type} {enc : TypeId × Value → H} {W : World} {fuel : Nat} {cs : List Value} {x : DataW H × List MemPlace}
    (hf : DataW.trod enc Tryz.prog W 0 (fun _ => true) true fuel 22 cs = some x) (hs : ∀ k ∈ x.1.weights Tryz.prog 22, k ≤ reachBytes) : ∃ (v : Value) (C : List Int), cs = [v] ∧ RdN W v C := by
  rcases open_ints Tryz.underlying22 Tryz.underlying3 (by kernel_rfl) hf with ⟨hcs, _⟩ | ⟨y, l, c, zs, hcs, _, hl, hm, hz, hx, hcell, hwz⟩
  · exact ⟨_, [], hcs, none, 0, rfl, ⟨Nat.le_refl _, fun _ => rfl⟩, by simp, .inl rfl⟩
  · have hz' : zs.length = c := by simpa using hz
    have hl2 : (zs.take l).length = l := by rw [List.length_take]; omega
    have hb : l ≤ 140737488355328 := by
      have := hs ((l + (c - l)) * 8) (by
        rw [hx]
        simp only [DataW.weights, Tryz.underlying22]
        refine List.mem_cons.2 (.inl ?_)
        rw [bytes_int]
        simp [lits, hz', hl])
      unfold reachBytes at this
      omega
    refine ⟨_, zs.take l, hcs, some y, c, by rw [hl2], ⟨by rw [hl2]; exact hl, fun h => nomatch h⟩, by rw [hl2]; exact hb, ?_⟩
    by_cases e : l = 0
    · left; subst e; simp
    · right
      obtain ⟨b, o, rfl⟩ := add_spot (hcell 0 (by omega))
      refine ⟨b, o, rfl, fun j v hv => ?_⟩
      have hj : j < l := by have := (List.getElem?_eq_some_iff.1 hv).1; rw [List.length_map, hl2] at this; exact this
      have := hcell j (by omega)
      rw [add_mid] at this
      rw [this, ← hv]
      simp [List.getElem?_take_of_lt hj, show j < zs.length by omega]
theorem open_lines {H : Type} {enc : TypeId × Value → H} {W : World} {fuel : Nat} {cs : List Value} {x : DataW H × List MemPlace}
    (hf : DataW.trod enc Tryz.prog W 0 (fun _ => true) true fuel 24 cs = some x) (hs : ∀ k ∈ x.1.weights Tryz.prog 24, k ≤ reachBytes) : ∃ (v : Value) (L : List Ln), cs = [v] ∧ RdL W v L := by
  rcases open_slice Tryz.underlying24 hf with ⟨hcs, _⟩ | ⟨y, len, cap, m, n, D, Pl, hcs, _, hl, hm, hmm, hxe, hx⟩
  · exact ⟨_, [], hcs, none, 0, rfl, Nat.le_refl _, by simp, fun j hj => nomatch hj⟩
  · have hlm : len ≤ m := by rw [hmm]; split <;> omega
    have ce : Tryz.prog.cellsOf 43 = 2 := by kernel_rfl
    have ci : Tryz.prog.cellsOf 3 = 1 := by kernel_rfl
    have cn : Tryz.prog.cellsOf 22 = 1 := by kernel_rfl
    have he : Tryz.prog.underlying 43 = _ := Tryz.underlying43
    have hb : len ≤ 140737488355328 := by
      have := hs ((len + (m - len)) * 32) (by
        rw [hxe]
        simp only [DataW.weights, Tryz.underlying24]
        refine List.mem_cons.2 (.inl ?_)
        rw [bytes_line]
        simp)
      unfold reachBytes at this
      omega
    have each : ∀ i, i < len → ∃ q : Value × Ln, W.cell? (y.add (i * 2)) = some (.int .i64 q.2.1) ∧ W.cell? (y.add (i * 2 + 1)) = some q.1 ∧ RdN W q.1 q.2.2 := by
      intro i hi
      obtain ⟨cs', h1, h2⟩ := hx i (by omega)
      rw [ce] at h1
      obtain ⟨_, hlen, hcell⟩ := World.cells?_some h1
      obtain ⟨xs, k, hk, hxy, _, hxl, hf⟩ := DataW.trod_struct he h2
      match xs, hxl with
      | [y0, y1], _ =>
        have g0 := hf 0 _ rfl
        have g1 := hf 1 _ rfl
        simp only [List.getElem_toArray, List.getElem_cons_zero, List.getElem_cons_succ, ci, cn, List.getElem?_cons_zero, List.getElem?_cons_succ] at g0 g1
        obtain ⟨z0, hz0, _, _⟩ := DataW.trod_int Tryz.underlying3 g0
        have hw1 : ∀ k ∈ y1.1.weights Tryz.prog 22, k ≤ reachBytes := fun k hk => by
          refine hs k ?_
          rw [hxe]
          simp only [DataW.weights, Tryz.underlying24]
          refine List.mem_cons_of_mem _ (List.mem_append_left _ (weightsAll_mem (List.mem_map.2 ⟨i, List.mem_range.2 hi, rfl⟩) ?_))
          have hD : D i = .agg [y0.1, y1.1] := congrArg Prod.fst hxy
          rw [hD]
          simp only [DataW.weights, Tryz.underlying43]
          simp only [DataW.weightsEach, List.map_cons, List.map_nil]
          exact List.mem_append_right _ (List.mem_append_left _ hk)
        obtain ⟨v, C, hc, hr⟩ := open_nums g1 hw1
        have e0 : cs'[0]? = some (.int .i64 z0) := by
          have := congrArg (fun z => z[0]?) hz0
          simpa using this
        have e1 : cs'[1]? = some v := by
          have := congrArg (fun z => z[0]?) hc
          simpa using this
        refine ⟨(v, z0, C), ?_, ?_, hr⟩
        · have e := hcell 0 (by omega)
          rw [add_add, e0] at e
          exact e
        · have e := hcell 1 (by omega)
          rw [add_add, e1] at e
          exact e
    obtain ⟨q, hq⟩ := choose_lt each
    have hat : ∀ j, j < len → ((List.range len).map (fun i => (q i).2)).getD j (0, []) = (q j).2 := fun j hj => by simp [List.getD, hj]
    refine ⟨_, (List.range len).map (fun i => (q i).2), hcs, some y, cap, by simp, by simpa using hl, by simpa using hb, fun j hj => ?_⟩
    have hj' : j < len := by simpa using hj
    have h0 := (hq 0 (by omega)).1
    rw [Nat.zero_mul] at h0
    obtain ⟨b, o, rfl⟩ := add_spot h0
    have h1 := (hq j hj').1
    have h2 := (hq j hj').2.1
    rw [add_mid] at h1 h2
    refine ⟨b, o, (q j).1, rfl, ?_, by rw [Nat.add_assoc]; exact h2, ?_⟩
    · rw [hat j hj']; exact h1
    · rw [hat j hj']; exact (hq j hj').2.2
set_option maxRecDepth 100000 in
/-- a pattern that came in -/
theorem open_patternN {H : Type} {enc : TypeId × Value → H} {W : World} {v : Value} {d : DataW H} {ps : List MemPlace}
    (h : DataW.Trod enc Tryz.prog W 0 (fun _ => true) true 26 v d ps) (hs : ∀ k ∈ d.weights Tryz.prog 26, k ≤ reachBytes) : ∃ p : Pt, RdP W v p ∧ p.nm.size ≤ 140737488355328 := by
  obtain ⟨fuel, hf⟩ := h
  have c4 : Tryz.prog.cellsOf 26 = 4 := by kernel_rfl
  have cs1 : Tryz.prog.cellsOf 9 = 1 := by kernel_rfl
  have ca : Tryz.prog.cellsOf 23 = 2 := by kernel_rfl
  have cn : Tryz.prog.cellsOf 22 = 1 := by kernel_rfl
  have cl : Tryz.prog.cellsOf 24 = 1 := by kernel_rfl
  have he : Tryz.prog.underlying 26 = _ := Tryz.underlying26
  obtain ⟨y0, y1, y2, n, hx, hlen, g0, g1, g2⟩ := trod_struct3 he hf
  rw [c4] at hlen
  obtain ⟨e0, e1, e2, e3, rfl⟩ : ∃ e0 e1 e2 e3, v = .agg #[e0, e1, e2, e3] := by
    cases v with
    | agg cs =>
      obtain ⟨l⟩ := cs
      match l, hlen with
      | [e0, e1, e2, e3], _ => exact ⟨e0, e1, e2, e3, rfl⟩
    | _ => simp [Value.cells] at hlen
  simp only [cs1, ca, cl, Value.cells, List.drop_zero, List.take_succ_cons, List.take_zero, List.drop_succ_cons] at g0 g1 g2
  obtain ⟨nm, h0, hnx, _⟩ := DataW.trod_string Tryz.underlying9 g0
  obtain ⟨xs, m, _, hxa, _, hxl, hel⟩ := DataW.trod_array Tryz.underlying23 g1
  have hd : d = .agg [y0.1, y1.1, y2.1] := congrArg Prod.fst hx
  match xs, hxl with
  | [z0, z1], _ =>
    have k0 := hel 0 (by decide)
    have k1 := hel 1 (by decide)
    simp only [cn, Nat.zero_mul, Nat.one_mul, List.drop_zero, List.take_succ_cons, List.take_zero, List.drop_succ_cons, List.getElem?_cons_zero, List.getElem?_cons_succ] at k0 k1
    have hy1 : y1.1 = .agg [z0.1, z1.1] := congrArg Prod.fst hxa
    have hW : ∀ k, k ∈ y1.1.weights Tryz.prog 23 ∨ k ∈ y2.1.weights Tryz.prog 24 → k ≤ reachBytes := fun k hk => by
      refine hs k ?_
      rw [hd]
      simp only [DataW.weights, Tryz.underlying26, List.map_cons, List.map_nil, DataW.weightsEach]
      rcases hk with hk | hk
      · exact List.mem_append_right _ (List.mem_append_left _ hk)
      · exact List.mem_append_right _ (List.mem_append_right _ (List.mem_append_left _ hk))
    have hW0 : ∀ k ∈ z0.1.weights Tryz.prog 22, k ≤ reachBytes := fun k hk => hW k (.inl (by
      rw [hy1]; simp only [DataW.weights, Tryz.underlying23, DataW.weightsAll]
      exact List.mem_append_left _ hk))
    have hW1 : ∀ k ∈ z1.1.weights Tryz.prog 22, k ≤ reachBytes := fun k hk => hW k (.inl (by
      rw [hy1]; simp only [DataW.weights, Tryz.underlying23, DataW.weightsAll]
      exact List.mem_append_right _ (List.mem_append_left _ hk)))
    obtain ⟨w0, C0, q0, r0⟩ := open_nums k0 hW0
    obtain ⟨w1, C1, q1, r1⟩ := open_nums k1 hW1
    obtain ⟨w2, L, q2, r2⟩ := open_lines g2 (fun k hk => hW k (.inr hk))
    injection h0 with h0 _
    injection q0 with q0 _
    injection q1 with q1 _
    injection q2 with q2 _
    subst h0 q0 q1 q2
    refine ⟨⟨nm, C0, C1, L⟩, ⟨e1, e2, e3, rfl, r0, r1, r2⟩, ?_⟩
    have hy0 := congrArg Prod.fst hnx
    have := hs nm.data.toList.length (by
      rw [hd]
      simp only [DataW.weights, Tryz.underlying26, List.map_cons, List.map_nil, DataW.weightsEach]
      refine List.mem_append_left _ ?_
      rw [hy0]; simp [DataW.weights])
    unfold reachBytes at this
    have e : nm.data.toList.length = nm.size := by simp
    show nm.size ≤ _
    omega
theorem open_pattern {H : Type} {enc : TypeId × Value → H} {W : World} {v : Value} {d : DataW H} {ps : List MemPlace}
    (h : DataW.Trod enc Tryz.prog W 0 (fun _ => true) true 26 v d ps) (hs : ∀ k ∈ d.weights Tryz.prog 26, k ≤ reachBytes) : ∃ p : Pt, RdP W v p := by
  obtain ⟨p, h1, _⟩ := open_patternN h hs
  exact ⟨p, h1⟩
end Go.Proofs.YtpfidohkohldaaaGreatDoor
/- a package-level table of literals (arrays, structs, numbers, bools, texts): its cells, one behind the other -/
namespace Go.Pin
mutual
def flt (P : Program) : Nat → TypeId → DataW Unit → Option (List Value)
  | 0, _, _ => none
  | f + 1, t, d => match P.underlying t, d with
    | some .bool, .lit (.bool b) => some [.bool b]
    | some (.int k), .lit (.int k' n) => if k' = k then some [.int k n] else none
    | some .string, .lit (.string l) => some [.string ⟨l.toArray⟩]
    | some (.struct fs), .agg ds => match fltF P f 0 fs.toList ds with
      | some c => if c.length = P.cellsOf t then some c else none
      | none => none
    | some (.array n e), .agg ds => if ds.length = n then match fltA P f e ds with
      | some c => if c.length = P.cellsOf t then some c else none
      | none => none
      else none
    | _, _ => none
def fltF (P : Program) : Nat → Nat → List Field → List (DataW Unit) → Option (List Value)
  | 0, _, _, _ => none
  | _ + 1, _, [], [] => some []
  | f + 1, o, x :: fs, d :: ds => if x.offset = o then match flt P f x.type d with
      | none => none
      | some c => if c.length = P.cellsOf x.type then (fltF P f (o + c.length) fs ds).map (c ++ ·) else none
    else none
  | _ + 1, _, _, _ => none
def fltA (P : Program) : Nat → TypeId → List (DataW Unit) → Option (List Value)
  | 0, _, _ => none
  | _ + 1, _, [] => some []
  | f + 1, e, d :: ds => match flt P f e d with
      | none => none
      | some c => if c.length = P.cellsOf e then (fltA P f e ds).map (c ++ ·) else none
end
theorem piece {cs c r : List Value} {o k : Nat} (_ : c.length = k) (h1 : (cs.drop o).take k = c) (h2 : cs.drop (o + k) = r) : cs.drop o = c ++ r := by
  rw [← List.take_append_drop k (cs.drop o), h1, List.drop_drop, h2]
variable {P : Program} {w : World} {base : Nat} {sp : Nat → Bool} {held : Bool} {enc : TypeId × Value → Unit}
/-- what is read as a table of literals is their cells -/
theorem flt_all (f : Nat) : (∀ (m : Nat) (t : TypeId) (d : DataW Unit) (cs c : List Value) (p : List MemPlace), flt P f t d = some c → DataW.trod enc P w base sp held m t cs = some (d, p) → cs = c) ∧
    (∀ (m o : Nat) (fs : List Field) (ds : List (DataW Unit)) (cs c : List Value) (xs : List (DataW Unit × List MemPlace)), fltF P f o fs ds = some c → (∀ (i : Nat) (x : Field), fs[i]? = some x → DataW.trod enc P w base sp held m x.type ((cs.drop x.offset).take (P.cellsOf x.type)) = xs[i]?) → xs.map (·.1) = ds → cs.length = o + c.length → cs.drop o = c) ∧
    (∀ (m o : Nat) (e : TypeId) (ds : List (DataW Unit)) (cs c : List Value) (xs : List (DataW Unit × List MemPlace)), fltA P f e ds = some c → (∀ (i : Nat), i < ds.length → DataW.trod enc P w base sp held m e ((cs.drop ((o + i) * P.cellsOf e)).take (P.cellsOf e)) = xs[i]?) → xs.map (·.1) = ds → cs.length = o * P.cellsOf e + c.length → cs.drop (o * P.cellsOf e) = c) := by
  induction f with
  | zero =>
    refine ⟨fun m t d cs c p h => ?_, fun m o fs ds cs c xs h => ?_, fun m o e ds cs c xs h => ?_⟩
    · simp [flt] at h
    · simp [fltF] at h
    · simp [fltA] at h
  | succ f ih =>
    obtain ⟨ih1, ih2, ih3⟩ := ih
    refine ⟨fun m t d cs c p h h' => ?_, fun m o fs ds cs c xs h h' hx hl => ?_, fun m o e ds cs c xs h h' hx hl => ?_⟩
    · unfold flt at h
      split at h
      · rename_i hu
        obtain ⟨b, rfl, e⟩ := DataW.trod_bool hu h'
        injection e with e
        injection e with e
        injection e with e
        injection h with h
        rw [← h, e]
      · rename_i hu
        obtain ⟨z, rfl, e, _⟩ := DataW.trod_int hu h'
        injection e with e
        injection e with e
        injection e with e1 e2
        split at h
        · injection h with h
          rw [← h, e2]
        · rename_i hne
          exact absurd e1 hne
      · rename_i hu
        obtain ⟨s, rfl, e, _⟩ := DataW.trod_string hu h'
        injection e with e
        injection e with e
        injection e with e
        injection h with h
        rw [← h, e]
      · rename_i fs ds hu
        obtain ⟨xs, n, rfl, e, hl, _, hx⟩ := DataW.trod_struct hu h'
        injection e with e _
        injection e with e
        split at h
        · rename_i c' hc
          split at h
          · rename_i hlc
            injection h with h
            subst h
            have := ih2 n 0 fs.toList ds cs c' xs hc (fun i x hi => hx i x (by simpa using hi)) e.symm (by omega)
            simpa using this
          · simp at h
        · simp at h
      · rename_i n e0 ds hu
        obtain ⟨xs, m', rfl, e, hl, hxl, hx⟩ := DataW.trod_array hu h'
        injection e with e _
        injection e with e
        split at h
        · rename_i hdn
          split at h
          · rename_i c' hc
            split at h
            · rename_i hlc
              injection h with h
              subst h
              have := ih3 m' 0 e0 ds cs c' xs hc (fun i hi => by rw [Nat.zero_add]; exact hx i (by omega)) e.symm (by omega)
              simpa using this
            · simp at h
          · simp at h
        · simp at h
      · simp at h
    · cases fs with
      | nil =>
        cases ds with
        | nil =>
          simp only [fltF, Option.some.injEq] at h
          subst h
          exact List.drop_eq_nil_of_le (by simp at hl; omega)
        | cons d ds => simp [fltF] at h
      | cons x fs =>
        cases ds with
        | nil => simp [fltF] at h
        | cons d ds =>
          simp only [fltF] at h
          split at h
          · rename_i ho
            cases hc : flt P f x.type d with
            | none => rw [hc] at h; simp at h
            | some c1 =>
              rw [hc] at h
              simp only at h
              split at h
              · rename_i hk
                simp only [Option.map_eq_some_iff] at h
                obtain ⟨c2, h2, rfl⟩ := h
                cases xs with
                | nil => simp at hx
                | cons y ys =>
                  obtain ⟨y1, y2⟩ := y
                  simp only [List.map_cons, List.cons.injEq] at hx
                  obtain ⟨hy1, hys⟩ := hx
                  have h0 := h' 0 x rfl
                  rw [List.getElem?_cons_zero, hy1] at h0
                  have e1 := ih1 m x.type d _ c1 y2 hc h0
                  rw [ho] at e1
                  have e2 := ih2 m (o + c1.length) fs ds cs c2 ys h2 (fun i z hi => by have := h' (i + 1) z (by simpa using hi); simpa using this) hys (by rw [List.length_append] at hl; omega)
                  exact piece hk e1 (by rw [← hk]; exact e2)
              · simp at h
          · simp at h
    · cases ds with
      | nil =>
        simp only [fltA, Option.some.injEq] at h
        subst h
        exact List.drop_eq_nil_of_le (by simp at hl; omega)
      | cons d ds =>
        simp only [fltA] at h
        cases hc : flt P f e d with
        | none => rw [hc] at h; simp at h
        | some c1 =>
          rw [hc] at h
          simp only at h
          split at h
          · rename_i hk
            simp only [Option.map_eq_some_iff] at h
            obtain ⟨c2, h2, rfl⟩ := h
            cases xs with
            | nil => simp at hx
            | cons y ys =>
              obtain ⟨y1, y2⟩ := y
              simp only [List.map_cons, List.cons.injEq] at hx
              obtain ⟨hy1, hys⟩ := hx
              have h0 := h' 0 (by simp)
              rw [List.getElem?_cons_zero, hy1, Nat.add_zero] at h0
              have e1 := ih1 m e d _ c1 y2 hc h0
              have e2 := ih3 m (o + 1) e ds cs c2 ys h2 (fun i hi => by have := h' (i + 1) (by simp; omega); rw [show o + (i + 1) = o + 1 + i by omega] at this; simpa using this) hys (by rw [List.length_append] at hl; rw [Nat.add_mul, Nat.one_mul]; omega)
              rw [Nat.add_mul, Nat.one_mul] at e2
              exact piece hk e1 e2
          · simp at h
theorem cells_of_flt {f m : Nat} {t : TypeId} {d : DataW Unit} {cs c : List Value} {p : List MemPlace} (h : flt P f t d = some c) (h' : DataW.trod enc P w base sp held m t cs = some (d, p)) : cs = c := (flt_all f).1 m t d cs c p h h'
end Go.Pin
