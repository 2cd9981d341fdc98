import Derived.Test.YtfkbgodfcnmepabDoorDgOf
import Derived.Maps.AppendAt
namespace Go.Proofs.YtfkbgodfcnmepabDoor
set_option linter.unusedSimpArgs false
set_option linter.unusedVariables false
open Go.ChangeShapes Go.WideShapes Go.ChangeAt Go.RowKit Go.Pin Go.Str Go.Dig
theorem wpList_app {P : Program} (w : World) {ops : Array Oper} {rest : List Oper} {o : Oper} {a : Act} {Q : Exit → Act → World → Prop} {R : Value → World → Prop} (hgd : o.guard = none) (d s : Operand) (t t' : TypeId)
    (ho : o.op = .call { callee := .builtin .append, args := #[d, s], argTypes := #[t, t'] }) (v u : Value) (hd : a.eval d = v) (hs : a.eval s = u)
    (hr : ∀ ty, ∃ v' w', (Builtin.append_ #[t, t'] ty #[v, u]).run P w = .ok v' w' ∧ R v' w') (h : ∀ v' w', R v' w' → wpList P ops Q rest (a.put o.dst v') w') : wpList P ops Q (o :: rest) a w :=
  wpList_plain hgd fun _ hK => by
    obtain ⟨v', w', h1, h2⟩ := hr o.type
    unfold Oper.wp execOp
    simp only [ho, resolve, invoke, builtin, Sem.run_bind, Sem.run_pure, Result.andThen_ok, List.map_toArray, List.map_cons, List.map_nil, hd, hs, h1]
    exact hK _ _ (h v' w' h2)
/-- a list that grows, and its box -/
def Lst (T : TypeId) (sz : Nat) (v : Value) (n : Nat) (xs : List Value) (lb : List (Nat × Obj)) : Prop :=
  xs.length = n * sz ∧ ((v = .slice none 0 0 ∧ n = 0 ∧ lb = []) ∨ ∃ g cap cur, v = .slice (some ⟨g, 0, none⟩) n cap ∧ lb = [(g, .cells cur T (0, 0))] ∧ n ≤ cap ∧ cap ≤ maxLen ∧ cur.size = cap * sz ∧ cur.toList.take (n * sz) = xs)
theorem lst_nil (T : TypeId) (sz : Nat) : Lst T sz (.slice none 0 0) 0 [] [] := ⟨by simp, .inl ⟨rfl, rfl, rfl⟩⟩
section
variable {B : Nat} {w : World} {rv : Value} {l : List (Int × Int)} {bx lb : List (Nat × Obj)} {W : World} {T : TypeId} {sz : Nat} {v : Value} {n : Nat} {xs : List Value}
theorem Lst.own (hL : Lst T sz v n xs lb) (hge : ∀ p ∈ lb, B ≤ p.1) (hat : ∀ p ∈ lb, W.heap[p.1]? = some p.2) : W.ownsRow B T sz v n xs := by
  refine ⟨hL.1, ?_⟩
  rcases hL.2 with ⟨h1, h2, _⟩ | ⟨g, cap, cur, h1, rfl, h3, h4, h5, h6⟩
  · exact .inl ⟨h1, h2⟩
  · exact .inr ⟨g, cap, cur, h1, hge (g, .cells cur T (0, 0)) mem0, hat (g, .cells cur T (0, 0)) mem0, h3, h4, h5, h6⟩
theorem lst_of (h : W.ownsRow B T sz v n xs) : ∃ lb, Lst T sz v n xs lb ∧ (∀ p ∈ lb, B ≤ p.1 ∧ W.heap[p.1]? = some p.2 ∧ v.ownBlock = some p.1) := by
  rcases h.2 with ⟨h1, h2⟩ | ⟨g, cap, cur, h1, h2, h3, h4, h5, h6, h7⟩
  · exact ⟨[], ⟨h.1, .inl ⟨h1, h2, rfl⟩⟩, by simp⟩
  · refine ⟨[(g, .cells cur T (0, 0))], ⟨h.1, .inr ⟨g, cap, cur, h1, rfl, h4, h5, h6, h7⟩⟩, fun p hp => ?_⟩
    rw [List.mem_singleton.1 hp]
    exact ⟨h2, h3, by rw [h1]; rfl⟩
theorem Lst.blk (hL : Lst T sz v n xs lb) {k : Nat} (hk : v.ownBlock = some k) : ∃ o, (k, o) ∈ lb := by
  rcases hL.2 with ⟨rfl, _, _⟩ | ⟨g, cap, cur, rfl, rfl, _⟩
  · cases hk
  · simp only [Value.ownBlock, Option.some.injEq] at hk
    subst hk
    exact ⟨_, mem0⟩
/-- it grows -/
theorem Ev.app (h : Ev B w rv l (lb ++ bx) W) (hL : Lst T sz v n xs lb) (hne : ∀ p ∈ lb, ∀ q ∈ bx, q.1 ≠ p.1) (t ty : TypeId) (i : TypeInfo) (z : Value) (bytes : Nat) (ht : Tryd.prog.underlying t = some (.slice T)) (hi : Tryd.prog.info? T = some i) (hz : i.zero = some z)
    (hsize : i.size = sz) (hby : i.bytes = bytes) (hzs : z.cells.size = sz) (hsz : 0 < sz)
    (a : Addr) (m c : Nat) (news : List Value) (hl : news.length = m * sz) (hnews : ∀ j u, news[j]? = some u → W.cell? (a.add j) = some u) (h1 : ∀ u ∈ news, u.oneCell' = true)
    (h63 : n + m ≤ maxLen) (hbytes : (n + m) * bytes ≤ 140737488355328) :
    ∃ v' w', (Builtin.append_ #[t, t] ty #[v, .slice (some a) m c]).run Tryd.prog W = .ok v' w' ∧ ∃ lb', Lst T sz v' (n + m) (xs ++ news) lb' ∧ Ev B w rv l (lb' ++ bx) w' ∧ (∀ p ∈ lb', ∀ q ∈ bx, q.1 ≠ p.1) := by
  have ho : W.ownsRow B T sz v n xs := hL.own (fun p hp => h.ge p (List.mem_append_left _ hp)) (fun p hp => h.at' p (List.mem_append_left _ hp))
  obtain ⟨v', w', hr, h2, h3, _, h5⟩ := run_append_own_at (P := Tryd.prog) W B t ty T i z sz bytes ht hi hz hsize hby hzs hsz v n xs ho a m c news hl hnews h1 h63 hbytes h.le
  obtain ⟨lb', hL', hb'⟩ := lst_of h2
  have hnew : ∀ p ∈ lb', (∃ o, (p.1, o) ∈ lb) ∨ p.1 = W.heap.size := fun p hp => by
    have hq := (hb' p hp).2.2
    rcases h5 with h5 | h5
    · rw [h5] at hq; exact .inl (hL.blk hq)
    · rw [h5] at hq; injection hq with hq; exact .inr hq.symm
  have hgr : Grow (fun k => v.ownBlock = some k) W w' := ⟨h3.os, h3.tape, h3.output, h3.size, fun k hk hn => h3.block k hk (fun e => hn e.symm)⟩
  have hnb : ∀ q ∈ bx, v.ownBlock ≠ some q.1 := fun q hq e => by
    obtain ⟨o, ho'⟩ := hL.blk e
    exact hne _ ho' q hq rfl
  refine ⟨v', w', hr, lb', hL', ⟨h.old.trans (hgr.below (fun k hk => (ho.lt k hk).1) h.le), Nat.le_trans h.le h3.size, fun p hp => ?_, fun p hp => ?_, ?_⟩, fun p hp q hq => ?_⟩
  · rcases List.mem_append.1 hp with hp | hp
    · exact (hb' p hp).1
    · exact h.ge p (List.mem_append_right _ hp)
  · rcases List.mem_append.1 hp with hp | hp
    · exact (hb' p hp).2.1
    · have hq := h.at' p (List.mem_append_right _ hp)
      rw [hgr.block p.1 (heap_lt hq) (hnb p hp)]
      exact hq
  · rcases h.rc with e | ⟨R, vs, e, g2, g3⟩
    · exact .inl e
    · refine .inr ⟨R, vs, e, g2.grow hgr (fun k hk hn => ?_), fun p hp => ?_⟩
      · obtain ⟨o, ho'⟩ := hL.blk hn
        exact g3 _ (List.mem_append_left _ ho') hk
      · rcases List.mem_append.1 hp with hp | hp
        · rcases hnew p hp with ⟨o, ho'⟩ | e2
          · exact g3 (p.1, o) (List.mem_append_left _ ho')
          · rw [e2]; intro hk; have := g2.lt _ hk; omega
        · exact g3 p (List.mem_append_right _ hp)
  · rcases hnew p hp with ⟨o, ho'⟩ | e2
    · exact hne _ ho' q hq
    · rw [e2]
      have := heap_lt (h.at' q (List.mem_append_right _ hq))
      omega
end
theorem parts_sl : (Tryd.prog.info? 22).map (fun i => (i.zero, i.size, i.bytes)) = some (some (.slice none 0 0), 1, 24) := by kernel_rfl
section
variable {B : Nat} {w : World} {rv : Value} {l : List (Int × Int)} {bx lb : List (Nat × Obj)} {W : World} {v : Value} {n : Nat}
/-- a slice comes to a list of slices -/
theorem Ev.appS {vs : List Value} (h : Ev B w rv l (lb ++ bx) W) (hL : Lst 22 1 v n vs lb) (hne : ∀ p ∈ lb, ∀ q ∈ bx, q.1 ≠ p.1) (ty : TypeId) {g : Nat} {a : Option Addr} {m c : Nat} (hg : W.heap[g]? = some (.cells #[.slice a m c] 22)) (hn : n ≤ 1000) :
    ∃ v' w', (Builtin.append_ #[35, 35] ty #[v, .slice (some ⟨g, 0, none⟩) 1 1]).run Tryd.prog W = .ok v' w' ∧ ∃ lb', Lst 22 1 v' (n + 1) (vs ++ [.slice a m c]) lb' ∧ Ev B w rv l (lb' ++ bx) w' ∧ (∀ p ∈ lb', ∀ q ∈ bx, q.1 ≠ p.1) := by
  obtain ⟨i0, hi, hz⟩ := Option.map_eq_some_iff.1 parts_sl
  simp only [Prod.mk.injEq] at hz
  obtain ⟨hz0, hz1, hz2⟩ := hz
  refine h.app hL hne 35 ty i0 (.slice none 0 0) 24 Tryd.underlying35 hi hz0 hz1 hz2 rfl (by decide) ⟨g, 0, none⟩ 1 1 [.slice a m c] rfl (fun j u hj => ?_) (fun u hu => by rw [List.mem_singleton.1 hu]; rfl) (by unfold maxLen; omega) (by omega)
  match j, hj with
  | 0, hj =>
    simp only [List.getElem?_cons_zero, Option.some.injEq] at hj
    rw [add_mid, cell_of_row _ _ _ _ _ _ hg, ← hj]
    rfl
/-- bytes come to a list of bytes -/
theorem Ev.appB {A D : List Int} (h : Ev B w rv l (lb ++ bx) W) (hL : Lst 5 1 v n (A.map (Value.int .u8)) lb) (hne : ∀ p ∈ lb, ∀ q ∈ bx, q.1 ≠ p.1) (ty : TypeId) {u : Value} (hS : Src B w bx u D) (hn : n + D.length ≤ 1000000) :
    ∃ v' w', (Builtin.append_ #[22, 22] ty #[v, u]).run Tryd.prog W = .ok v' w' ∧ ∃ lb', Lst 5 1 v' (n + D.length) ((A ++ D).map (Value.int .u8)) lb' ∧ Ev B w rv l (lb' ++ bx) w' ∧ (∀ p ∈ lb', ∀ q ∈ bx, q.1 ≠ p.1) := by
  obtain ⟨i0, hi, hz⟩ := Option.map_eq_some_iff.1 parts_u8
  simp only [Prod.mk.injEq] at hz
  obtain ⟨hz0, hz1, hz2⟩ := hz
  obtain ⟨a, cap, rfl, hc, hS⟩ := hS
  by_cases hD : D = []
  · subst hD
    refine ⟨v, W, ?_, lb, ?_, h, hne⟩
    · have hfc : ∀ x : Addr, (loadCells x 0).run Tryd.prog W = .ok #[] W := fun x => by simpa using run_loadCells_list (P := Tryd.prog) W x [] (by simp)
      rcases hL.2 with ⟨rfl, rfl, rfl⟩ | ⟨g, cap', cur, rfl, rfl, h3, h4, h5, h6⟩
      · cases a <;> simp [Builtin.append_, run_underlying Tryd.underlying22, sizeOf, typeInfo, zeroValue, hi, Builtin.lenOf, Question.forced, storeCells, Builtin.firstCells, hfc]
      · cases a <;> simp [Builtin.append_, run_underlying Tryd.underlying22, sizeOf, typeInfo, zeroValue, hi, Builtin.lenOf, Question.forced, storeCells, Builtin.firstCells, hfc, h3]
    · simpa using hL
  · rcases hS with e | ⟨b, o, rfl, hr⟩
    · exact absurd e hD
    · have hrr := hr W h.old (fun q hq => h.at' q (List.mem_append_right _ hq))
      rw [List.map_append]
      exact h.app hL hne 22 ty i0 (.int .u8 0) 1 Tryd.underlying22 hi hz0 hz1 hz2 rfl (by decide) ⟨b, o, none⟩ D.length cap (D.map (Value.int .u8)) (by simp) (fun j u hj => by rw [add_mid]; exact hrr j u hj) (fun u hu => by
        simp only [List.mem_map] at hu
        obtain ⟨x, _, rfl⟩ := hu
        rfl) (by unfold maxLen; omega) (by omega)
end
/-- a list of one's own beside the boxes -/
def LE (T : TypeId) (sz : Nat) (v : Value) (n : Nat) (xs : List Value) (B : Nat) (w : World) (rv : Value) (l : List (Int × Int)) (bx : List (Nat × Obj)) (W : World) : Prop := ∃ lb, Lst T sz v n xs lb ∧ Ev B w rv l (lb ++ bx) W ∧ (∀ p ∈ lb, ∀ q ∈ bx, q.1 ≠ p.1)
theorem Lst.slice' {T : TypeId} {sz : Nat} {v : Value} {n : Nat} {xs : List Value} {lb : List (Nat × Obj)} (h : Lst T sz v n xs lb) : ∃ a c, v = .slice a n c := by
  rcases h.2 with ⟨h1, h2, _⟩ | ⟨g, cap, cur, h1, _⟩
  · exact ⟨none, 0, by rw [h1, h2]⟩
  · exact ⟨_, _, h1⟩
/-- a byte comes to a list of bytes -/
theorem Ev.app1 {B : Nat} {w : World} {rv : Value} {l : List (Int × Int)} {bx lb : List (Nat × Obj)} {W : World} {v : Value} {n : Nat} {A : List Int} (h : Ev B w rv l (lb ++ bx) W) (hL : Lst 5 1 v n (A.map (Value.int .u8)) lb) (hne : ∀ p ∈ lb, ∀ q ∈ bx, q.1 ≠ p.1) (ty : TypeId) {g : Nat} {y : Int} (hg : W.heap[g]? = some (.cells #[.int .u8 y] 5)) (hn : n ≤ 1000000) :
    ∃ v' w', (Builtin.append_ #[22, 22] ty #[v, .slice (some ⟨g, 0, none⟩) 1 1]).run Tryd.prog W = .ok v' w' ∧ ∃ lb', Lst 5 1 v' (n + 1) ((A ++ [y]).map (Value.int .u8)) lb' ∧ Ev B w rv l (lb' ++ bx) w' ∧ (∀ p ∈ lb', ∀ q ∈ bx, q.1 ≠ p.1) := by
  obtain ⟨i0, hi, hz⟩ := Option.map_eq_some_iff.1 parts_u8
  simp only [Prod.mk.injEq] at hz
  obtain ⟨hz0, hz1, hz2⟩ := hz
  rw [List.map_append]
  refine h.app hL hne 22 ty i0 (.int .u8 0) 1 Tryd.underlying22 hi hz0 hz1 hz2 rfl (by decide) ⟨g, 0, none⟩ 1 1 [.int .u8 y] rfl (fun j u hj => ?_) (fun u hu => by rw [List.mem_singleton.1 hu]; rfl) (by unfold maxLen; omega) (by omega)
  match j, hj with
  | 0, hj =>
    simp only [List.getElem?_cons_zero, Option.some.injEq] at hj
    rw [add_mid, cell_of_row _ _ _ _ _ _ hg, ← hj]
    rfl
/-- a list of bytes of one's own as a source -/
theorem Lst.src {B : Nat} {w : World} {v : Value} {A : List Int} {lb : List (Nat × Obj)} (hL : Lst 5 1 v A.length (A.map (Value.int .u8)) lb) {bx : List (Nat × Obj)} (hs : ∀ p ∈ lb, p ∈ bx) : Src B w bx v A := by
  rcases hL.2 with ⟨h1, h2, _⟩ | ⟨g, cap, cur, h1, rfl, h3, h4, h5, h6⟩
  · exact ⟨none, 0, by rw [h1, h2], by omega, .inl (List.eq_nil_of_length_eq_zero h2)⟩
  · refine ⟨_, cap, h1, h3, .inr ⟨g, 0, rfl, fun Y _ hq => ?_⟩⟩
    have hrow := hq _ (hs _ mem0)
    intro j x hx
    rw [cell_of_row Y _ _ _ _ _ hrow, Nat.zero_add]
    rw [← h6, Nat.mul_one] at hx
    rw [List.getElem?_take] at hx
    split at hx
    · simpa using hx
    · cases hx
theorem Src.at_ {B : Nat} {w : World} {bx : List (Nat × Obj)} {v : Value} {D : List Int} (h : Src B w bx v D) {rv : Value} {l : List (Int × Int)} {Y : World} (he : Ev B w rv l bx Y) : ∀ cx, Src Y.heap.size Y cx v D := by
  intro cx
  obtain ⟨a, cap, h1, h2, h3⟩ := h
  refine ⟨a, cap, h1, h2, h3.imp id ?_⟩
  rintro ⟨b, o, h4, h5⟩
  refine ⟨b, o, h4, fun Z hZ _ => h5 Z (he.old.trans (hZ.mono he.le)) (fun q hq => ?_)⟩
  rw [hZ.block q.1 (heap_lt (he.at' q hq))]
  exact he.at' q hq
end Go.Proofs.YtfkbgodfcnmepabDoor
