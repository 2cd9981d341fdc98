import Derived.Maps.AppendAt
import Derived.Deep.QuietTactic
import Derived.BigQuiet
import Derived.Test.YtfkbgodfcnmepaaDoorDmak
import Derived.Test.YtfkbgodfcnmepaaDoorDmab
namespace Go.Proofs.YtfkbgodfcnmepaaDoor
set_option linter.unusedSimpArgs false
set_option linter.unusedVariables false
open Go.ChangeShapes Go.WideShapes Go.ChangeAt Go.RowKit Go.Pin Go.Str Go.Dig
theorem wpList_app {P : Program} (w : World) {ops : Array Oper} {rest : List Oper} {o : Oper} {a : Act} {Q : Exit → Act → World → Prop} {R : Value → World → Prop} (hgd : o.guard = none) (d s : Operand) (t t' : TypeId)
    (ho : o.op = .call { callee := .builtin .append, args := #[d, s], argTypes := #[t, t'] }) (v u : Value) (hd : a.eval d = v) (hs : a.eval s = u)
    (hr : ∀ ty, ∃ v' w', (Builtin.append_ #[t, t'] ty #[v, u]).run P w = .ok v' w' ∧ R v' w') (h : ∀ v' w', R v' w' → wpList P ops Q rest (a.put o.dst v') w') : wpList P ops Q (o :: rest) a w :=
  wpList_plain hgd fun _ hK => by
    obtain ⟨v', w', h1, h2⟩ := hr o.type
    unfold Oper.wp execOp
    simp only [ho, resolve, invoke, builtin, Sem.run_bind, Sem.run_pure, Result.andThen_ok, List.map_toArray, List.map_cons, List.map_nil, hd, hs, h1]
    exact hK _ _ (h v' w' h2)
/-- a list that grows, and its box -/
def Lst (T : TypeId) (sz : Nat) (v : Value) (n : Nat) (xs : List Value) (lb : List (Nat × Obj)) : Prop :=
  xs.length = n * sz ∧ ((v = .slice none 0 0 ∧ n = 0 ∧ lb = []) ∨ ∃ g cap cur, v = .slice (some ⟨g, 0, none⟩) n cap ∧ lb = [(g, .cells cur T (0, 0))] ∧ n ≤ cap ∧ cap ≤ maxLen ∧ cur.size = cap * sz ∧ cur.toList.take (n * sz) = xs)
theorem lst_nil (T : TypeId) (sz : Nat) : Lst T sz (.slice none 0 0) 0 [] [] := ⟨by simp, .inl ⟨rfl, rfl, rfl⟩⟩
section
variable {B : Nat} {w : World} {rv : Value} {l : List (Int × Int)} {bx lb : List (Nat × Obj)} {W : World} {T : TypeId} {sz : Nat} {v : Value} {n : Nat} {xs : List Value}
theorem Lst.own (hL : Lst T sz v n xs lb) (hge : ∀ p ∈ lb, B ≤ p.1) (hat : ∀ p ∈ lb, W.heap[p.1]? = some p.2) : W.ownsRow B T sz v n xs := by
  refine ⟨hL.1, ?_⟩
  rcases hL.2 with ⟨h1, h2, _⟩ | ⟨g, cap, cur, h1, rfl, h3, h4, h5, h6⟩
  · exact .inl ⟨h1, h2⟩
  · exact .inr ⟨g, cap, cur, h1, hge (g, .cells cur T (0, 0)) mem0, hat (g, .cells cur T (0, 0)) mem0, h3, h4, h5, h6⟩
theorem lst_of (h : W.ownsRow B T sz v n xs) : ∃ lb, Lst T sz v n xs lb ∧ (∀ p ∈ lb, B ≤ p.1 ∧ W.heap[p.1]? = some p.2 ∧ v.ownBlock = some p.1) := by
  rcases h.2 with ⟨h1, h2⟩ | ⟨g, cap, cur, h1, h2, h3, h4, h5, h6, h7⟩
  · exact ⟨[], ⟨h.1, .inl ⟨h1, h2, rfl⟩⟩, by simp⟩
  · refine ⟨[(g, .cells cur T (0, 0))], ⟨h.1, .inr ⟨g, cap, cur, h1, rfl, h4, h5, h6, h7⟩⟩, fun p hp => ?_⟩
    rw [List.mem_singleton.1 hp]
    exact ⟨h2, h3, by rw [h1]; rfl⟩
theorem Lst.blk (hL : Lst T sz v n xs lb) {k : Nat} (hk : v.ownBlock = some k) : ∃ o, (k, o) ∈ lb := by
  rcases hL.2 with ⟨rfl, _, _⟩ | ⟨g, cap, cur, rfl, rfl, _⟩
  · cases hk
  · simp only [Value.ownBlock, Option.some.injEq] at hk
    subst hk
    exact ⟨_, mem0⟩
/-- it grows -/
theorem Ev.app (h : Ev B w rv l (lb ++ bx) W) (hL : Lst T sz v n xs lb) (hne : ∀ p ∈ lb, ∀ q ∈ bx, q.1 ≠ p.1) (t ty : TypeId) (i : TypeInfo) (z : Value) (bytes : Nat) (ht : Tryd.prog.underlying t = some (.slice T)) (hi : Tryd.prog.info? T = some i) (hz : i.zero = some z)
    (hsize : i.size = sz) (hby : i.bytes = bytes) (hzs : z.cells.size = sz) (hsz : 0 < sz)
    (a : Addr) (m c : Nat) (news : List Value) (hl : news.length = m * sz) (hnews : ∀ j u, news[j]? = some u → W.cell? (a.add j) = some u) (h1 : ∀ u ∈ news, u.oneCell' = true)
    (h63 : n + m ≤ maxLen) (hbytes : (n + m) * bytes ≤ 140737488355328) :
    ∃ v' w', (Builtin.append_ #[t, t] ty #[v, .slice (some a) m c]).run Tryd.prog W = .ok v' w' ∧ ∃ lb', Lst T sz v' (n + m) (xs ++ news) lb' ∧ Ev B w rv l (lb' ++ bx) w' ∧ (∀ p ∈ lb', ∀ q ∈ bx, q.1 ≠ p.1) := by
  have ho : W.ownsRow B T sz v n xs := hL.own (fun p hp => h.ge p (List.mem_append_left _ hp)) (fun p hp => h.at' p (List.mem_append_left _ hp))
  obtain ⟨v', w', hr, h2, h3, _, h5⟩ := run_append_own_at (P := Tryd.prog) W B t ty T i z sz bytes ht hi hz hsize hby hzs hsz v n xs ho a m c news hl hnews h1 h63 hbytes h.le
  obtain ⟨lb', hL', hb'⟩ := lst_of h2
  have hnew : ∀ p ∈ lb', (∃ o, (p.1, o) ∈ lb) ∨ p.1 = W.heap.size := fun p hp => by
    have hq := (hb' p hp).2.2
    rcases h5 with h5 | h5
    · rw [h5] at hq; exact .inl (hL.blk hq)
    · rw [h5] at hq; injection hq with hq; exact .inr hq.symm
  have hgr : Grow (fun k => v.ownBlock = some k) W w' := ⟨h3.os, h3.tape, h3.output, h3.size, fun k hk hn => h3.block k hk (fun e => hn e.symm)⟩
  have hnb : ∀ q ∈ bx, v.ownBlock ≠ some q.1 := fun q hq e => by
    obtain ⟨o, ho'⟩ := hL.blk e
    exact hne _ ho' q hq rfl
  refine ⟨v', w', hr, lb', hL', ⟨h.old.trans (hgr.below (fun k hk => (ho.lt k hk).1) h.le), Nat.le_trans h.le h3.size, fun p hp => ?_, fun p hp => ?_, ?_⟩, fun p hp q hq => ?_⟩
  · rcases List.mem_append.1 hp with hp | hp
    · exact (hb' p hp).1
    · exact h.ge p (List.mem_append_right _ hp)
  · rcases List.mem_append.1 hp with hp | hp
    · exact (hb' p hp).2.1
    · have hq := h.at' p (List.mem_append_right _ hp)
      rw [hgr.block p.1 (heap_lt hq) (hnb p hp)]
      exact hq
  · rcases h.rc with e | ⟨R, vs, e, g2, g3⟩
    · exact .inl e
    · refine .inr ⟨R, vs, e, g2.grow hgr (fun k hk hn => ?_), fun p hp => ?_⟩
      · obtain ⟨o, ho'⟩ := hL.blk hn
        exact g3 _ (List.mem_append_left _ ho') hk
      · rcases List.mem_append.1 hp with hp | hp
        · rcases hnew p hp with ⟨o, ho'⟩ | e2
          · exact g3 (p.1, o) (List.mem_append_left _ ho')
          · rw [e2]; intro hk; have := g2.lt _ hk; omega
        · exact g3 p (List.mem_append_right _ hp)
  · rcases hnew p hp with ⟨o, ho'⟩ | e2
    · exact hne _ ho' q hq
    · rw [e2]
      have := heap_lt (h.at' q (List.mem_append_right _ hq))
      omega
end
theorem parts_sl : (Tryd.prog.info? 22).map (fun i => (i.zero, i.size, i.bytes)) = some (some (.slice none 0 0), 1, 24) := by kernel_rfl
section
variable {B : Nat} {w : World} {rv : Value} {l : List (Int × Int)} {bx lb : List (Nat × Obj)} {W : World} {v : Value} {n : Nat}
/-- a slice comes to a list of slices -/
theorem Ev.appS {vs : List Value} (h : Ev B w rv l (lb ++ bx) W) (hL : Lst 22 1 v n vs lb) (hne : ∀ p ∈ lb, ∀ q ∈ bx, q.1 ≠ p.1) (ty : TypeId) {g : Nat} {a : Option Addr} {m c : Nat} (hg : W.heap[g]? = some (.cells #[.slice a m c] 22)) (hn : n ≤ 1000) :
    ∃ v' w', (Builtin.append_ #[51, 51] ty #[v, .slice (some ⟨g, 0, none⟩) 1 1]).run Tryd.prog W = .ok v' w' ∧ ∃ lb', Lst 22 1 v' (n + 1) (vs ++ [.slice a m c]) lb' ∧ Ev B w rv l (lb' ++ bx) w' ∧ (∀ p ∈ lb', ∀ q ∈ bx, q.1 ≠ p.1) := by
  obtain ⟨i0, hi, hz⟩ := Option.map_eq_some_iff.1 parts_sl
  simp only [Prod.mk.injEq] at hz
  obtain ⟨hz0, hz1, hz2⟩ := hz
  refine h.app hL hne 51 ty i0 (.slice none 0 0) 24 Tryd.underlying51 hi hz0 hz1 hz2 rfl (by decide) ⟨g, 0, none⟩ 1 1 [.slice a m c] rfl (fun j u hj => ?_) (fun u hu => by rw [List.mem_singleton.1 hu]; rfl) (by unfold maxLen; omega) (by omega)
  match j, hj with
  | 0, hj =>
    simp only [List.getElem?_cons_zero, Option.some.injEq] at hj
    rw [add_mid, cell_of_row _ _ _ _ _ _ hg, ← hj]
    rfl
/-- bytes come to a list of bytes -/
theorem Ev.appB {A D : List Int} (h : Ev B w rv l (lb ++ bx) W) (hL : Lst 5 1 v n (A.map (Value.int .u8)) lb) (hne : ∀ p ∈ lb, ∀ q ∈ bx, q.1 ≠ p.1) (ty : TypeId) {u : Value} (hS : Src B w bx u D) (hn : n + D.length ≤ 1000000) :
    ∃ v' w', (Builtin.append_ #[22, 22] ty #[v, u]).run Tryd.prog W = .ok v' w' ∧ ∃ lb', Lst 5 1 v' (n + D.length) ((A ++ D).map (Value.int .u8)) lb' ∧ Ev B w rv l (lb' ++ bx) w' ∧ (∀ p ∈ lb', ∀ q ∈ bx, q.1 ≠ p.1) := by
  obtain ⟨i0, hi, hz⟩ := Option.map_eq_some_iff.1 parts_u8
  simp only [Prod.mk.injEq] at hz
  obtain ⟨hz0, hz1, hz2⟩ := hz
  obtain ⟨a, cap, rfl, hc, hS⟩ := hS
  by_cases hD : D = []
  · subst hD
    refine ⟨v, W, ?_, lb, ?_, h, hne⟩
    · have hfc : ∀ x : Addr, (loadCells x 0).run Tryd.prog W = .ok #[] W := fun x => by simpa using run_loadCells_list (P := Tryd.prog) W x [] (by simp)
      rcases hL.2 with ⟨rfl, rfl, rfl⟩ | ⟨g, cap', cur, rfl, rfl, h3, h4, h5, h6⟩
      · cases a <;> simp [Builtin.append_, run_underlying Tryd.underlying22, sizeOf, typeInfo, zeroValue, hi, Builtin.lenOf, Question.forced, storeCells, Builtin.firstCells, hfc]
      · cases a <;> simp [Builtin.append_, run_underlying Tryd.underlying22, sizeOf, typeInfo, zeroValue, hi, Builtin.lenOf, Question.forced, storeCells, Builtin.firstCells, hfc, h3]
    · simpa using hL
  · rcases hS with e | ⟨b, o, rfl, hr⟩
    · exact absurd e hD
    · have hrr := hr W h.old (fun q hq => h.at' q (List.mem_append_right _ hq))
      rw [List.map_append]
      exact h.app hL hne 22 ty i0 (.int .u8 0) 1 Tryd.underlying22 hi hz0 hz1 hz2 rfl (by decide) ⟨b, o, none⟩ D.length cap (D.map (Value.int .u8)) (by simp) (fun j u hj => by rw [add_mid]; exact hrr j u hj) (fun u hu => by
        simp only [List.mem_map] at hu
        obtain ⟨x, _, rfl⟩ := hu
        rfl) (by unfold maxLen; omega) (by omega)
end
/-- a list of one's own beside the boxes -/
def LE (T : TypeId) (sz : Nat) (v : Value) (n : Nat) (xs : List Value) (B : Nat) (w : World) (rv : Value) (l : List (Int × Int)) (bx : List (Nat × Obj)) (W : World) : Prop := ∃ lb, Lst T sz v n xs lb ∧ Ev B w rv l (lb ++ bx) W ∧ (∀ p ∈ lb, ∀ q ∈ bx, q.1 ≠ p.1)
theorem Lst.slice' {T : TypeId} {sz : Nat} {v : Value} {n : Nat} {xs : List Value} {lb : List (Nat × Obj)} (h : Lst T sz v n xs lb) : ∃ a c, v = .slice a n c := by
  rcases h.2 with ⟨h1, h2, _⟩ | ⟨g, cap, cur, h1, _⟩
  · exact ⟨none, 0, by rw [h1, h2]⟩
  · exact ⟨_, _, h1⟩
theorem parts_int : (Tryd.prog.info? 3).map (fun i => (i.zero, i.size, i.bytes)) = some (some (.int .i64 0), 1, 8) := by kernel_rfl
/-- a number comes to a list of numbers -/
theorem Ev.appI {B : Nat} {w : World} {rv : Value} {l : List (Int × Int)} {bx lb : List (Nat × Obj)} {W : World} {v : Value} {n : Nat} {xs : List Value} (h : Ev B w rv l (lb ++ bx) W) (hL : Lst 3 1 v n xs lb) (hne : ∀ p ∈ lb, ∀ q ∈ bx, q.1 ≠ p.1) (ty : TypeId) {g : Nat} {y : Int} (hg : W.heap[g]? = some (.cells #[.int .i64 y] 3)) (hn : n ≤ 1000) :
    ∃ v' w', (Builtin.append_ #[59, 59] ty #[v, .slice (some ⟨g, 0, none⟩) 1 1]).run Tryd.prog W = .ok v' w' ∧ ∃ lb', Lst 3 1 v' (n + 1) (xs ++ [.int .i64 y]) lb' ∧ Ev B w rv l (lb' ++ bx) w' ∧ (∀ p ∈ lb', ∀ q ∈ bx, q.1 ≠ p.1) := by
  obtain ⟨i0, hi, hz⟩ := Option.map_eq_some_iff.1 parts_int
  simp only [Prod.mk.injEq] at hz
  obtain ⟨hz0, hz1, hz2⟩ := hz
  refine h.app hL hne 59 ty i0 (.int .i64 0) 8 Tryd.underlying59 hi hz0 hz1 hz2 rfl (by decide) ⟨g, 0, none⟩ 1 1 [.int .i64 y] rfl (fun j u hj => ?_) (fun u hu => by rw [List.mem_singleton.1 hu]; rfl) (by unfold maxLen; omega) (by omega)
  match j, hj with
  | 0, hj =>
    simp only [List.getElem?_cons_zero, Option.some.injEq] at hj
    rw [add_mid, cell_of_row _ _ _ _ _ _ hg, ← hj]
    rfl
/-- a byte comes to a list of bytes -/
theorem Ev.app1 {B : Nat} {w : World} {rv : Value} {l : List (Int × Int)} {bx lb : List (Nat × Obj)} {W : World} {v : Value} {n : Nat} {A : List Int} (h : Ev B w rv l (lb ++ bx) W) (hL : Lst 5 1 v n (A.map (Value.int .u8)) lb) (hne : ∀ p ∈ lb, ∀ q ∈ bx, q.1 ≠ p.1) (ty : TypeId) {g : Nat} {y : Int} (hg : W.heap[g]? = some (.cells #[.int .u8 y] 5)) (hn : n ≤ 1000000) :
    ∃ v' w', (Builtin.append_ #[22, 22] ty #[v, .slice (some ⟨g, 0, none⟩) 1 1]).run Tryd.prog W = .ok v' w' ∧ ∃ lb', Lst 5 1 v' (n + 1) ((A ++ [y]).map (Value.int .u8)) lb' ∧ Ev B w rv l (lb' ++ bx) w' ∧ (∀ p ∈ lb', ∀ q ∈ bx, q.1 ≠ p.1) := by
  obtain ⟨i0, hi, hz⟩ := Option.map_eq_some_iff.1 parts_u8
  simp only [Prod.mk.injEq] at hz
  obtain ⟨hz0, hz1, hz2⟩ := hz
  rw [List.map_append]
  refine h.app hL hne 22 ty i0 (.int .u8 0) 1 Tryd.underlying22 hi hz0 hz1 hz2 rfl (by decide) ⟨g, 0, none⟩ 1 1 [.int .u8 y] rfl (fun j u hj => ?_) (fun u hu => by rw [List.mem_singleton.1 hu]; rfl) (by unfold maxLen; omega) (by omega)
  match j, hj with
  | 0, hj =>
    simp only [List.getElem?_cons_zero, Option.some.injEq] at hj
    rw [add_mid, cell_of_row _ _ _ _ _ _ hg, ← hj]
    rfl
/-- a list of bytes of one's own as a source -/
theorem Lst.src {B : Nat} {w : World} {v : Value} {A : List Int} {lb : List (Nat × Obj)} (hL : Lst 5 1 v A.length (A.map (Value.int .u8)) lb) {bx : List (Nat × Obj)} (hs : ∀ p ∈ lb, p ∈ bx) : Src B w bx v A := by
  rcases hL.2 with ⟨h1, h2, _⟩ | ⟨g, cap, cur, h1, rfl, h3, h4, h5, h6⟩
  · exact ⟨none, 0, by rw [h1, h2], by omega, .inl (List.eq_nil_of_length_eq_zero h2)⟩
  · refine ⟨_, cap, h1, h3, .inr ⟨g, 0, rfl, fun Y _ hq => ?_⟩⟩
    have hrow := hq _ (hs _ mem0)
    intro j x hx
    rw [cell_of_row Y _ _ _ _ _ hrow, Nat.zero_add]
    rw [← h6, Nat.mul_one] at hx
    rw [List.getElem?_take] at hx
    split at hx
    · simpa using hx
    · cases hx
theorem Src.at_ {B : Nat} {w : World} {bx : List (Nat × Obj)} {v : Value} {D : List Int} (h : Src B w bx v D) {rv : Value} {l : List (Int × Int)} {Y : World} (he : Ev B w rv l bx Y) : ∀ cx, Src Y.heap.size Y cx v D := by
  intro cx
  obtain ⟨a, cap, h1, h2, h3⟩ := h
  refine ⟨a, cap, h1, h2, h3.imp id ?_⟩
  rintro ⟨b, o, h4, h5⟩
  refine ⟨b, o, h4, fun Z hZ _ => h5 Z (he.old.trans (hZ.mono he.le)) (fun q hq => ?_)⟩
  rw [hZ.block q.1 (heap_lt (he.at' q hq))]
  exact he.at' q hq
end Go.Proofs.YtfkbgodfcnmepaaDoor
namespace Go.Proofs.YtfkbgodfcnmepaaDoor
set_option linter.unusedSimpArgs false
set_option linter.unusedVariables false
open Go.ChangeShapes Go.WideShapes Go.ChangeAt Go.RowKit Go.Pin Go.Str Go.Dig
/-- bytes, and marks behind them -/
def rmk (D : List Int) (i : Nat) : Int := if i < D.length then D.getD i 0 else ((161 + i % 7 : Nat) : Int)
def room (D : List Int) : List Int := (List.range (D.length + 70)).map (rmk D)
def roomT (D : List Int) (m : Nat) : List Int := (List.range (D.length + 70)).map fun i => if i < m then rmk D i else 0
theorem room_len (D : List Int) : (room D).length = D.length + 70 := by simp [room]
theorem roomT_len (D : List Int) (m : Nat) : (roomT D m).length = D.length + 70 := by simp [roomT]
theorem room_at (D : List Int) {j : Nat} (hj : j < D.length + 70) : (room D).getD j 0 = rmk D j := by simp [room, List.getD, hj]
theorem rmk_in (D : List Int) {i : Nat} (h : i < D.length) : rmk D i = D.getD i 0 := by unfold rmk; rw [if_pos h]
theorem rmk_out (D : List Int) {i : Nat} (h : ¬ i < D.length) : rmk D i = ((161 + i % 7 : Nat) : Int) := by unfold rmk; rw [if_neg h]
theorem room_take (D : List Int) : (room D).take D.length = D := by
  apply List.ext_getElem (by simp [room_len])
  intro i h1 h2
  simp [room, rmk, h2]
theorem room_byt {D : List Int} (h : Byt D) : Byt (room D) := fun x hx => by
  simp only [room, List.mem_map, List.mem_range] at hx
  obtain ⟨i, _, rfl⟩ := hx
  unfold rmk
  split
  · rename_i hi
    rw [List.getD_eq_getElem?_getD, List.getElem?_eq_getElem hi]
    exact h _ (List.getElem_mem _)
  · omega
theorem roomT_zero (D : List Int) : roomT D 0 = List.replicate (D.length + 70) 0 := by
  apply List.ext_getElem (by simp [roomT_len])
  intro i h1 h2
  simp [roomT]
theorem roomT_full (D : List Int) : roomT D (D.length + 70) = room D := by
  apply List.ext_getElem (by simp [roomT_len, room_len])
  intro i h1 h2
  rw [roomT_len] at h1
  simp [roomT, room, h1]
theorem roomT_set (D : List Int) {m : Nat} (hm : m < D.length + 70) : (roomT D m).set m (rmk D m) = roomT D (m + 1) := by
  apply List.ext_getElem (by simp [roomT_len])
  intro i h1 h2
  rw [List.length_set, roomT_len] at h1
  rw [List.getElem_set]
  simp only [roomT, List.getElem_map, List.getElem_range]
  by_cases e : m = i
  · subst e; simp
  · rw [if_neg e]
    by_cases h : i < m
    · rw [if_pos h, if_pos (by omega)]
    · rw [if_neg h, if_neg (by omega)]
theorem roomT_set2 (D : List Int) {m : Nat} (hm : m < D.length + 70) (v : Int) : ((roomT D m).set m v).set m (rmk D m) = roomT D (m + 1) := by rw [List.set_set, roomT_set D hm]
theorem Ev.setAtH {B : Nat} {w : World} {rv : Value} {l : List (Int × Int)} {bx : List (Nat × Obj)} {W : World} {g : Nat} {M : List Int} {T : TypeId} (h : Ev B w rv l ((g, .cells (VI .u8 M) T) :: bx) W) (hne : ∀ p ∈ bx, p.1 ≠ g) (i : Nat) (hi : i < M.length) (v : Int) :
    W.cell? ⟨g, i, none⟩ = some (.int .u8 (M.getD i 0)) ∧ W.frozen? ⟨g, i, none⟩ = false ∧ Ev B w rv l ((g, .cells (VI .u8 (M.set i v)) T) :: bx) (W.setCell ⟨g, i, none⟩ (.int .u8 v)) := by
  have hr := h.row mem0
  refine ⟨by rw [cell_of_row W _ _ _ _ _ hr, VI_at _ _ _ hi], frozen_of_row W _ _ _ _ hr, ?_⟩
  refine h.set rfl hne ((Grow.refl (fun k => k = g) W).setCell (p := ⟨g, i, none⟩) (.inl rfl) _) ?_
  rw [heap_setCell_same W _ _ _ _ _ hr]
  simp [VI, List.map_set]
/-- the cells of a slice that is read, in every later world -/
theorem rdb_at {W : World} {q : Nat} (hq : W.heap.size = q) {a : Option Addr} {n cap : Nat} {D : List Int} (hR : RdB W (.slice a n cap) D) : D.length = n ∧ n ≤ cap ∧ ∀ i, i < n → ∃ b o, a = some ⟨b, o, none⟩ ∧ b < q ∧ ∀ Y, Below q W Y → Y.cell? ⟨b, o + i, none⟩ = some (.int .u8 (D.getD i 0)) := by
  obtain ⟨a', c', e, hc, h3⟩ := hR
  injection e with e1 e2 e3
  subst e1
  have hDn : D.length = n := e2.symm
  refine ⟨hDn, by rw [e3, ← hDn]; exact hc, fun i hi => ?_⟩
  rcases h3 with h3 | ⟨b, o, h3, h4⟩
  · rw [h3] at hDn; simp at hDn; omega
  · have := h4 i (.int .u8 (D.getD i 0)) (by rw [List.getElem?_map, List.getD_eq_getElem?_getD, List.getElem?_eq_getElem (by omega)]; rfl)
    have hlt : b < q := by rw [← hq]; exact World.block_lt_of_cell? W _ this
    refine ⟨b, o, h3, hlt, fun Y hY => ?_⟩
    rw [World.cell?_of_block (a := ⟨b, o + i, none⟩) (hY.block b hlt)]
    exact this
theorem mark7 {i : Nat} (hi : i ≤ 1000000) : IntKind.u8.wrap (161 + (i : Int) % 7) = ((161 + i % 7 : Nat) : Int) := by
  rw [IntKind.wrap_u8']
  omega
set_option maxRecDepth 100000 in
set_option maxHeartbeats 8000000 in
theorem roomy_any (W : World) (D : List Int) (a : Option Addr) (n cap : Nat) (hR : RdB W (.slice a n cap) D) (hn : n ≤ 131072) :
    Calls Tryd.prog 10 #[.slice a n cap] W fun e w' => e = .returned (.slice (some ⟨W.heap.size, 0, none⟩) (n + 70) (n + 70)) ∧ Ev W.heap.size W (.pointer none) [] [(W.heap.size, .cells (VI .u8 (room D)) 5)] w' := by
  obtain ⟨q, hq⟩ : ∃ q, W.heap.size = q := ⟨_, rfl⟩
  obtain ⟨hDn, hnc, hat⟩ := rdb_at hq hR
  have hmk := mk_b (n + 70) ((n : Int) + 70) (by omega) (by omega) W
  have e1 := (ev_nil' W).new (.cells (VI .u8 (List.replicate (n + 70) 0)) 5)
  obtain ⟨W0, hW0⟩ : ∃ V, W.alloc (.cells (VI .u8 (List.replicate (n + 70) 0)) 5) = V := ⟨_, rfl⟩
  rw [hW0, hq] at hmk e1
  have hz := roomT_zero D
  rw [hDn] at hz
  rw [← hz] at e1
  have E1 : Hid (Ev q W (.pointer none) [] [(q, .cells (VI .u8 (roomT D 0)) 5)] W0) := e1
  have HD : Hid (D.length = n ∧ n ≤ 131072 ∧ ∀ i, i < n → ∃ b o, a = some ⟨b, o, none⟩ ∧ b < q ∧ ∀ Y, Below q W Y → Y.cell? ⟨b, o + i, none⟩ = some (.int .u8 (D.getD i 0))) := ⟨hDn, hn, hat⟩
  obtain ⟨N, hN⟩ : ∃ N, n + 70 = N := ⟨_, rfl⟩
  rw [hq]
  rw [hN] at hmk ⊢
  have HN : Hid (n + 70 = N) := hN
  have hwn : wrap64 ((n : Int) + 70) = (N : Int) ∧ IntKind.i64.wrap ((n : Int) + 70) = (N : Int) := by
    rw [IntWalk.wrap64_in _ ⟨by omega, by omega⟩, IntWalk.i64_in _ ⟨by omega, by omega⟩]
    omega
  have hmk' : (Instr.makeSlice 22 (.int .i64 (N : Int)) (.int .i64 (N : Int))).run Tryd.prog W = .ok (.slice (some ⟨q, 0, none⟩) N N) W0 := by
    rw [← show (n : Int) + 70 = (N : Int) by omega]; exact hmk
  clear e1 hat hDn hnc hR hz hN hn hW0 hmk
  obtain ⟨hw1, hw2⟩ := hwn
  go_enter Tryd.func10, Tryd.ntmps10
  go_wp2
  go_loopw [4] (fun v w' => ∃ i : Nat, i ≤ N ∧ v = .int .i64 (i : Int) ∧ Ev q W (.pointer none) [] [(q, .cells (VI .u8 (roomT D i)) 5)] w') (fun v _ => N - (intOf v).toNat)
  case atStart => exact ⟨0, Nat.zero_le _, rfl, E1.out⟩
  case round =>
    clear E1 hmk' hw1 hw2
    obtain ⟨i, hi, rfl, he⟩ := hrel
    by_cases hlt : i < N
    · have b1 : (i : Int) < (N : Int) := by omega
      have hiD : i < D.length + 70 := by rw [HD.out.1, HN.out]; exact hlt
      have hiL : i < (roomT D i).length := by rw [roomT_len]; exact hiD
      have hib : i ≤ 1000000 := by have := HD.out.2.1; have := HN.out; omega
      obtain ⟨c1, f1, e1⟩ := he.setAtH (fun p hp => nomatch hp) i hiL (((161 + i % 7 : Nat)) : Int)
      have hmk7 := mark7 hib
      obtain ⟨v, hv⟩ : ∃ v : Int, (((161 + i % 7 : Nat)) : Int) = v := ⟨_, rfl⟩
      rw [hv] at e1 hmk7
      obtain ⟨W1, hW1⟩ : ∃ V, wr.setCell ⟨q, i, none⟩ (.int .u8 v) = V := ⟨_, rfl⟩
      rw [hW1] at e1
      have HB : Hid (i < N ∧ N ≤ 131142) := ⟨hlt, by have := HD.out.2.1; have := HN.out; omega⟩
      by_cases hin : i < n
      · have b2 : (i : Int) < (n : Int) := by omega
        obtain ⟨b, o, rfl, hbq, hcc⟩ := HD.out.2.2 i hin
        have cb := hcc W1 e1.old
        obtain ⟨c2, f2, e2⟩ := e1.setAtH (fun p hp => nomatch hp) i (by rw [List.length_set]; exact hiL) (D.getD i 0)
        rw [← rmk_in D (by rw [HD.out.1]; exact hin), roomT_set2 D hiD] at e2
        rw [rmk_in D (by rw [HD.out.1]; exact hin)] at e2
        obtain ⟨z, hz⟩ : ∃ z, D.getD i 0 = z := ⟨_, rfl⟩
        rw [hz] at cb e2
        obtain ⟨W2, hW2⟩ : ∃ V, W1.setCell ⟨q, i, none⟩ (.int .u8 z) = V := ⟨_, rfl⟩
        rw [hW2] at e2
        have HE : Hid _ := e2
        clear e1 e2 he hcc hi hv hz hib hiD hiL
        go_wp2
        go_roundw
        case rel => exact ⟨i + 1, HB.out.1, by rw [wrapS HB.out.1 (by have := HB.out.2; unfold maxLen; omega)]; exact congrArg (Value.int .i64) (by omega), HE.out⟩
        case measure => exact measS HB.out.1 (by have := HB.out.2; unfold maxLen; omega)
      · have b2 : ¬ (i : Int) < (n : Int) := by omega
        rw [← hv, ← rmk_out D (by rw [HD.out.1]; exact hin), roomT_set D hiD] at e1
        have HE : Hid _ := e1
        clear e1 he hi hv hib hiD hiL
        go_wp2
        go_roundw
        case rel => exact ⟨i + 1, HB.out.1, by rw [wrapS HB.out.1 (by have := HB.out.2; unfold maxLen; omega)]; exact congrArg (Value.int .i64) (by omega), HE.out⟩
        case measure => exact measS HB.out.1 (by have := HB.out.2; unfold maxLen; omega)
    · have b1 : ¬ (i : Int) < (N : Int) := by omega
      have hi' : i = D.length + 70 := by rw [HD.out.1, HN.out]; omega
      rw [hi', roomT_full] at he
      have HE : Hid (Ev q W (.pointer none) [] [(q, .cells (VI .u8 (room D)) 5)] wr) := he
      clear he hi' hi
      go_wp2
      go_ret
      exact ⟨rfl, HE.out⟩
end Go.Proofs.YtfkbgodfcnmepaaDoor
namespace Go.Proofs.YtfkbgodfcnmepaaDoor
set_option linter.unusedSimpArgs false
set_option linter.unusedVariables false
open Go.ChangeShapes Go.WideShapes Go.ChangeAt Go.RowKit Go.Pin Go.Str Go.Dig
theorem drewN_below {q : Nat} {W w : World} (h : Below q W w) (n : Nat) : Below q W (w.drewN n) := ⟨h.os, h.tape, h.output, h.size, h.block⟩
set_option maxRecDepth 100000 in
set_option maxHeartbeats 16000000 in
theorem stands_any (W : World) (D : List Int) (a a2 : Option Addr) (n N cap cap2 : Nat) (hR : RdB W (.slice a N cap) (room D)) (hR2 : RdB W (.slice a2 n cap2) D) (hn : n ≤ 131072) :
    Calls Tryd.prog 14 #[.slice a N cap, .slice a2 n cap2] W fun e w' => e = .returned (.bool true) ∧ Below W.heap.size W w' := by
  obtain ⟨q, hq⟩ : ∃ q, W.heap.size = q := ⟨_, rfl⟩
  obtain ⟨hl1, _, hat1⟩ := rdb_at hq hR
  obtain ⟨hl2, _, hat2⟩ := rdb_at hq hR2
  rw [room_len, hl2] at hl1
  have HD : Hid (D.length = n ∧ n + 70 = N ∧ n ≤ 131072 ∧ (∀ i, i < N → ∃ b o, a = some ⟨b, o, none⟩ ∧ b < q ∧ ∀ Y, Below q W Y → Y.cell? ⟨b, o + i, none⟩ = some (.int .u8 ((room D).getD i 0))) ∧ (∀ i, i < n → ∃ b o, a2 = some ⟨b, o, none⟩ ∧ b < q ∧ ∀ Y, Below q W Y → Y.cell? ⟨b, o + i, none⟩ = some (.int .u8 (D.getD i 0)))) := ⟨hl2, hl1, hn, hat1, hat2⟩
  have HB0 : Hid (Below q W W) := Below.refl _ _
  rw [hq]
  clear hl1 hl2 hat1 hat2 hR hR2 hn hq
  go_enter Tryd.func14, Tryd.ntmps14
  go_wp2
  go_loopw [5] (fun v w' => ∃ i : Nat, i ≤ N ∧ v = .int .i64 (i : Int) ∧ Below q W w') (fun v _ => N - (intOf v).toNat)
  case atStart => exact ⟨0, Nat.zero_le _, rfl, HB0.out⟩
  case round =>
    clear HB0
    obtain ⟨i, hi, rfl, hp⟩ := hrel
    by_cases hlt : i < N
    · have b1 : (i : Int) < (N : Int) := by omega
      obtain ⟨b, o, rfl, _, hcc⟩ := HD.out.2.2.2.1 i hlt
      have c1 := hcc wr hp
      rw [room_at D (by rw [HD.out.1, HD.out.2.1]; exact hlt)] at c1
      have HB : Hid (i < N ∧ N ≤ 131142) := ⟨hlt, by have := HD.out.2.1; have := HD.out.2.2.1; omega⟩
      have HP : Hid (Below q W wr) := hp
      by_cases hin : i < n
      · have b2 : (i : Int) < (n : Int) := by omega
        have b3 : ¬ (n : Int) ≤ (i : Int) := by omega
        have b4 : decide ((n : Int) ≤ (i : Int)) = false := decide_eq_false b3
        obtain ⟨b', o', rfl, _, hcc2⟩ := HD.out.2.2.2.2 i hin
        have c2 := hcc2 wr hp
        rw [rmk_in D (by rw [HD.out.1]; exact hin)] at c1
        obtain ⟨z, hz⟩ : ∃ z, D.getD i 0 = z := ⟨_, rfl⟩
        rw [hz] at c1 c2
        clear hcc hcc2 hi hz hp
        go_upto_region 4 with fail
        go_quiet (fail)
        go_wp2
        go_roundw
        case rel => exact ⟨i + 1, HB.out.1, by rw [wrapS HB.out.1 (by have := HB.out.2; unfold maxLen; omega)]; exact congrArg (Value.int .i64) (by omega), drewN_below HP.out _⟩
        case measure => exact measS HB.out.1 (by have := HB.out.2; unfold maxLen; omega)
      · have b2 : ¬ (i : Int) < (n : Int) := by omega
        have b2' : decide ((i : Int) < (n : Int)) = false := decide_eq_false b2
        have b3 : (n : Int) ≤ (i : Int) := by omega
        have hmk := mark7 (i := i) (by have := HB.out; omega)
        rw [rmk_out D (by rw [HD.out.1]; exact hin)] at c1
        obtain ⟨v, hv⟩ : ∃ v : Int, ((161 + i % 7 : Nat) : Int) = v := ⟨_, rfl⟩
        rw [hv] at c1 hmk
        clear hcc hi hv hp
        go_upto_region 4 with fail
        go_quiet (fail)
        go_wp2
        go_roundw
        case rel => exact ⟨i + 1, HB.out.1, by rw [wrapS HB.out.1 (by have := HB.out.2; unfold maxLen; omega)]; exact congrArg (Value.int .i64) (by omega), drewN_below HP.out _⟩
        case measure => exact measS HB.out.1 (by have := HB.out.2; unfold maxLen; omega)
    · have b1 : ¬ (i : Int) < (N : Int) := by omega
      have HP : Hid (Below q W wr) := hp
      clear hi hp
      go_wp2
      go_ret
      exact ⟨rfl, HP.out⟩
end Go.Proofs.YtfkbgodfcnmepaaDoor
namespace Go.Proofs.YtfkbgodfcnmepaaDoor
set_option linter.unusedSimpArgs false
set_option linter.unusedVariables false
open Go.ChangeShapes Go.WideShapes Go.ChangeAt Go.RowKit Go.Pin Go.Str Go.Dig
set_option maxRecDepth 100000 in
set_option maxHeartbeats 4000000 in
theorem rturn8 (x n : Nat) (hx : x < 4294967296) (hn : n ≤ 16) (w : World) :
    Calls Tryd.prog 62 #[.int .i64 (x : Int), .int .i64 (n : Int)] w fun e w' => e = .returned (.int .i64 ((rot x (32 - n) : Nat) : Int)) ∧ w' = w.drew := by
  have HX : Hid (∀ i, i ≤ 16 → 2 ^ i ≤ 65536 ∧ 0 < 2 ^ i) := fun i hi => ⟨by have := Nat.pow_le_pow_right (n := 2) (by decide) hi; omega, Nat.two_pow_pos i⟩
  go_enter Tryd.func62, Tryd.ntmps62
  go_wp2
  go_loopw [5, 6] (fun u v w' => ∃ i : Nat, i ≤ n ∧ u = .int .i64 ((2 ^ i : Nat) : Int) ∧ v = .int .i64 (i : Int) ∧ w' = w) (fun _ v _ => n - (intOf v).toNat)
  case atStart => exact ⟨0, by omega, rfl, rfl, rfl⟩
  case round =>
    obtain ⟨i, hi, rfl, rfl, hw⟩ := hrel
    obtain rfl : w = wr := hw.symm
    obtain ⟨u1, u2⟩ := HX.out i (by omega)
    obtain ⟨u, hu⟩ : ∃ u, 2 ^ i = u := ⟨_, rfl⟩
    rw [hu] at u1 u2 ⊢
    have HU : Hid (2 ^ i = u) := hu
    clear hu HX
    by_cases hlt : i < n
    · have b1 : (i : Int) < (n : Int) := by omega
      go_wp2
      go_roundw
      case rel => exact ⟨i + 1, by omega, by rw [Nat.pow_succ, HU.out]; exact congrArg (Value.int .i64) (by omega), by go_num, trivial⟩
      case measure => simp [intOf]; omega
    · have b1 : ¬ (i : Int) < (n : Int) := by omega
      have hin : i = n := by omega
      have hwu : 4294967296 / u = 2 ^ (32 - n) := by
        rw [← HU.out, hin, show (4294967296 : Nat) = 2 ^ n * 2 ^ (32 - n) by rw [← Nat.pow_add, show n + (32 - n) = 32 by omega], Nat.mul_div_cancel_left _ (Nat.two_pow_pos n)]
      have HR : Hid (rot x (32 - n) = x / u + x % u * (4294967296 / u)) := by
        show rot x (32 - n) = _
        rw [hwu, rot_eq x (32 - n) (by omega), show 32 - (32 - n) = n by omega, ← hin, HU.out, Nat.mul_comm, Nat.add_comm]
      obtain ⟨z, hz⟩ : ∃ z, 4294967296 / u = z := ⟨_, rfl⟩
      obtain ⟨d, hd⟩ : ∃ d, x / u = d := ⟨_, rfl⟩
      obtain ⟨r, hr⟩ : ∃ r, x % u = r := ⟨_, rfl⟩
      have hrl := rot_lt x (32 - n) (by omega) hx
      rw [HR.out, hz, hd, hr] at hrl
      have t1 : (x : Int).tdiv (u : Int) = (d : Int) := by rw [← hd]; rfl
      have t2 : (x : Int).tmod (u : Int) = (r : Int) := by rw [← hr]; rfl
      have t3 : Int.tdiv 4294967296 (u : Int) = (z : Int) := by rw [← hz]; rfl
      have b3 : ¬ (u : Int) = 0 := by omega
      obtain ⟨p, hp⟩ : ∃ p, r * z = p := ⟨_, rfl⟩
      rw [hp] at hrl
      have hpm : (r : Int) * (z : Int) = (p : Int) := by rw [← hp]; simp
      have wp : IntKind.i64.wrap ((r : Int) * (z : Int)) = (p : Int) := by rw [hpm, IntKind.wrap_i64]; omega
      have hz1 : z ≤ 4294967296 := by rw [← hz]; exact Nat.div_le_self _ _
      have hz2 : Hid (wrap64 (z : Int) = (z : Int) ∧ wrap64 ((r : Int) * (z : Int)) = (p : Int) ∧ wrap64 ((d : Int) + (p : Int)) = ((d + p : Nat) : Int) ∧ wrap64 (d : Int) = (d : Int)) := ⟨IntWalk.wrap64_in _ ⟨by omega, by omega⟩, by rw [hpm]; exact IntWalk.wrap64_in _ ⟨by omega, by omega⟩, by rw [IntWalk.wrap64_in _ ⟨by omega, by omega⟩]; omega, IntWalk.wrap64_in _ ⟨by omega, by omega⟩⟩
      have HQ : Hid (rot x (32 - n) = d + p) := by
        show rot x (32 - n) = d + p
        rw [HR.out, hz, hd, hr, hp]
      clear hz hd hr hp HR hwu hpm wp hz1 hrl
      go_wp2
      go_region
      go_wp2
      go_ret
      rw [HQ.out]
      exact ⟨ret_int (by rw [hz2.out.1, hz2.out.2.1, hz2.out.2.2.2, hz2.out.2.2.1]), rfl⟩
/-- a box of numbers -/
abbrev RI (w : World) (g : Nat) (L : List Nat) (T : TypeId) : Prop := w.heap[g]? = some (.cells (VN .i64 L) T (0, 0))
theorem RI.cell {w : World} {g : Nat} {L : List Nat} {T : TypeId} (h : RI w g L T) {i : Nat} (hi : i < L.length) : w.cell? ⟨g, i, none⟩ = some (.int .i64 ((L.getD i 0 : Nat) : Int)) := by
  rw [cell_of_row _ _ _ _ _ _ h, VN_at _ _ _ hi]
theorem RI.froz {w : World} {g : Nat} {L : List Nat} {T : TypeId} (h : RI w g L T) (i : Nat) : w.frozen? ⟨g, i, none⟩ = false := frozen_of_row w _ _ _ _ h
theorem RI.set {w : World} {g : Nat} {L : List Nat} {T : TypeId} (h : RI w g L T) (i v : Nat) : RI (w.setCell ⟨g, i, none⟩ (.int .i64 (v : Int))) g (L.set i v) T := by
  unfold RI at h ⊢
  rw [← VN_set]
  simp [World.setCell, Array.getElem?_modify, h]
theorem RI.other {w : World} {g : Nat} {L : List Nat} {T : TypeId} (h : RI w g L T) {g' : Nat} (hn : g ≠ g') (i : Nat) (v : Value) : RI (w.setCell ⟨g', i, none⟩ v) g L T := (heap_setCell_other _ _ _ _ hn).trans h
/-- four cells of a box -/
structure P4 (g i j k m : Nat) (w : World) (a b c d : Nat) : Prop where
  A : w.cell? ⟨g, i, none⟩ = some (.int .i64 (a : Int))
  B : w.cell? ⟨g, j, none⟩ = some (.int .i64 (b : Int))
  C : w.cell? ⟨g, k, none⟩ = some (.int .i64 (c : Int))
  D : w.cell? ⟨g, m, none⟩ = some (.int .i64 (d : Int))
  F : ∀ o, w.frozen? ⟨g, o, none⟩ = false
section
variable {g i j k m : Nat} {w : World} {a b c d : Nat}
theorem P4.sA (h : P4 g i j k m w a b c d) (hij : i ≠ j) (hik : i ≠ k) (him : i ≠ m) (v : Nat) : P4 g i j k m (w.setCell ⟨g, i, none⟩ (.int .i64 (v : Int))) v b c d :=
  ⟨cs_same h.A _, cs_other h.B _ hij, cs_other h.C _ hik, cs_other h.D _ him, fun o => by rw [World.frozen?_setCell]; exact h.F o⟩
theorem P4.sB (h : P4 g i j k m w a b c d) (hij : i ≠ j) (hjk : j ≠ k) (hjm : j ≠ m) (v : Nat) : P4 g i j k m (w.setCell ⟨g, j, none⟩ (.int .i64 (v : Int))) a v c d :=
  ⟨cs_other h.A _ (Ne.symm hij), cs_same h.B _, cs_other h.C _ hjk, cs_other h.D _ hjm, fun o => by rw [World.frozen?_setCell]; exact h.F o⟩
theorem P4.sC (h : P4 g i j k m w a b c d) (hik : i ≠ k) (hjk : j ≠ k) (hkm : k ≠ m) (v : Nat) : P4 g i j k m (w.setCell ⟨g, k, none⟩ (.int .i64 (v : Int))) a b v d :=
  ⟨cs_other h.A _ (Ne.symm hik), cs_other h.B _ (Ne.symm hjk), cs_same h.C _, cs_other h.D _ hkm, fun o => by rw [World.frozen?_setCell]; exact h.F o⟩
theorem P4.sD (h : P4 g i j k m w a b c d) (him : i ≠ m) (hjm : j ≠ m) (hkm : k ≠ m) (v : Nat) : P4 g i j k m (w.setCell ⟨g, m, none⟩ (.int .i64 (v : Int))) a b c v :=
  ⟨cs_other h.A _ (Ne.symm him), cs_other h.B _ (Ne.symm hjm), cs_other h.C _ (Ne.symm hkm), cs_same h.D _, fun o => by rw [World.frozen?_setCell]; exact h.F o⟩
end
theorem info16i {t : List Nat} (h : t.length = 16) : (Tryd.prog.info? 95).map (·.size) = some (VN .i64 t).size := by rw [VN_size, h]; kernel_rfl
end Go.Proofs.YtfkbgodfcnmepaaDoor
namespace Go.Proofs.YtfkbgodfcnmepaaDoor
set_option linter.unusedSimpArgs false
set_option linter.unusedVariables false
open Go.ChangeShapes Go.WideShapes Go.ChangeAt Go.RowKit Go.Pin Go.Str Go.Dig
/-- a hexadecimal digit -/
def hexb (v : Nat) : Int := if v < 10 then ((48 + v : Nat) : Int) else ((87 + v : Nat) : Int)
set_option maxRecDepth 100000 in
theorem rnumber (v : Nat) (hv : v < 16) (w : World) : Calls Tryd.prog 45 #[.int .u8 (hexb v)] w fun e w' => e = .returned (.int .i64 (v : Int)) ∧ w' = w := by
  unfold hexb
  by_cases h : v < 10
  · rw [if_pos h]
    obtain ⟨c, hc⟩ : ∃ c, 48 + v = c := ⟨_, rfl⟩
    rw [hc]
    have b1 : ¬ (97 : Int) ≤ (c : Int) := by omega
    have b2 : ¬ (c : Int) ≥ 97 := by omega
    go_enter Tryd.func45, Tryd.ntmps45
    go_wp2
    go_ret
    exact ⟨ret_int (by omega), rfl⟩
  · rw [if_neg h]
    obtain ⟨c, hc⟩ : ∃ c, 87 + v = c := ⟨_, rfl⟩
    rw [hc]
    have b1 : (97 : Int) ≤ (c : Int) := by omega
    have b2 : (c : Int) ≥ 97 := by omega
    go_enter Tryd.func45, Tryd.ntmps45
    go_wp2
    go_ret
    exact ⟨ret_int (by omega), rfl⟩
set_option maxRecDepth 100000 in
set_option maxHeartbeats 8000000 in
theorem rorder (r : Nat) (hr : r < 10) (w : World) : Calls Tryd.prog 44 #[.int .i64 (r : Int)] w fun e w' => e = .returned (.string ⟨((ord r).map fun v => UInt8.ofNat (hexb v).toNat).toArray⟩) ∧ Below w.heap.size w w' := by
  rcases (by omega : r = 0 ∨ r = 1 ∨ r = 2 ∨ r = 3 ∨ r = 4 ∨ r = 5 ∨ r = 6 ∨ r = 7 ∨ r = 8 ∨ r = 9) with rfl | rfl | rfl | rfl | rfl | rfl | rfl | rfl | rfl | rfl
  all_goals
    go_enter Tryd.func44, Tryd.ntmps44
    go_wp2
    go_ret
    exact ⟨by kernel_rfl, (Below.refl _ _).alloc (Nat.le_refl _) _⟩
/-- the row's string -/
def oS (r : Nat) : ByteArray := ⟨((ord r).map fun v => UInt8.ofNat (hexb v).toNat).toArray⟩
theorem ord_lt : ∀ r, r < 10 → ∀ j, j < 16 → (ord r).getD j 0 < 16 := by decide
theorem run_ord (r : Nat) (hr : r < 10) (j : Nat) (hj : j < 16) (w : World) : (Instr.index 9 (.string (oS r)) (.int .i64 (j : Int))).run Tryd.prog w = .ok (.int .u8 (hexb ((ord r).getD j 0))) w := by
  have h1 : ∀ r, r < 10 → (ord r).length = 16 := by decide
  have hs : (oS r).size = 16 := by
    show ((ord r).map fun v => UInt8.ofNat (hexb v).toNat).toArray.size = 16
    rw [List.size_toArray, List.length_map, h1 r hr]
  rw [run_index_string w 9 (oS r) .i64 (j : Int) Tryd.underlying9, dif_pos ⟨by omega, by rw [hs]; omega⟩]
  have h2 : ∀ v, v < 16 → ((UInt8.ofNat (hexb v).toNat).toNat : Int) = hexb v := by decide
  have hl := ord_lt r hr j hj
  have hlj : j < ((ord r).map fun v => UInt8.ofNat (hexb v).toNat).length := by rw [List.length_map, h1 r hr]; exact hj
  have hjs : j < (oS r).size := by rw [hs]; exact hj
  have e : (oS r)[j]'hjs = UInt8.ofNat (hexb ((ord r).getD j 0)).toNat := by
    have e1 : (oS r)[j]'hjs = ((ord r).map fun v => UInt8.ofNat (hexb v).toNat)[j]'hlj := rfl
    rw [e1, List.getElem_map, List.getD_eq_getElem?_getD, List.getElem?_eq_getElem (by rw [h1 r hr]; exact hj)]
    rfl
  have e2 : ((oS r)[((j : Int)).toNat]'(by rw [hs]; omega)) = (oS r)[j]'hjs := rfl
  rw [e2, e, h2 _ hl]
end Go.Proofs.YtfkbgodfcnmepaaDoor
namespace Go.Proofs.YtfkbgodfcnmepaaDoor
set_option linter.unusedSimpArgs false
set_option linter.unusedVariables false
open Go.ChangeShapes Go.WideShapes Go.ChangeAt Go.RowKit Go.Pin Go.Str Go.Dig
theorem i64_xor_nat (a b : Nat) (ha : a < 4294967296) (hb : b < 4294967296) : bits .xor .i64 (a : Int) (b : Int) = ((a ^^^ b : Nat) : Int) := by
  have hx : a ^^^ b < 4294967296 := xor_lt ha hb
  show IntKind.i64.wrap ((BitVec.ofInt 64 (a : Int) ^^^ BitVec.ofInt 64 (b : Int)).toNat : Int) = _
  rw [BitVec.toNat_xor, ofInt_u64 a (by omega), ofInt_u64 b (by omega), IntKind.wrap_i64]
  omega
theorem rem33 (a b x : Nat) (ha : a < 4294967296) (hb : b < 4294967296) (hx : x < 4294967296) : ((a : Int) + (b : Int) + (x : Int)) % 4294967296 = ((ad a (ad b x) : Nat) : Int) := by unfold ad; omega
theorem rturnK16 (x : Nat) (hx : x < 4294967296) (w : World) : Calls Tryd.prog 62 #[.int .i64 (x : Int), .int .i64 16] w fun e w' => e = .returned (.int .i64 ((rot x 16 : Nat) : Int)) ∧ w' = w.drew := rturn8 x 16 hx (by decide) w
theorem rturnK12 (x : Nat) (hx : x < 4294967296) (w : World) : Calls Tryd.prog 62 #[.int .i64 (x : Int), .int .i64 12] w fun e w' => e = .returned (.int .i64 ((rot x 20 : Nat) : Int)) ∧ w' = w.drew := rturn8 x 12 hx (by decide) w
theorem rturnK8 (x : Nat) (hx : x < 4294967296) (w : World) : Calls Tryd.prog 62 #[.int .i64 (x : Int), .int .i64 8] w fun e w' => e = .returned (.int .i64 ((rot x 24 : Nat) : Int)) ∧ w' = w.drew := rturn8 x 8 hx (by decide) w
theorem rturnK7 (x : Nat) (hx : x < 4294967296) (w : World) : Calls Tryd.prog 62 #[.int .i64 (x : Int), .int .i64 7] w fun e w' => e = .returned (.int .i64 ((rot x 25 : Nat) : Int)) ∧ w' = w.drew := rturn8 x 7 hx (by decide) w
theorem rem32 (a b : Nat) (ha : a < 4294967296) (hb : b < 4294967296) : ((a : Int) + (b : Int)) % 4294967296 = ((ad a b : Nat) : Int) := by unfold ad; omega
set_option maxRecDepth 100000 in
set_option maxHeartbeats 4000000 in
theorem rmixing (i j k m x y : Nat) (hx : x < 4294967296) (hy : y < 4294967296) (L : List Nat) (w : World) (hl : L.length = 16) (hL : W32 L) (hi : i < 16) (hj : j < 16) (hk : k < 16) (hm : m < 16)
    (hij : i ≠ j) (hik : i ≠ k) (him : i ≠ m) (hjk : j ≠ k) (hjm : j ≠ m) (hkm : k ≠ m) :
    Calls Tryd.prog 46 #[.agg (VN .i64 L), .int .i64 (i : Int), .int .i64 (j : Int), .int .i64 (k : Int), .int .i64 (m : Int), .int .i64 (x : Int), .int .i64 (y : Int)] w fun e w' => e = .returned (.agg (VN .i64 (mat L i j k m x y))) ∧ Below w.heap.size w w' := by
  obtain ⟨g, hg⟩ : ∃ g, w.heap.size = g := ⟨_, rfl⟩
  obtain ⟨W0, hW0⟩ : ∃ W, (w.alloc (.cells (VN .i64 L) 95)).alloc (.cells (VN .i64 (List.replicate 16 0)) 95) = W := ⟨_, rfl⟩
  have hW0' : (w.alloc (.cells (VN .i64 L) 95)).alloc (.cells #[.int .i64 0, .int .i64 0, .int .i64 0, .int .i64 0, .int .i64 0, .int .i64 0, .int .i64 0, .int .i64 0, .int .i64 0, .int .i64 0, .int .i64 0, .int .i64 0, .int .i64 0, .int .i64 0, .int .i64 0, .int .i64 0] 95) = W0 := hW0
  have h0 : RI W0 g L 95 ∧ RI W0 (g + 1) (List.replicate 16 0) 95 ∧ Below g w W0 := by
    rw [← hW0, ← hg]
    refine ⟨?_, ?_, ((Below.refl _ _).alloc (Nat.le_refl _) _).alloc (by simp) _⟩
    all_goals simp only [RI, heap_alloc_any, size_alloc]
    · rw [if_neg (by omega), if_pos trivial]
    · rw [if_pos trivial]
  have xa := hL.at i
  have xb := hL.at j
  have xc := hL.at k
  have xd := hL.at m
  have lq := mat_len L i j k m x y
  rw [hl] at lq
  have Q0 : P4 g i j k m W0 _ _ _ _ := ⟨h0.1.cell (by omega), h0.1.cell (by omega), h0.1.cell (by omega), h0.1.cell (by omega), fun o => h0.1.froz o⟩
  obtain ⟨LQ, hLQ⟩ : ∃ z, mat L i j k m x y = z := ⟨_, rfl⟩
  have HLQ : Hid (mat L i j k m x y = LQ) := hLQ
  have hLQ2 : LQ = (((L.set i (mx (L.getD i 0) (L.getD j 0) (L.getD k 0) (L.getD m 0) x y).1).set j (mx (L.getD i 0) (L.getD j 0) (L.getD k 0) (L.getD m 0) x y).2.1).set k (mx (L.getD i 0) (L.getD j 0) (L.getD k 0) (L.getD m 0) x y).2.2.1).set m (mx (L.getD i 0) (L.getD j 0) (L.getD k 0) (L.getD m 0) x y).2.2.2 := hLQ.symm
  rw [hLQ] at lq
  clear hLQ
  generalize L.getD i 0 = a at *
  generalize L.getD j 0 = b at *
  generalize L.getD k 0 = c at *
  generalize L.getD m 0 = d at *
  unfold mx at hLQ2
  dsimp only at hLQ2
  have ra1 := ad_lt a (ad b x)
  have p1 := rem33 a b x xa xb hx
  generalize ad a (ad b x) = a1 at *
  have q1 := i64_xor_nat d a1 xd ra1
  have rd1 := rot_lt _ 16 (by decide) (xor_lt xd ra1)
  have t1 := rturnK16 _ (xor_lt xd ra1)
  generalize d ^^^ a1 = y1 at *
  generalize rot y1 16 = d1 at *
  have rc1 := ad_lt c d1
  have p2 := rem32 c d1 xc rd1
  generalize ad c d1 = c1 at *
  have q2 := i64_xor_nat b c1 xb rc1
  have rb1 := rot_lt _ 20 (by decide) (xor_lt xb rc1)
  have t2 := rturnK12 _ (xor_lt xb rc1)
  generalize b ^^^ c1 = y2 at *
  generalize rot y2 20 = b1 at *
  have ra2 := ad_lt a1 (ad b1 y)
  have p3 := rem33 a1 b1 y ra1 rb1 hy
  generalize ad a1 (ad b1 y) = a2 at *
  have q3 := i64_xor_nat d1 a2 rd1 ra2
  have rd2 := rot_lt _ 24 (by decide) (xor_lt rd1 ra2)
  have t3 := rturnK8 _ (xor_lt rd1 ra2)
  generalize d1 ^^^ a2 = y3 at *
  generalize rot y3 24 = d2 at *
  have rc2 := ad_lt c1 d2
  have p4 := rem32 c1 d2 rc1 rd2
  generalize ad c1 d2 = c2 at *
  have q4 := i64_xor_nat b1 c2 rb1 rc2
  have t4 := rturnK7 _ (xor_lt rb1 rc2)
  generalize b1 ^^^ c2 = y4 at *
  generalize rot y4 25 = b2 at *
  rw [← sets8 L i j k m a1 d1 c1 b1 a2 d2 c2 b2 hij hik him hjk hjm hkm] at hLQ2
  have T1 : Hid _ := t1
  have T2 : Hid _ := t2
  have T3 : Hid _ := t3
  have T4 : Hid _ := t4
  have HG : Hid (w.heap.size = g) := hg
  have HB0 : Hid (Below g w W0 ∧ RI W0 g L 95 ∧ RI W0 (g + 1) (List.replicate 16 0) 95) := ⟨h0.2.2, h0.1, h0.2.1⟩
  clear t1 t2 t3 t4 h0 hL
  have A0 := Q0.A
  have B0 := Q0.B
  have F0 := Q0.F
  have Q1 := Q0.sA hij hik him a1
  have HB1 : Hid (Below g w (W0.setCell ⟨g, i, none⟩ (.int .i64 (a1 : Int))) ∧ RI (W0.setCell ⟨g, i, none⟩ (.int .i64 (a1 : Int))) g ((L).set i a1) 95 ∧ RI (W0.setCell ⟨g, i, none⟩ (.int .i64 (a1 : Int))) (g + 1) (List.replicate 16 0) 95) := ⟨HB0.out.1.setCell (Nat.le_refl _) _, HB0.out.2.1.set _ _, HB0.out.2.2.other (by omega) _ _⟩
  obtain ⟨W1, e1⟩ : ∃ W, W0.setCell ⟨g, i, none⟩ (.int .i64 (a1 : Int)) = W := ⟨_, rfl⟩
  rw [e1] at Q1 HB1
  have D1 := Q1.D
  have A1 := Q1.A
  have F1 := Q1.F
  have Q2 := Q1.sD him hjm hkm d1
  have HB2 : Hid (Below g w (W1.setCell ⟨g, m, none⟩ (.int .i64 (d1 : Int))) ∧ RI (W1.setCell ⟨g, m, none⟩ (.int .i64 (d1 : Int))) g (((L).set i a1).set m d1) 95 ∧ RI (W1.setCell ⟨g, m, none⟩ (.int .i64 (d1 : Int))) (g + 1) (List.replicate 16 0) 95) := ⟨HB1.out.1.setCell (Nat.le_refl _) _, HB1.out.2.1.set _ _, HB1.out.2.2.other (by omega) _ _⟩
  obtain ⟨W2, e2⟩ : ∃ W, W1.setCell ⟨g, m, none⟩ (.int .i64 (d1 : Int)) = W := ⟨_, rfl⟩
  rw [e2] at Q2 HB2
  have C2 := Q2.C
  have D2 := Q2.D
  have F2 := Q2.F
  have Q3 := Q2.sC hik hjk hkm c1
  have HB3 : Hid (Below g w (W2.setCell ⟨g, k, none⟩ (.int .i64 (c1 : Int))) ∧ RI (W2.setCell ⟨g, k, none⟩ (.int .i64 (c1 : Int))) g ((((L).set i a1).set m d1).set k c1) 95 ∧ RI (W2.setCell ⟨g, k, none⟩ (.int .i64 (c1 : Int))) (g + 1) (List.replicate 16 0) 95) := ⟨HB2.out.1.setCell (Nat.le_refl _) _, HB2.out.2.1.set _ _, HB2.out.2.2.other (by omega) _ _⟩
  obtain ⟨W3, e3⟩ : ∃ W, W2.setCell ⟨g, k, none⟩ (.int .i64 (c1 : Int)) = W := ⟨_, rfl⟩
  rw [e3] at Q3 HB3
  have B3 := Q3.B
  have C3 := Q3.C
  have F3 := Q3.F
  have Q4 := Q3.sB hij hjk hjm b1
  have HB4 : Hid (Below g w (W3.setCell ⟨g, j, none⟩ (.int .i64 (b1 : Int))) ∧ RI (W3.setCell ⟨g, j, none⟩ (.int .i64 (b1 : Int))) g (((((L).set i a1).set m d1).set k c1).set j b1) 95 ∧ RI (W3.setCell ⟨g, j, none⟩ (.int .i64 (b1 : Int))) (g + 1) (List.replicate 16 0) 95) := ⟨HB3.out.1.setCell (Nat.le_refl _) _, HB3.out.2.1.set _ _, HB3.out.2.2.other (by omega) _ _⟩
  obtain ⟨W4, e4⟩ : ∃ W, W3.setCell ⟨g, j, none⟩ (.int .i64 (b1 : Int)) = W := ⟨_, rfl⟩
  rw [e4] at Q4 HB4
  have A4 := Q4.A
  have B4 := Q4.B
  have F4 := Q4.F
  have Q5 := Q4.sA hij hik him a2
  have HB5 : Hid (Below g w (W4.setCell ⟨g, i, none⟩ (.int .i64 (a2 : Int))) ∧ RI (W4.setCell ⟨g, i, none⟩ (.int .i64 (a2 : Int))) g ((((((L).set i a1).set m d1).set k c1).set j b1).set i a2) 95 ∧ RI (W4.setCell ⟨g, i, none⟩ (.int .i64 (a2 : Int))) (g + 1) (List.replicate 16 0) 95) := ⟨HB4.out.1.setCell (Nat.le_refl _) _, HB4.out.2.1.set _ _, HB4.out.2.2.other (by omega) _ _⟩
  obtain ⟨W5, e5⟩ : ∃ W, W4.setCell ⟨g, i, none⟩ (.int .i64 (a2 : Int)) = W := ⟨_, rfl⟩
  rw [e5] at Q5 HB5
  have D5 := Q5.D
  have A5 := Q5.A
  have F5 := Q5.F
  have Q6 := Q5.sD him hjm hkm d2
  have HB6 : Hid (Below g w (W5.setCell ⟨g, m, none⟩ (.int .i64 (d2 : Int))) ∧ RI (W5.setCell ⟨g, m, none⟩ (.int .i64 (d2 : Int))) g (((((((L).set i a1).set m d1).set k c1).set j b1).set i a2).set m d2) 95 ∧ RI (W5.setCell ⟨g, m, none⟩ (.int .i64 (d2 : Int))) (g + 1) (List.replicate 16 0) 95) := ⟨HB5.out.1.setCell (Nat.le_refl _) _, HB5.out.2.1.set _ _, HB5.out.2.2.other (by omega) _ _⟩
  obtain ⟨W6, e6⟩ : ∃ W, W5.setCell ⟨g, m, none⟩ (.int .i64 (d2 : Int)) = W := ⟨_, rfl⟩
  rw [e6] at Q6 HB6
  have C6 := Q6.C
  have D6 := Q6.D
  have F6 := Q6.F
  have Q7 := Q6.sC hik hjk hkm c2
  have HB7 : Hid (Below g w (W6.setCell ⟨g, k, none⟩ (.int .i64 (c2 : Int))) ∧ RI (W6.setCell ⟨g, k, none⟩ (.int .i64 (c2 : Int))) g ((((((((L).set i a1).set m d1).set k c1).set j b1).set i a2).set m d2).set k c2) 95 ∧ RI (W6.setCell ⟨g, k, none⟩ (.int .i64 (c2 : Int))) (g + 1) (List.replicate 16 0) 95) := ⟨HB6.out.1.setCell (Nat.le_refl _) _, HB6.out.2.1.set _ _, HB6.out.2.2.other (by omega) _ _⟩
  obtain ⟨W7, e7⟩ : ∃ W, W6.setCell ⟨g, k, none⟩ (.int .i64 (c2 : Int)) = W := ⟨_, rfl⟩
  rw [e7] at Q7 HB7
  have B7 := Q7.B
  have C7 := Q7.C
  have F7 := Q7.F
  have Q8 := Q7.sB hij hjk hjm b2
  have HB8 : Hid (Below g w (W7.setCell ⟨g, j, none⟩ (.int .i64 (b2 : Int))) ∧ RI (W7.setCell ⟨g, j, none⟩ (.int .i64 (b2 : Int))) g (((((((((L).set i a1).set m d1).set k c1).set j b1).set i a2).set m d2).set k c2).set j b2) 95 ∧ RI (W7.setCell ⟨g, j, none⟩ (.int .i64 (b2 : Int))) (g + 1) (List.replicate 16 0) 95) := ⟨HB7.out.1.setCell (Nat.le_refl _) _, HB7.out.2.1.set _ _, HB7.out.2.2.other (by omega) _ _⟩
  obtain ⟨W8, e8⟩ : ∃ W, W7.setCell ⟨g, j, none⟩ (.int .i64 (b2 : Int)) = W := ⟨_, rfl⟩
  rw [e8] at Q8 HB8
  rw [← hLQ2] at HB8
  clear hLQ2 Q0 Q1 Q2 Q3 Q4 Q5 Q6 Q7 Q8 HB0 HB1 HB2 HB3 HB4 HB5 HB6 HB7
  have bi : (i : Int) < 16 := by omega
  have bj : (j : Int) < 16 := by omega
  have bk : (k : Int) < 16 := by omega
  have bm : (m : Int) < 16 := by omega
  clear hij hik him hjk hjm hkm hW0
  have HLN : Hid (LQ.length = 16) := lq
  clear lq
  go_enter Tryd.func46, Tryd.ntmps46
  go_wp2
  go_region
  go_wp2
  go_cut [] (fun wx => W2.drew.drew.drew = wx)
  case first =>
    go_region_with (go_at_call 62; refine (T1.out _).mono ?_; rintro e w' ⟨rfl, rfl⟩)
    all_goals (go_wp2_with fail; go_meet; rfl)
  subst hcut
  go_wp2
  go_region
  go_wp2
  go_cut [] (fun wx => W4.drew.drew.drew.drew.drew.drew = wx)
  case first =>
    go_region_with (go_at_call 62; refine (T2.out _).mono ?_; rintro e w' ⟨rfl, rfl⟩)
    all_goals (go_wp2_with fail; go_meet; rfl)
  subst hcut
  go_wp2
  go_region
  go_wp2
  go_cut [] (fun wx => W6.drew.drew.drew.drew.drew.drew.drew.drew.drew = wx)
  case first =>
    go_region_with (go_at_call 62; refine (T3.out _).mono ?_; rintro e w' ⟨rfl, rfl⟩)
    all_goals (go_wp2_with fail; go_meet; rfl)
  subst hcut
  go_wp2
  go_region
  go_wp2
  go_cut [] (fun wx => W8.drew.drew.drew.drew.drew.drew.drew.drew.drew.drew.drew.drew = wx)
  case first =>
    go_region_with (go_at_call 62; refine (T4.out _).mono ?_; rintro e w' ⟨rfl, rfl⟩)
    all_goals (go_wp2_with fail; go_meet; rfl)
  subst hcut
  have HR8 : Hid (RI W8.drew.drew.drew.drew.drew.drew.drew.drew.drew.drew.drew.drew g LQ 95 ∧ RI W8.drew.drew.drew.drew.drew.drew.drew.drew.drew.drew.drew.drew (g + 1) (List.replicate 16 0) 95 ∧ Below g w W8.drew.drew.drew.drew.drew.drew.drew.drew.drew.drew.drew.drew) := ⟨HB8.out.2.1, HB8.out.2.2, HB8.out.1.drew.drew.drew.drew.drew.drew.drew.drew.drew.drew.drew.drew⟩
  go_wp2_with (with_reducible refine at_list ?_; first | (refine wpList_load_row rfl 95 (.tmp 7) rfl g rfl 95 (VN .i64 LQ) (0, 0) _ HR8.out.1 Tryd.underlying95 rfl (info16i HLN.out) ?_) | (refine wpList_store_row rfl 95 (.tmp 14) (.tmp 99) rfl (g + 1) (VN .i64 LQ) rfl rfl 95 (VN .i64 (List.replicate 16 0)) HR8.out.2.1 (info16i HLN.out) (by rw [VN_size, VN_size, HLN.out, List.length_replicate]) (VN_one _ _) ?_))
  refine bodyPost_ret (v := .agg (VN .i64 LQ)) ?_ rfl ⟨by rw [HLQ.out], below_setRow (by rw [HG.out]; exact HR8.out.2.2) _ (by rw [HG.out]; omega) _⟩
  exact results_cell_row (P := Tryd.prog) (fn := Tryd.f46) (p := 14) (ty := 95) rfl _ _ (g + 1) 95 (VN .i64 LQ) (0, 0) _ rfl (setRow_heap _ _ _ _ 95 _ HR8.out.2.1) Tryd.underlying95 rfl (info16i HLN.out)
end Go.Proofs.YtfkbgodfcnmepaaDoor
