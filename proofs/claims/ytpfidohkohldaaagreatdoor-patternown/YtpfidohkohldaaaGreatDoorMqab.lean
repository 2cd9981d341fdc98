import Derived.Maps.AppendAt
import Derived.Deep.RegionHeld3
import Derived.Test.YtpfidohkohldaaaGreatDoorMqaa
/- lists of one's own that grow by one; append in a drawn region and outside of one -/
namespace Go.Proofs.YtpfidohkohldaaaGreatDoor
set_option linter.unusedSimpArgs false
set_option linter.unusedVariables false
open Go.ChangeShapes Go.WideShapes Go.ChangeAt Go.RowKit Go.Pin Go.Pat
theorem wpApp {P : Program} {o : Oper} {a : Act} {w : World} {K : Act → World → Prop} {Q : Exit → Act → World → Prop} {s x : Operand} {t : TypeId} {v u : Value} {R : Value → World → Prop} {d : Option Nat}
    (ho : o.op = .call { callee := .builtin .append, args := #[s, x], argTypes := #[t, t] }) (hd : o.dst = d) (hs : a.eval s = v) (hx : a.eval x = u) (hr : ∀ ty, ∃ v' w', (Builtin.append_ #[t, t] ty #[v, u]).run P w = .ok v' w' ∧ R v' w') (h : ∀ v' w', R v' w' → K (a.put d v') w') : Oper.wp P o a w K Q := by
  subst hd
  obtain ⟨v', w', h1, h2⟩ := hr o.type
  unfold Oper.wp execOp
  simp only [ho, resolve, invoke, builtin, Sem.run_bind, Sem.run_pure, Result.andThen_ok, List.map_toArray, List.map_cons, List.map_nil, hs, hx, h1]
  exact h v' w' h2
theorem wpList_app {P : Program} (w : World) {ops : Array Oper} {rest : List Oper} {o : Oper} {a : Act} {Q : Exit → Act → World → Prop} {R : Value → World → Prop} (hgd : o.guard = none) (d s : Operand) (t t' : TypeId)
    (ho : o.op = .call { callee := .builtin .append, args := #[d, s], argTypes := #[t, t'] }) (v u : Value) (hd : a.eval d = v) (hs : a.eval s = u)
    (hr : ∀ ty, ∃ v' w', (Builtin.append_ #[t, t'] ty #[v, u]).run P w = .ok v' w' ∧ R v' w') (h : ∀ v' w', R v' w' → wpList P ops Q rest (a.put o.dst v') w') : wpList P ops Q (o :: rest) a w :=
  wpList_plain hgd fun _ hK => by
    obtain ⟨v', w', h1, h2⟩ := hr o.type
    unfold Oper.wp execOp
    simp only [ho, resolve, invoke, builtin, Sem.run_bind, Sem.run_pure, Result.andThen_ok, List.map_toArray, List.map_cons, List.map_nil, hd, hs, h1]
    exact hK _ _ (h v' w' h2)
theorem owns_below {w w' : World} (hb : Below w.heap.size w w') {b : Nat} {e : TypeId} {size : Nat} {v : Value} {n : Nat} {xs : List Value} (ho : w.ownsRow b e size v n xs) : w'.ownsRow b e size v n xs := by
  refine ⟨ho.1, ?_⟩
  rcases ho.2 with h0 | ⟨g, cap, cur, rfl, h1, hg, hr⟩
  · exact .inl h0
  · exact .inr ⟨g, cap, cur, rfl, h1, (hb.block g (Array.getElem?_eq_some_iff.1 hg).1).trans hg, hr⟩
theorem own_app {t e : TypeId} {z : Value} {k by_ : Nat} (hU : Tryz.prog.underlying t = some (.slice e)) (hI : (Tryz.prog.info? e).map (fun i => (i.zero, i.size, i.bytes)) = some (some z, k, by_)) (hz : z.cells.size = k) (hk : 0 < k)
    {w : World} {b : Nat} {v : Value} {n : Nat} {xs : List Value} (hown : w.ownsRow b e k v n xs) {a : Nat} {news : List Value} {t' : TypeId} {fr : Nat × Nat} (hc : w.heap[a]? = some (.cells news.toArray t' fr)) (hl : news.length = k) (h1 : ∀ u ∈ news, u.oneCell' = true) (hn : (n + 1) * by_ ≤ 140737488355328) (hn2 : n + 1 ≤ 140737488355328) (hb : b ≤ w.heap.size) :
    ∀ ty, ∃ v' w', (Builtin.append_ #[t, t] ty #[v, .slice (some ⟨a, 0, none⟩) 1 1]).run Tryz.prog w = .ok v' w' ∧ (w'.ownsRow b e k v' (n + 1) (xs ++ news) ∧ w.grownBy w' v.ownBlock ∧ (v'.ownBlock = v.ownBlock ∨ v'.ownBlock = some w.heap.size)) := fun ty => by
  obtain ⟨i, i1, hz'⟩ := Option.map_eq_some_iff.1 hI
  simp only [Prod.mk.injEq] at hz'
  obtain ⟨i2, i3, i4⟩ := hz'
  obtain ⟨v', w', hr, h2, h3, _, h5⟩ := run_append_own_at (P := Tryz.prog) w b t ty e i z k by_ hU i1 i2 i3 i4 hz hk v n xs hown ⟨a, 0, none⟩ 1 1 news (by rw [hl, Nat.one_mul]) (fun j u hu => by
    rw [add_mid, Nat.zero_add, cell_of_row _ _ _ _ _ _ hc, ← hu]; simp) h1 (by unfold maxLen; omega) hn hb
  exact ⟨v', w', hr, h2, h3, h5⟩
/-- what grows at its own list leaves all below it -/
theorem grown_below {w w' W : World} {q b : Nat} {e : TypeId} {k n : Nat} {v : Value} {xs : List Value} (hb : Below q W w) (ho : w.ownsRow b e k v n xs) (hq : q ≤ b) (hq2 : q ≤ w.heap.size) (hg : w.grownBy w' v.ownBlock) : Below q W w' :=
  hb.grown hg hq2 (fun k hk => by have := (ho.lt k hk).1; omega)
theorem parts_str : (Tryz.prog.info? 9).map (fun i => (i.zero, i.size, i.bytes)) = some (some (.string ⟨#[]⟩), 1, 16) := by kernel_rfl
theorem parts_int : (Tryz.prog.info? 3).map (fun i => (i.zero, i.size, i.bytes)) = some (some (.int .i64 0), 1, 8) := by kernel_rfl
theorem own_nil0 (w : World) (b : Nat) (e : TypeId) (k : Nat) : w.ownsRow b e k (.slice none 0 0) 0 [] := ⟨by simp, .inl ⟨rfl, rfl⟩⟩
/-- texts that are read -/
def RdS (w : World) (v : Value) (L : List ByteArray) : Prop :=
  ∃ a cap, v = .slice a L.length cap ∧ ∀ j, j < L.length → ∃ b o, a = some ⟨b, o, none⟩ ∧ w.cell? ⟨b, o + j, none⟩ = some (.string (L.getD j ⟨#[]⟩))
theorem RdS.below {w W : World} {v : Value} {L : List ByteArray} (h : RdS w v L) (hb : Below w.heap.size w W) : RdS W v L := by
  obtain ⟨a, c, e, h3⟩ := h
  refine ⟨a, c, e, fun j hj => ?_⟩
  obtain ⟨b, o, g1, g2⟩ := h3 j hj
  exact ⟨b, o, g1, cell_below hb g2⟩
theorem own_cell {w : World} {b : Nat} {e : TypeId} {k n : Nat} {a : Option Addr} {m cap : Nat} {xs : List Value} (h : w.ownsRow b e k (.slice a m cap) n xs) : m = n ∧ ∀ j u, xs[j]? = some u → ∃ g, a = some ⟨g, 0, none⟩ ∧ b ≤ g ∧ w.cell? ⟨g, j, none⟩ = some u := by
  rcases h.2 with ⟨e', e2⟩ | ⟨g, cap', cur, e', hb, hg, h1, h2, h3, h4⟩
  · injection e' with e1 e3 e4
    refine ⟨by omega, fun j u hu => ?_⟩
    have := h.1
    have := (List.getElem?_eq_some_iff.1 hu).1
    subst e2
    omega
  · injection e' with e1 e2 e3
    refine ⟨e2, fun j u hu => ⟨g, e1, hb, ?_⟩⟩
    have hj := (List.getElem?_eq_some_iff.1 hu).1
    rw [h.1] at hj
    rw [cell_of_row _ _ _ _ _ _ hg, ← hu, ← h4, List.getElem?_take_of_lt hj]
    simp
theorem own_slice' {w : World} {b : Nat} {e : TypeId} {k n : Nat} {v : Value} {xs : List Value} (h : w.ownsRow b e k v n xs) : ∃ a cap, v = .slice a n cap := by
  rcases h.2 with ⟨rfl, rfl⟩ | ⟨g, cap, cur, rfl, _⟩
  · exact ⟨_, _, rfl⟩
  · exact ⟨_, _, rfl⟩
theorem own_strs {w : World} {b : Nat} {v : Value} {L : List ByteArray} (h : w.ownsRow b 9 1 v L.length (L.map Value.string)) : RdS w v L := by
  obtain ⟨a, cap, rfl⟩ := own_slice' h
  refine ⟨a, cap, rfl, fun j hj => ?_⟩
  obtain ⟨g, e, _, hc⟩ := (own_cell h).2 j (.string (L.getD j ⟨#[]⟩)) (by simp [List.getD, hj])
  exact ⟨g, 0, e, by rw [Nat.zero_add]; exact hc⟩
theorem own_ints {w : World} {b : Nat} {v : Value} {C : List Int} (h : w.ownsRow b 3 1 v C.length (C.map (Value.int .i64))) (hC : C.length ≤ 140737488355328) : RdN w v C := by
  rcases h.2 with ⟨rfl, e2⟩ | ⟨g, cap', cur, rfl, hb, hg, h1, h2, h3, h4⟩
  · obtain rfl : C = [] := List.length_eq_zero_iff.1 e2
    exact ⟨none, 0, rfl, ⟨Nat.le_refl _, fun _ => rfl⟩, hC, .inl rfl⟩
  · refine ⟨_, cap', rfl, ⟨h1, fun h => nomatch h⟩, hC, .inr ⟨g, 0, rfl, fun j u hu => ?_⟩⟩
    obtain ⟨g', e, _, hc⟩ := (own_cell h).2 j u hu
    injection e with e
    injection e with e
    subst e
    rw [Nat.zero_add]
    exact hc
end Go.Proofs.YtpfidohkohldaaaGreatDoor
namespace Go.Proofs.YtpfidohkohldaaaGreatDoor
set_option linter.unusedSimpArgs false
set_option linter.unusedVariables false
open Go.ChangeShapes Go.WideShapes Go.ChangeAt Go.RowKit Go.Pin Go.Pat
/-- what is seen, as a value -/
def SV (x : Sn) : Value := .agg (x.map Value.bool).toArray
theorem twelve {x : Sn} (h : x.length = 12) : ∃ a b c d e f g i j k l m, x = [a, b, c, d, e, f, g, i, j, k, l, m] := by
  match x, h with
  | [a, b, c, d, e, f, g, i, j, k, l, m], _ => exact ⟨a, b, c, d, e, f, g, i, j, k, l, m, rfl⟩
end Go.Proofs.YtpfidohkohldaaaGreatDoor
namespace Go.Proofs.YtpfidohkohldaaaGreatDoor
set_option linter.unusedSimpArgs false
set_option linter.unusedVariables false
open Go.ChangeShapes Go.WideShapes Go.ChangeAt Go.RowKit Go.Pin Go.Pat
abbrev BV (x : Sn) : Array Value := (x.map Value.bool).toArray
theorem BV_one (x : Sn) : (BV x).all (·.oneCell') = true := by
  simp [Array.all_eq_true, BV, Value.oneCell']
theorem results_row_tmp {P : Program} {fn : Func} {p u : Tmp} {ty : TypeId} (h : fn.results = #[.cell p ty, .tmp u]) (tmps : Array Value) (w : World) (g : Nat) (t : TypeId) (cs : Array Value) (fr : Nat × Nat) (d : TypeDesc) (v : Value)
    (hp : tmps.getD p undef = .pointer (some ⟨g, 0, none⟩)) (hg : w.heap[g]? = some (.cells cs t fr))
    (hu : P.underlying ty = some d) (hd : (match d with | .struct _ | .array _ _ => true | _ => false) = true) (hi : (P.info? ty).map (·.size) = some cs.size) (hv : tmps.getD u undef = v) :
    (results fn tmps).run P w = .ok (.tuple #[.agg cs, v]) w := by
  rw [results_cell_tmp h, hp, hv]
  simp [asAddr, run_loadVar_row w g t ty cs fr d hg hu hd hi]
end Go.Proofs.YtpfidohkohldaaaGreatDoor
namespace Go.Proofs.YtpfidohkohldaaaGreatDoor
set_option linter.unusedSimpArgs false
set_option linter.unusedVariables false
open Go.ChangeShapes Go.WideShapes Go.ChangeAt Go.RowKit Go.Pin Go.Pat
/-- a pattern's box -/
structure PB (q : Nat) (w : World) (nm : ByteArray) (v0 v1 vl : Value) (wr : World) : Prop where
  old : Below q w wr
  lt : q < wr.heap.size
  row : wr.heap[q]? = some (.cells #[.string nm, v0, v1, vl] 26)
theorem pb_start (w : World) (nm : ByteArray) (v0 v1 vl : Value) : PB w.heap.size w nm v0 v1 vl (w.alloc (.cells #[.string nm, v0, v1, vl] 26)) :=
  ⟨(Below.refl _ _).alloc (Nat.le_refl _) _, by simp [size_alloc], heap_alloc_new _ _⟩
section
variable {q : Nat} {w wr w' : World} {nm : ByteArray} {v0 v1 vl : Value}
theorem PB.c0 (h : PB q w nm v0 v1 vl wr) : wr.cell? ⟨q, 0, none⟩ = some (.string nm) := by rw [cell_of_row _ _ _ _ _ _ h.row]; rfl
theorem PB.c1 (h : PB q w nm v0 v1 vl wr) : wr.cell? ⟨q, 1, none⟩ = some v0 := by rw [cell_of_row _ _ _ _ _ _ h.row]; rfl
theorem PB.c2 (h : PB q w nm v0 v1 vl wr) : wr.cell? ⟨q, 2, none⟩ = some v1 := by rw [cell_of_row _ _ _ _ _ _ h.row]; rfl
theorem PB.c3 (h : PB q w nm v0 v1 vl wr) : wr.cell? ⟨q, 3, none⟩ = some vl := by rw [cell_of_row _ _ _ _ _ _ h.row]; rfl
theorem PB.below (h : PB q w nm v0 v1 vl wr) (hb : Below wr.heap.size wr w') : PB q w nm v0 v1 vl w' :=
  ⟨h.old.trans (hb.mono (by have := h.lt; omega)), Nat.lt_of_lt_of_le h.lt hb.size, (hb.block _ h.lt).trans h.row⟩
end
theorem RdL.len {w : World} {a : Option Addr} {n cap : Nat} {L : List Ln} (h : RdL w (.slice a n cap) L) : L.length = n ∧ n ≤ 140737488355328 := by
  obtain ⟨a', c', e, _, h2, _⟩ := h
  injection e with _ e2 _
  exact ⟨e2.symm, by omega⟩
theorem RdL.at {w : World} {a : Option Addr} {n cap : Nat} {L : List Ln} (h : RdL w (.slice a n cap) L) {j : Nat} (hj : j < n) : ∃ b o a2 n2 c2, a = some ⟨b, o, none⟩ ∧ (∀ W, Below w.heap.size w W → W.cell? ⟨b, o + j * 2, none⟩ = some (.int .i64 (L.getD j (0, [])).1) ∧ W.cell? ⟨b, o + j * 2 + 1, none⟩ = some (.slice a2 n2 c2)) ∧ RdN w (.slice a2 n2 c2) (L.getD j (0, [])).2 ∧ n2 = (L.getD j (0, [])).2.length := by
  obtain ⟨a', c', e, _, _, h3⟩ := h
  injection e with e1 e2 e3
  subst e1 e2 e3
  obtain ⟨b, o, u, g1, g2, g3, g4⟩ := h3 j hj
  obtain ⟨a2, c2, rfl, _⟩ := id g4
  exact ⟨b, o, a2, _, c2, g1, fun W hW => ⟨cell_below hW g2, cell_below hW g3⟩, g4, rfl⟩
end Go.Proofs.YtpfidohkohldaaaGreatDoor
namespace Go.Proofs.YtpfidohkohldaaaGreatDoor
set_option linter.unusedSimpArgs false
set_option linter.unusedVariables false
open Go.ChangeShapes Go.WideShapes Go.ChangeAt Go.RowKit Go.Pin Go.Pat
/-- a line's box beside the pattern's -/
structure LB (q m : Nat) (w : World) (nm : ByteArray) (v0 v1 vl : Value) (f : Int) (vt : Value) (wr : World) : Prop where
  pb : PB q w nm v0 v1 vl wr
  ne : q < m
  lt : m < wr.heap.size
  row : wr.heap[m]? = some (.cells #[.int .i64 f, vt] 43)
section
variable {q m : Nat} {w wr w' : World} {nm : ByteArray} {v0 v1 vl : Value} {f : Int} {vt : Value}
theorem LB.c0 (h : LB q m w nm v0 v1 vl f vt wr) : wr.cell? ⟨m, 0, none⟩ = some (.int .i64 f) := by rw [cell_of_row _ _ _ _ _ _ h.row]; rfl
theorem LB.c1 (h : LB q m w nm v0 v1 vl f vt wr) : wr.cell? ⟨m, 1, none⟩ = some vt := by rw [cell_of_row _ _ _ _ _ _ h.row]; rfl
theorem LB.drewN (h : LB q m w nm v0 v1 vl f vt wr) (n : Nat) : LB q m w nm v0 v1 vl f vt (wr.drewN n) := ⟨⟨drewN_below h.pb.old n, h.pb.lt, h.pb.row⟩, h.ne, h.lt, h.row⟩
theorem lb_start (h : PB q w nm v0 v1 vl wr) (f : Int) (vt : Value) : LB q wr.heap.size w nm v0 v1 vl f vt (wr.alloc (.cells #[.int .i64 f, vt] 43)) :=
  ⟨h.below ((Below.refl _ _).alloc (Nat.le_refl _) _), h.lt, by simp [size_alloc], heap_alloc_new _ _⟩
end
def badL (L : List Ln) (k : Nat) (f : Int) (n2 : Nat) : Bool := decide (¬ (f = 0 ∨ f = 1)) || decide (pv L k = some f) || decide (n2 = 0)
end Go.Proofs.YtpfidohkohldaaaGreatDoor
namespace Go.Proofs.YtpfidohkohldaaaGreatDoor
set_option linter.unusedSimpArgs false
set_option linter.unusedVariables false
open Go.ChangeShapes Go.WideShapes Go.ChangeAt Go.RowKit Go.Pin Go.Pat
section
variable {q : Nat} {w wr w' : World} {nm : ByteArray} {v0 v1 vl : Value} {x : Sn}
end
theorem bg_snoc (s : Nat) (X : Sn) (C : List Int) (j : Nat) (h : j < C.length) : bg s X (C.take (j + 1)) = (if C.getD j 0 = 1 then (bg s X (C.take j)).set s true else (bg s X (C.take j)).set (2 + s) true) := by
  unfold bg
  rw [List.take_add_one, List.getElem?_eq_getElem h, List.foldl_append]
  simp [List.getD, h]
theorem szS {x : Sn} (h : x.length = 12) : (BV Sn0).size = (BV x).size := by rw [show (BV Sn0).size = 12 from by simp [Sn0]]; simp [h]
end Go.Proofs.YtpfidohkohldaaaGreatDoor
namespace Go.Proofs.YtpfidohkohldaaaGreatDoor
set_option linter.unusedSimpArgs false
set_option linter.unusedVariables false
open Go.ChangeShapes Go.WideShapes Go.ChangeAt Go.RowKit Go.Pin
/-! regions whose operations are a constant, frames that are a letter -/
def opsOf : Code → Array Oper
  | .region _ ops _ => ops
  | _ => #[]
def opIs (ops : Array Oper) (i : Nat) (op : Op) (d : Option Nat) : Prop := (ops[i]?).map (fun o => (o.guard, o.op, o.dst)) = some (none, op, d)
theorem opIs.get {ops : Array Oper} {i : Nat} {op : Op} {d : Option Nat} (h : opIs ops i op d) : ∃ o, ops[i]? = some o ∧ o.guard = none ∧ o.op = op ∧ o.dst = d := by
  obtain ⟨o, h1, h5⟩ := Option.map_eq_some_iff.1 h
  simp only [Prod.mk.injEq] at h5
  exact ⟨o, h1, h5.1, h5.2.1, h5.2.2⟩
theorem wanted_none {o : Oper} (h : o.guard = none) (y : Nat → Option Bool) : Region.wanted o y = true := by simp [Region.wanted, h]
section
variable {P : Program} {ops : Array Oper} {Q : Exit → Act → World → Prop} {S : World → Prop} {fuel : Nat} {listed : Array Bool} {a : Act} {w : World}
theorem takeH {i : Nat} {op : Op} {d : Nat} {v : Value} (hc : opIs ops i op (some d)) (hs : Region.noSelect ops = true) (hf : Region.free .any ops listed i = true) (hr : (Region.ready .any ops listed).contains i = true)
    (hQ : ∀ c (a : Act) d v w, Q (.panic c) (a.put d v) w → Q (.panic c) a w) (hrun : ∀ w, S w → ∀ o : Oper, o.op = op → (execOp a.eval o).run P w = .ok (.value v) w) (hS : S w)
    (h : wpAnyH P .any ops Q S fuel (listed.setIfInBounds i true) (a.put (some d) v) w) : wpAnyH P .any ops Q S (fuel + 1) listed a w := by
  obtain ⟨o, h1, h2, h3, h4⟩ := hc.get
  exact wpAnyH_take h1 hs hf hr (fun _ _ _ h => hQ _ _ _ _ _ h) (.inl ⟨wanted_none h2 _, fun w hw => hrun w hw o h3⟩) hS (by rw [h4]; exact h)
theorem wpAnyH_as {l l' : Array Bool} (hl : l = l') (h : wpAnyH P .any ops Q S fuel l' a w) : wpAnyH P .any ops Q S fuel l a w := by rw [hl]; exact h
/-- one operation alone may come up -/
theorem readyH {i : Nat} {op : Op} {d : Option Nat} (hc : opIs ops i op d) (hr : Region.ready .any ops listed = [i])
    (h : ∀ o : Oper, o.op = op → o.dst = d → Oper.wp P o a w (fun a' w' => S w' ∧ wpAnyH P .any ops Q S fuel (listed.setIfInBounds i true) a' w') Q) : wpAnyH P .any ops Q S (fuel + 1) listed a w := by
  obtain ⟨o, h1, h2, h3, h4⟩ := hc.get
  refine wpAnyH_all hr (by simp) (fun j hj => ?_)
  obtain rfl : j = i := by simpa using hj
  unfold wpOp
  simp only [h1]
  rw [if_pos (wanted_none h2 _)]
  exact .inl (h o h3 h4)
end
theorem eval_put_ne (a : Act) (d s : Nat) (v : Value) (h : d ≠ s) : (a.put (some d) v).eval (.tmp s) = a.eval (.tmp s) := by
  simp [Act.put, Act.eval, Array.getElem?_setIfInBounds_ne h]
theorem eval_put_eq (a : Act) (d : Nat) (v : Value) (h : d < a.tmps.size) : (a.put (some d) v).eval (.tmp d) = v := by
  simp [Act.put, Act.eval, h]
theorem size_put (a : Act) (d : Nat) (v : Value) : (a.put (some d) v).tmps.size = a.tmps.size := by simp [Act.put]
theorem run_move {P : Program} {a : Act} {o : Oper} {x : Operand} {v : Value} (ho : o.op = .move x) (he : a.eval x = v) (w : World) : (execOp a.eval o).run P w = .ok (.value v) w := by
  unfold execOp
  simp only [ho, he]
  rfl
theorem run_nilCheck {P : Program} {a : Act} {o : Oper} {x : Operand} {p : Addr} (ho : o.op = .nilCheck x) (he : a.eval x = .pointer (some p)) (w : World) : (execOp a.eval o).run P w = .ok (.value (.pointer (some p))) w := by
  unfold execOp
  simp only [ho, he]
  go_simp
end Go.Proofs.YtpfidohkohldaaaGreatDoor
namespace Go.Proofs.YtpfidohkohldaaaGreatDoor
set_option linter.unusedSimpArgs false
set_option linter.unusedVariables false
open Go.ChangeShapes Go.WideShapes Go.ChangeAt Go.RowKit Go.Pin
section
variable {P : Program} {ops : Array Oper} {Q : Exit → Act → World → Prop} {S : World → Prop} {fuel : Nat} {listed : Array Bool} {a : Act} {w : World}
theorem wp_of_run {o : Oper} {v : Value} {K : Act → World → Prop} (hrun : (execOp a.eval o).run P w = .ok (.value v) w) (h : K (a.put o.dst v) w) : Oper.wp P o a w K Q := by
  unfold Oper.wp
  rw [hrun]
  exact h
/-- one operation that yields a value alone may come up -/
theorem readyLd1 {i : Nat} {op : Op} {d : Nat} {v : Value} (hc : opIs ops i op (some d)) (hr : Region.ready .any ops listed = [i]) (hS : S w)
    (hrun : ∀ o : Oper, o.op = op → (execOp a.eval o).run P w = .ok (.value v) w) (h : wpAnyH P .any ops Q S fuel (listed.setIfInBounds i true) (a.put (some d) v) w) : wpAnyH P .any ops Q S (fuel + 1) listed a w :=
  readyH hc hr (fun o h1 h2 => wp_of_run (hrun o h1) ⟨hS, by rw [h2]; exact h⟩)
/-- two of them, in either order -/
theorem readyLd2 {i j : Nat} {op oq : Op} {d e : Nat} {v u : Value} (hi : opIs ops i op (some d)) (hj : opIs ops j oq (some e)) (hde : d ≠ e) (hij : i ≠ j) (hr : Region.ready .any ops listed = [i, j])
    (hr1 : Region.ready .any ops (listed.setIfInBounds i true) = [j]) (hr2 : Region.ready .any ops (listed.setIfInBounds j true) = [i]) (hS : S w)
    (run1 : ∀ o : Oper, o.op = op → (execOp a.eval o).run P w = .ok (.value v) w) (run2 : ∀ o : Oper, o.op = oq → (execOp a.eval o).run P w = .ok (.value u) w)
    (run1' : ∀ o : Oper, o.op = op → (execOp (a.put (some e) u).eval o).run P w = .ok (.value v) w) (run2' : ∀ o : Oper, o.op = oq → (execOp (a.put (some d) v).eval o).run P w = .ok (.value u) w)
    (h : wpAnyH P .any ops Q S fuel ((listed.setIfInBounds i true).setIfInBounds j true) ((a.put (some d) v).put (some e) u) w) : wpAnyH P .any ops Q S (fuel + 2) listed a w := by
  obtain ⟨o1, h1, g1, p1, q1⟩ := hi.get
  obtain ⟨o2, h2, g2, p2, q2⟩ := hj.get
  refine wpAnyH_all hr (by simp) (fun k hk => ?_)
  simp only [List.mem_cons, List.not_mem_nil, or_false] at hk
  rcases hk with rfl | rfl
  · unfold wpOp
    simp only [h1]
    rw [if_pos (wanted_none g1 _)]
    refine .inl (wp_of_run (run1 o1 p1) ⟨hS, ?_⟩)
    rw [q1]
    exact readyLd1 hj hr1 hS run2' h
  · unfold wpOp
    simp only [h2]
    rw [if_pos (wanted_none g2 _)]
    refine .inl (wp_of_run (run2 o2 p2) ⟨hS, ?_⟩)
    rw [q2]
    refine readyLd1 hi hr2 hS run1' ?_
    have e1 : (a.put (some e) u).put (some d) v = (a.put (some d) v).put (some e) u := by
      simp only [Act.put]
      rw [Array.setIfInBounds_comm _ _ (fun e' => hde e'.symm)]
    rw [e1, Array.setIfInBounds_comm _ _ (fun e' => hij e'.symm)]
    exact h
end
end Go.Proofs.YtpfidohkohldaaaGreatDoor
namespace Go.Proofs.YtpfidohkohldaaaGreatDoor
set_option linter.unusedSimpArgs false
set_option linter.unusedVariables false
open Go.ChangeShapes Go.WideShapes Go.ChangeAt Go.RowKit Go.Pin Go.Pat
theorem wp_as {P : Program} {c c' : Code} {Q : Exit → Act → World → Prop} {a : Act} {w : World} (h : c = c') (hc : Code.wp P c' Q a w) : Code.wp P c Q a w := by rw [h]; exact hc
/-- the region number n -/
def findReg (n : Nat) : Code → Option Code
  | .region i ops d => if i = n then some (.region i ops d) else none
  | .seq a b => match findReg n a with
    | some c => some c
    | none => findReg n b
  | .block _ c => findReg n c
  | .loop c => findReg n c
  | .scope c => findReg n c
  | .cond _ a b => match findReg n a with
    | some c => some c
    | none => findReg n b
  | _ => none
theorem put_comm (a : Act) {d e : Nat} (v u : Value) (h : d ≠ e) : (a.put (some d) v).put (some e) u = (a.put (some e) u).put (some d) v := by
  simp only [Act.put]
  rw [Array.setIfInBounds_comm _ _ h]
section
variable {P : Program} {ops : Array Oper} {Q : Exit → Act → World → Prop} {S : World → Prop} {fuel : Nat} {listed : Array Bool} {a : Act} {w : World}
/-- two may come up -/
theorem readyH2 {i j : Nat} {op oq : Op} {d e : Option Nat} (hi : opIs ops i op d) (hj : opIs ops j oq e) (hr : Region.ready .any ops listed = [i, j])
    (h1 : ∀ o : Oper, o.op = op → o.dst = d → Oper.wp P o a w (fun a' w' => S w' ∧ wpAnyH P .any ops Q S fuel (listed.setIfInBounds i true) a' w') Q)
    (h2 : ∀ o : Oper, o.op = oq → o.dst = e → Oper.wp P o a w (fun a' w' => S w' ∧ wpAnyH P .any ops Q S fuel (listed.setIfInBounds j true) a' w') Q) : wpAnyH P .any ops Q S (fuel + 1) listed a w := by
  obtain ⟨o1, k1, g1, p1, q1⟩ := hi.get
  obtain ⟨o2, k2, g2, p2, q2⟩ := hj.get
  refine wpAnyH_all hr (by simp) (fun k hk => ?_)
  simp only [List.mem_cons, List.not_mem_nil, or_false] at hk
  rcases hk with rfl | rfl
  · unfold wpOp
    simp only [k1]
    rw [if_pos (wanted_none g1 _)]
    exact .inl (h1 o1 p1 q1)
  · unfold wpOp
    simp only [k2]
    rw [if_pos (wanted_none g2 _)]
    exact .inl (h2 o2 p2 q2)
end
theorem wpRun {P : Program} {o : Oper} {a : Act} {w w' : World} {v : Value} {d : Option Nat} {K : Act → World → Prop} {Q : Exit → Act → World → Prop} (hd : o.dst = d) (hrun : (execOp a.eval o).run P w = .ok (.value v) w') (h : K (a.put d v) w') : Oper.wp P o a w K Q := by
  subst hd
  unfold Oper.wp
  rw [hrun]
  exact h
theorem wpCallX {α : Type} {P : Program} {o : Oper} {a : Act} {w : World} {K : Act → World → Prop} {Q : Exit → Act → World → Prop} {f : Nat} {xs : Array Operand} {ts : Array TypeId} {args : Array Value} {v : α → Value} {R : α → World → Prop} {d : Option Nat}
    (ho : o.op = .call { callee := .value (.func f), args := xs, argTypes := ts }) (hd : o.dst = d) (ha : xs.map a.eval = args) (hen : ∀ w, (callFunc f args).run P w = .ok (.enter f args) w) (hc : Calls P f args w fun e w' => ∃ x, e = .returned (v x) ∧ R x w') (h : ∀ x w', R x w' → K (a.put d (v x)) w') : Oper.wp P o a w K Q := by
  subst hd
  unfold Oper.wp execOp
  simp only [ho]
  go_simp
  refine hc.mono ?_
  rintro e w' ⟨x, rfl, hr⟩
  exact h x w' hr
theorem wpCall {P : Program} {o : Oper} {a : Act} {w : World} {K : Act → World → Prop} {Q : Exit → Act → World → Prop} {f : Nat} {xs : Array Operand} {ts : Array TypeId} {args : Array Value} {v : Value} {R : World → Prop} {d : Option Nat}
    (ho : o.op = .call { callee := .value (.func f), args := xs, argTypes := ts }) (hd : o.dst = d) (ha : xs.map a.eval = args) (hen : ∀ w, (callFunc f args).run P w = .ok (.enter f args) w) (hc : Calls P f args w fun e w' => e = .returned v ∧ R w') (h : ∀ w', R w' → K (a.put d v) w') : Oper.wp P o a w K Q := by
  subst hd
  unfold Oper.wp execOp
  simp only [ho]
  go_simp
  refine hc.mono ?_
  rintro e w' ⟨rfl, hr⟩
  exact h w' hr
theorem put_none (a : Act) (v : Value) : a.put none v = a := rfl
section
variable {a : Act} {o : Oper} {x y z : Operand}
theorem run_assign {P : Program} {v : Value} (ho : o.op = .assign x) (he : a.eval x = v) (w : World) : (execOp a.eval o).run P w = .ok (.value v) w := by
  unfold execOp
  simp only [ho, he]
  rfl
theorem run_fL0 {m : Nat} (ho : o.op = .fieldAddr 43 x 0) (he : a.eval x = .pointer (some ⟨m, 0, none⟩)) (w : World) : (execOp a.eval o).run Tryz.prog w = .ok (.value (.pointer (some ⟨m, 0, none⟩))) w := by
  unfold execOp
  simp only [ho, he]
  go_simp
theorem run_fL1 {m : Nat} (ho : o.op = .fieldAddr 43 x 1) (he : a.eval x = .pointer (some ⟨m, 0, none⟩)) (w : World) : (execOp a.eval o).run Tryz.prog w = .ok (.value (.pointer (some ⟨m, 1, none⟩))) w := by
  unfold execOp
  simp only [ho, he]
  go_simp
theorem run_ldI {m i : Nat} {f : Int} (ho : o.op = .load 3 x) (he : a.eval x = .pointer (some ⟨m, i, none⟩)) (w : World) (hc : w.cell? ⟨m, i, none⟩ = some (.int .i64 f)) : (execOp a.eval o).run Tryz.prog w = .ok (.value (.int .i64 f)) w := by
  unfold execOp
  simp only [ho, he]
  go_simp
theorem run_ldS {m i : Nat} {a2 : Option Addr} {n2 c2 : Nat} (ho : o.op = .load 22 x) (he : a.eval x = .pointer (some ⟨m, i, none⟩)) (w : World) (hc : w.cell? ⟨m, i, none⟩ = some (.slice a2 n2 c2)) : (execOp a.eval o).run Tryz.prog w = .ok (.value (.slice a2 n2 c2)) w := by
  unfold execOp
  simp only [ho, he]
  go_simp
theorem run_ixI {b i n2 c2 j : Nat} (ho : o.op = .indexAddr 22 x y) (he : a.eval x = .slice (some ⟨b, i, none⟩) n2 c2) (hf : a.eval y = .int .i64 (j : Int)) (hj : j < n2) (w : World) : (execOp a.eval o).run Tryz.prog w = .ok (.value (.pointer (some ⟨b, i + j, none⟩))) w := by
  unfold execOp
  have b4 : (j : Int) < (n2 : Int) := by omega
  simp only [ho, he, hf]
  go_simp
theorem run_ex0 {u v : Value} (ho : o.op = .extract x 0) (he : a.eval x = .tuple #[u, v]) (w : World) : (execOp a.eval o).run Tryz.prog w = .ok (.value u) w := by
  unfold execOp
  simp only [ho, he]
  go_simp
theorem run_ex1 {u v : Value} (ho : o.op = .extract x 1) (he : a.eval x = .tuple #[u, v]) (w : World) : (execOp a.eval o).run Tryz.prog w = .ok (.value v) w := by
  unfold execOp
  simp only [ho, he]
  go_simp
end
section
variable {q g : Nat} {w wr w' : World} {nm : ByteArray} {v0 v1 vl : Value} {x : Sn}
end
section
variable {q g m : Nat} {w wr w' : World} {nm : ByteArray} {v0 v1 vl : Value} {x : Sn} {f : Int} {vt : Value}
end
end Go.Proofs.YtpfidohkohldaaaGreatDoor
namespace Go.Proofs.YtpfidohkohldaaaGreatDoor
set_option linter.unusedSimpArgs false
set_option linter.unusedVariables false
open Go.ChangeShapes Go.WideShapes Go.ChangeAt Go.RowKit Go.Pin Go.Pat
end Go.Proofs.YtpfidohkohldaaaGreatDoor
namespace Go.Proofs.YtpfidohkohldaaaGreatDoor
set_option linter.unusedSimpArgs false
set_option linter.unusedVariables false
open Go.ChangeShapes Go.WideShapes Go.ChangeAt Go.RowKit Go.Pin Go.Pat
theorem infoP : (Tryz.prog.info? 26).map (·.size) = some 4 := by kernel_rfl
theorem shp_lines : ∀ (L : List Ln) (o : Option Int) (n : Nat), shp o n L = true → ∀ l ∈ L, (l.1 = 0 ∨ l.1 = 1) ∧ ∀ t ∈ l.2, 1 ≤ t ∧ t ≤ 7
  | [], _, _, _ => fun l h => nomatch h
  | (f, ts) :: r, o, n, h => fun l hl => by
    rw [shp_split] at h
    simp only [Bool.and_eq_true, decide_eq_true_eq, List.all_eq_true, isTok] at h
    rcases List.mem_cons.1 hl with rfl | hl
    · exact ⟨h.1.1.1.1.1, h.1.2⟩
    · exact shp_lines r _ _ h.2 l hl
end Go.Proofs.YtpfidohkohldaaaGreatDoor
