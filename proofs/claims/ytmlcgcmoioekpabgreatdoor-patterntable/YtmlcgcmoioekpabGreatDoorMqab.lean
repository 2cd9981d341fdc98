import Derived.Maps.AppendAt
import Derived.Test.YtmlcgcmoioekpabGreatDoorMqaa
/- lists of one's own that grow by one; append in a drawn region and outside of one -/
namespace Go.Proofs.YtmlcgcmoioekpabGreatDoor
set_option linter.unusedSimpArgs false
set_option linter.unusedVariables false
open Go.ChangeShapes Go.WideShapes Go.ChangeAt Go.RowKit Go.Pin Go.Pat
theorem wpApp {P : Program} {o : Oper} {a : Act} {w : World} {K : Act → World → Prop} {Q : Exit → Act → World → Prop} {s x : Operand} {t : TypeId} {v u : Value} {R : Value → World → Prop} {d : Option Nat}
    (ho : o.op = .call { callee := .builtin .append, args := #[s, x], argTypes := #[t, t] }) (hd : o.dst = d) (hs : a.eval s = v) (hx : a.eval x = u) (hr : ∀ ty, ∃ v' w', (Builtin.append_ #[t, t] ty #[v, u]).run P w = .ok v' w' ∧ R v' w') (h : ∀ v' w', R v' w' → K (a.put d v') w') : Oper.wp P o a w K Q := by
  subst hd
  obtain ⟨v', w', h1, h2⟩ := hr o.type
  unfold Oper.wp execOp
  simp only [ho, resolve, invoke, builtin, Sem.run_bind, Sem.run_pure, Result.andThen_ok, List.map_toArray, List.map_cons, List.map_nil, hs, hx, h1]
  exact h v' w' h2
theorem wpList_app {P : Program} (w : World) {ops : Array Oper} {rest : List Oper} {o : Oper} {a : Act} {Q : Exit → Act → World → Prop} {R : Value → World → Prop} (hgd : o.guard = none) (d s : Operand) (t t' : TypeId)
    (ho : o.op = .call { callee := .builtin .append, args := #[d, s], argTypes := #[t, t'] }) (v u : Value) (hd : a.eval d = v) (hs : a.eval s = u)
    (hr : ∀ ty, ∃ v' w', (Builtin.append_ #[t, t'] ty #[v, u]).run P w = .ok v' w' ∧ R v' w') (h : ∀ v' w', R v' w' → wpList P ops Q rest (a.put o.dst v') w') : wpList P ops Q (o :: rest) a w :=
  wpList_plain hgd fun _ hK => by
    obtain ⟨v', w', h1, h2⟩ := hr o.type
    unfold Oper.wp execOp
    simp only [ho, resolve, invoke, builtin, Sem.run_bind, Sem.run_pure, Result.andThen_ok, List.map_toArray, List.map_cons, List.map_nil, hd, hs, h1]
    exact hK _ _ (h v' w' h2)
theorem owns_below {w w' : World} (hb : Below w.heap.size w w') {b : Nat} {e : TypeId} {size : Nat} {v : Value} {n : Nat} {xs : List Value} (ho : w.ownsRow b e size v n xs) : w'.ownsRow b e size v n xs := by
  refine ⟨ho.1, ?_⟩
  rcases ho.2 with h0 | ⟨g, cap, cur, rfl, h1, hg, hr⟩
  · exact .inl h0
  · exact .inr ⟨g, cap, cur, rfl, h1, (hb.block g (Array.getElem?_eq_some_iff.1 hg).1).trans hg, hr⟩
theorem own_app {t e : TypeId} {z : Value} {k by_ : Nat} (hU : Tryz.prog.underlying t = some (.slice e)) (hI : (Tryz.prog.info? e).map (fun i => (i.zero, i.size, i.bytes)) = some (some z, k, by_)) (hz : z.cells.size = k) (hk : 0 < k)
    {w : World} {b : Nat} {v : Value} {n : Nat} {xs : List Value} (hown : w.ownsRow b e k v n xs) {a : Nat} {news : List Value} {t' : TypeId} {fr : Nat × Nat} (hc : w.heap[a]? = some (.cells news.toArray t' fr)) (hl : news.length = k) (h1 : ∀ u ∈ news, u.oneCell' = true) (hn : (n + 1) * by_ ≤ 140737488355328) (hn2 : n + 1 ≤ 140737488355328) (hb : b ≤ w.heap.size) :
    ∀ ty, ∃ v' w', (Builtin.append_ #[t, t] ty #[v, .slice (some ⟨a, 0, none⟩) 1 1]).run Tryz.prog w = .ok v' w' ∧ (w'.ownsRow b e k v' (n + 1) (xs ++ news) ∧ w.grownBy w' v.ownBlock ∧ (v'.ownBlock = v.ownBlock ∨ v'.ownBlock = some w.heap.size)) := fun ty => by
  obtain ⟨i, i1, hz'⟩ := Option.map_eq_some_iff.1 hI
  simp only [Prod.mk.injEq] at hz'
  obtain ⟨i2, i3, i4⟩ := hz'
  obtain ⟨v', w', hr, h2, h3, _, h5⟩ := run_append_own_at (P := Tryz.prog) w b t ty e i z k by_ hU i1 i2 i3 i4 hz hk v n xs hown ⟨a, 0, none⟩ 1 1 news (by rw [hl, Nat.one_mul]) (fun j u hu => by
    rw [add_mid, Nat.zero_add, cell_of_row _ _ _ _ _ _ hc, ← hu]; simp) h1 (by unfold maxLen; omega) hn hb
  exact ⟨v', w', hr, h2, h3, h5⟩
/-- what grows at its own list leaves all below it -/
theorem grown_below {w w' W : World} {q b : Nat} {e : TypeId} {k n : Nat} {v : Value} {xs : List Value} (hb : Below q W w) (ho : w.ownsRow b e k v n xs) (hq : q ≤ b) (hq2 : q ≤ w.heap.size) (hg : w.grownBy w' v.ownBlock) : Below q W w' :=
  hb.grown hg hq2 (fun k hk => by have := (ho.lt k hk).1; omega)
theorem parts_str : (Tryz.prog.info? 9).map (fun i => (i.zero, i.size, i.bytes)) = some (some (.string ⟨#[]⟩), 1, 16) := by kernel_rfl
theorem parts_int : (Tryz.prog.info? 3).map (fun i => (i.zero, i.size, i.bytes)) = some (some (.int .i64 0), 1, 8) := by kernel_rfl
theorem own_nil0 (w : World) (b : Nat) (e : TypeId) (k : Nat) : w.ownsRow b e k (.slice none 0 0) 0 [] := ⟨by simp, .inl ⟨rfl, rfl⟩⟩
/-- texts that are read -/
def RdS (w : World) (v : Value) (L : List ByteArray) : Prop :=
  ∃ a cap, v = .slice a L.length cap ∧ ∀ j, j < L.length → ∃ b o, a = some ⟨b, o, none⟩ ∧ w.cell? ⟨b, o + j, none⟩ = some (.string (L.getD j ⟨#[]⟩))
theorem RdS.below {w W : World} {v : Value} {L : List ByteArray} (h : RdS w v L) (hb : Below w.heap.size w W) : RdS W v L := by
  obtain ⟨a, c, e, h3⟩ := h
  refine ⟨a, c, e, fun j hj => ?_⟩
  obtain ⟨b, o, g1, g2⟩ := h3 j hj
  exact ⟨b, o, g1, cell_below hb g2⟩
theorem own_cell {w : World} {b : Nat} {e : TypeId} {k n : Nat} {a : Option Addr} {m cap : Nat} {xs : List Value} (h : w.ownsRow b e k (.slice a m cap) n xs) : m = n ∧ ∀ j u, xs[j]? = some u → ∃ g, a = some ⟨g, 0, none⟩ ∧ b ≤ g ∧ w.cell? ⟨g, j, none⟩ = some u := by
  rcases h.2 with ⟨e', e2⟩ | ⟨g, cap', cur, e', hb, hg, h1, h2, h3, h4⟩
  · injection e' with e1 e3 e4
    refine ⟨by omega, fun j u hu => ?_⟩
    have := h.1
    have := (List.getElem?_eq_some_iff.1 hu).1
    subst e2
    omega
  · injection e' with e1 e2 e3
    refine ⟨e2, fun j u hu => ⟨g, e1, hb, ?_⟩⟩
    have hj := (List.getElem?_eq_some_iff.1 hu).1
    rw [h.1] at hj
    rw [cell_of_row _ _ _ _ _ _ hg, ← hu, ← h4, List.getElem?_take_of_lt hj]
    simp
theorem own_slice' {w : World} {b : Nat} {e : TypeId} {k n : Nat} {v : Value} {xs : List Value} (h : w.ownsRow b e k v n xs) : ∃ a cap, v = .slice a n cap := by
  rcases h.2 with ⟨rfl, rfl⟩ | ⟨g, cap, cur, rfl, _⟩
  · exact ⟨_, _, rfl⟩
  · exact ⟨_, _, rfl⟩
theorem own_strs {w : World} {b : Nat} {v : Value} {L : List ByteArray} (h : w.ownsRow b 9 1 v L.length (L.map Value.string)) : RdS w v L := by
  obtain ⟨a, cap, rfl⟩ := own_slice' h
  refine ⟨a, cap, rfl, fun j hj => ?_⟩
  obtain ⟨g, e, _, hc⟩ := (own_cell h).2 j (.string (L.getD j ⟨#[]⟩)) (by simp [List.getD, hj])
  exact ⟨g, 0, e, by rw [Nat.zero_add]; exact hc⟩
theorem own_ints {w : World} {b : Nat} {v : Value} {C : List Int} (h : w.ownsRow b 3 1 v C.length (C.map (Value.int .i64))) (hC : C.length ≤ 140737488355328) : RdN w v C := by
  rcases h.2 with ⟨rfl, e2⟩ | ⟨g, cap', cur, rfl, hb, hg, h1, h2, h3, h4⟩
  · obtain rfl : C = [] := List.length_eq_zero_iff.1 e2
    exact ⟨none, 0, rfl, ⟨Nat.le_refl _, fun _ => rfl⟩, hC, .inl rfl⟩
  · refine ⟨_, cap', rfl, ⟨h1, fun h => nomatch h⟩, hC, .inr ⟨g, 0, rfl, fun j u hu => ?_⟩⟩
    obtain ⟨g', e, _, hc⟩ := (own_cell h).2 j u hu
    injection e with e
    injection e with e
    subst e
    rw [Nat.zero_add]
    exact hc
end Go.Proofs.YtmlcgcmoioekpabGreatDoor
namespace Go.Proofs.YtmlcgcmoioekpabGreatDoor
set_option linter.unusedSimpArgs false
set_option linter.unusedVariables false
open Go.ChangeShapes Go.WideShapes Go.ChangeAt Go.RowKit Go.Pin Go.Pat
/-- a pattern's box -/
structure PB (q : Nat) (w : World) (nm : ByteArray) (v0 v1 vl : Value) (wr : World) : Prop where
  old : Below q w wr
  lt : q < wr.heap.size
  row : wr.heap[q]? = some (.cells #[.string nm, v0, v1, vl] 26)
theorem pb_start (w : World) (nm : ByteArray) (v0 v1 vl : Value) : PB w.heap.size w nm v0 v1 vl (w.alloc (.cells #[.string nm, v0, v1, vl] 26)) :=
  ⟨(Below.refl _ _).alloc (Nat.le_refl _) _, by simp [size_alloc], heap_alloc_new _ _⟩
section
variable {q : Nat} {w wr w' : World} {nm : ByteArray} {v0 v1 vl : Value}
theorem PB.c0 (h : PB q w nm v0 v1 vl wr) : wr.cell? ⟨q, 0, none⟩ = some (.string nm) := by rw [cell_of_row _ _ _ _ _ _ h.row]; rfl
theorem PB.c1 (h : PB q w nm v0 v1 vl wr) : wr.cell? ⟨q, 1, none⟩ = some v0 := by rw [cell_of_row _ _ _ _ _ _ h.row]; rfl
theorem PB.c2 (h : PB q w nm v0 v1 vl wr) : wr.cell? ⟨q, 2, none⟩ = some v1 := by rw [cell_of_row _ _ _ _ _ _ h.row]; rfl
theorem PB.c3 (h : PB q w nm v0 v1 vl wr) : wr.cell? ⟨q, 3, none⟩ = some vl := by rw [cell_of_row _ _ _ _ _ _ h.row]; rfl
theorem PB.below (h : PB q w nm v0 v1 vl wr) (hb : Below wr.heap.size wr w') : PB q w nm v0 v1 vl w' :=
  ⟨h.old.trans (hb.mono (by have := h.lt; omega)), Nat.lt_of_lt_of_le h.lt hb.size, (hb.block _ h.lt).trans h.row⟩
end
theorem RdL.len {w : World} {a : Option Addr} {n cap : Nat} {L : List Ln} (h : RdL w (.slice a n cap) L) : L.length = n ∧ n ≤ 140737488355328 := by
  obtain ⟨a', c', e, _, h2, _⟩ := h
  injection e with _ e2 _
  exact ⟨e2.symm, by omega⟩
theorem RdL.at {w : World} {a : Option Addr} {n cap : Nat} {L : List Ln} (h : RdL w (.slice a n cap) L) {j : Nat} (hj : j < n) : ∃ b o a2 n2 c2, a = some ⟨b, o, none⟩ ∧ (∀ W, Below w.heap.size w W → W.cell? ⟨b, o + j * 2, none⟩ = some (.int .i64 (L.getD j (0, [])).1) ∧ W.cell? ⟨b, o + j * 2 + 1, none⟩ = some (.slice a2 n2 c2)) ∧ RdN w (.slice a2 n2 c2) (L.getD j (0, [])).2 ∧ n2 = (L.getD j (0, [])).2.length := by
  obtain ⟨a', c', e, _, _, h3⟩ := h
  injection e with e1 e2 e3
  subst e1 e2 e3
  obtain ⟨b, o, u, g1, g2, g3, g4⟩ := h3 j hj
  obtain ⟨a2, c2, rfl, _⟩ := id g4
  exact ⟨b, o, a2, _, c2, g1, fun W hW => ⟨cell_below hW g2, cell_below hW g3⟩, g4, rfl⟩
end Go.Proofs.YtmlcgcmoioekpabGreatDoor
/- a pattern that is being built in a box of one's own: its lists lie in blocks behind the box, none of them the list of lines' own -/
namespace Go.Proofs.YtmlcgcmoioekpabGreatDoor
set_option linter.unusedSimpArgs false
set_option linter.unusedVariables false
open Go.ChangeShapes Go.WideShapes Go.ChangeAt Go.RowKit Go.Pin Go.Pat
/-- numbers that are read, in blocks of S -/
def FtN (S : Nat → Prop) (w : World) (v : Value) (C : List Int) : Prop :=
  ∃ a cap, v = .slice a C.length cap ∧ (C.length ≤ cap ∧ (a = none → cap = 0)) ∧ C.length ≤ 140737488355328 ∧ (C = [] ∨ ∃ b o, S b ∧ a = some ⟨b, o, none⟩ ∧ w.rangeAt b o (C.map (Value.int .i64)))
section
variable {S T : Nat → Prop} {w w' W : World} {v : Value} {C : List Int}
theorem FtN.rd (h : FtN S w v C) : RdN w v C := by
  obtain ⟨a, c, e, h1, h2, h3⟩ := h
  refine ⟨a, c, e, h1, h2, ?_⟩
  rcases h3 with h3 | ⟨b, o, _, h4, h5⟩
  · exact .inl h3
  · exact .inr ⟨b, o, h4, h5⟩
theorem FtN.mono (h : FtN S w v C) (hs : ∀ b, S b → T b) : FtN T w v C := by
  obtain ⟨a, c, e, h1, h2, h3⟩ := h
  refine ⟨a, c, e, h1, h2, ?_⟩
  rcases h3 with h3 | ⟨b, o, h0, h4, h5⟩
  · exact .inl h3
  · exact .inr ⟨b, o, hs b h0, h4, h5⟩
theorem FtN.keep (h : FtN S w v C) (hk : ∀ b, S b → w'.heap[b]? = w.heap[b]?) : FtN S w' v C := by
  obtain ⟨a, c, e, h1, h2, h3⟩ := h
  refine ⟨a, c, e, h1, h2, ?_⟩
  rcases h3 with h3 | ⟨b, o, h0, h4, h5⟩
  · exact .inl h3
  · exact .inr ⟨b, o, h0, h4, fun j x hx => by rw [World.cell?_of_block (a := ⟨b, o + j, none⟩) (hk b h0)]; exact h5 j x hx⟩
theorem FtN.one (h : FtN S w v C) : v.oneCell' = true := by
  obtain ⟨a, c, rfl, _⟩ := h
  rfl
theorem ft_nil (S : Nat → Prop) (w : World) : FtN S w (.slice none 0 0) [] := ⟨none, 0, rfl, ⟨Nat.le_refl _, fun _ => rfl⟩, by simp, .inl rfl⟩
theorem own_ft {b n : Nat} (h : w.ownsRow b 3 1 v n (C.map (Value.int .i64))) (hn : n = C.length) (hC : C.length ≤ 140737488355328) : FtN (fun k => b ≤ k ∧ k < w.heap.size) w v C := by
  subst hn
  obtain ⟨a, c, e, h1, h2, h3⟩ := own_ints h hC
  refine ⟨a, c, e, h1, h2, ?_⟩
  rcases h3 with h3 | ⟨b', o, h4, h5⟩
  · exact .inl h3
  · by_cases h0 : C = []
    · exact .inl h0
    · refine .inr ⟨b', o, ?_, h4, h5⟩
      have hb : v.ownBlock = some b' := by rw [e, h4]; rfl
      exact h.lt b' hb
end
/-- a line in the making: who, the tokens' value, the tokens -/
abbrev Lv := Int × Value × List Int
def lvc (fs : List Lv) : List Value := fs.flatMap fun g => [.int .i64 g.1, g.2.1]
def lvl (fs : List Lv) : List Ln := fs.map fun g => (g.1, g.2.2)
theorem lvc_length (l : List Lv) : (lvc l).length = l.length * 2 := by
  induction l with
  | nil => rfl
  | cons g r ih => simp [lvc] at ih ⊢; omega
theorem lvc_snoc (l : List Lv) (g : Lv) : lvc (l ++ [g]) = lvc l ++ [.int .i64 g.1, g.2.1] := by simp [lvc]
theorem lvl_snoc (l : List Lv) (g : Lv) : lvl (l ++ [g]) = lvl l ++ [(g.1, g.2.2)] := by simp [lvl]
theorem lvc_at (l : List Lv) : ∀ (j : Nat), j < l.length → (lvc l)[j * 2]? = some (.int .i64 (l.getD j (0, undef, [])).1) ∧ (lvc l)[j * 2 + 1]? = some (l.getD j (0, undef, [])).2.1 := by
  induction l with
  | nil => intro j hj; simp at hj
  | cons g r ih =>
    intro j hj
    cases j with
    | zero => simp [lvc]
    | succ j =>
      have := ih j (by simpa using hj)
      have e : lvc (g :: r) = .int .i64 g.1 :: g.2.1 :: lvc r := by simp [lvc]
      rw [e, show (j + 1) * 2 = j * 2 + 1 + 1 by omega]
      simpa using this
def Fr (gp : Nat) (vl : Value) (w : World) (b : Nat) : Prop := gp < b ∧ b < w.heap.size ∧ some b ≠ vl.ownBlock
structure PS (gp : Nat) (w0 : World) (nm : ByteArray) (v0 v1 vl : Value) (b0 b1 : List Int) (fs : List Lv) (wr : World) : Prop where
  old : Below gp w0 wr
  lt : gp < wr.heap.size
  row : wr.heap[gp]? = some (.cells #[.string nm, v0, v1, vl] 26)
  f0 : FtN (Fr gp vl wr) wr v0 b0
  f1 : FtN (Fr gp vl wr) wr v1 b1
  own : wr.ownsRow (gp + 1) 58 2 vl fs.length (lvc fs)
  ft : ∀ f ∈ fs, FtN (Fr gp vl wr) wr f.2.1 f.2.2
section
variable {gp : Nat} {w0 wr w' : World} {nm : ByteArray} {v0 v1 vl : Value} {b0 b1 : List Int} {fs : List Lv}
/-- free blocks stay free, and as they were -/
def Kp (gp : Nat) (vl : Value) (wr : World) (vn : Value) (w' : World) : Prop := ∀ b, Fr gp vl wr b → Fr gp vn w' b ∧ w'.heap[b]? = wr.heap[b]?
theorem Kp.trans {gp : Nat} {a b c : Value} {w1 w2 w3 : World} (h : Kp gp a w1 b w2) (k : Kp gp b w2 c w3) : Kp gp a w1 c w3 := fun x hx => ⟨(k x (h x hx).1).1, (k x (h x hx).1).2.trans (h x hx).2⟩
theorem FtN.kp {gp : Nat} {a b v : Value} {w1 w2 : World} {C : List Int} (h : FtN (Fr gp a w1) w1 v C) (k : Kp gp a w1 b w2) : FtN (Fr gp b w2) w2 v C := (h.keep fun x hx => (k x hx).2).mono fun x hx => (k x hx).1
/-- texts that are read, in blocks of S -/
def FtS (S : Nat → Prop) (w : World) (v : Value) (L : List ByteArray) : Prop :=
  ∃ a cap, v = .slice a L.length cap ∧ ∀ j, j < L.length → ∃ b o, S b ∧ a = some ⟨b, o, none⟩ ∧ w.cell? ⟨b, o + j, none⟩ = some (.string (L.getD j ⟨#[]⟩))
theorem FtS.kp {gp : Nat} {a b v : Value} {w1 w2 : World} {L : List ByteArray} (h : FtS (Fr gp a w1) w1 v L) (k : Kp gp a w1 b w2) : FtS (Fr gp b w2) w2 v L := by
  obtain ⟨ad, c, e, h3⟩ := h
  refine ⟨ad, c, e, fun j hj => ?_⟩
  obtain ⟨x, o, g0, g1, g2⟩ := h3 j hj
  exact ⟨x, o, (k x g0).1, g1, by rw [World.cell?_of_block (a := ⟨x, o + j, none⟩) (k x g0).2]; exact g2⟩
theorem FtS.mono {S T : Nat → Prop} {w : World} {v : Value} {L : List ByteArray} (h : FtS S w v L) (hs : ∀ b, S b → T b) : FtS T w v L := by
  obtain ⟨ad, c, e, h3⟩ := h
  refine ⟨ad, c, e, fun j hj => ?_⟩
  obtain ⟨x, o, g0, g1, g2⟩ := h3 j hj
  exact ⟨x, o, hs x g0, g1, g2⟩
theorem FtS.at {S : Nat → Prop} {w : World} {a : Option Addr} {n cap : Nat} {L : List ByteArray} (h : FtS S w (.slice a n cap) L) {j : Nat} (hj : j < n) : n = L.length ∧ ∃ b o, S b ∧ a = some ⟨b, o, none⟩ ∧ w.cell? ⟨b, o + j, none⟩ = some (.string (L.getD j ⟨#[]⟩)) := by
  obtain ⟨a', c', e, h3⟩ := h
  injection e with e1 e2 e3
  subst e1 e2 e3
  exact ⟨rfl, h3 j hj⟩
theorem own_fts {w : World} {b n : Nat} {v : Value} {L : List ByteArray} (h : w.ownsRow b 9 1 v n (L.map Value.string)) (hn : n = L.length) : FtS (fun k => b ≤ k ∧ k < w.heap.size) w v L := by
  subst hn
  obtain ⟨a, cap, e, h3⟩ := own_strs h
  refine ⟨a, cap, e, fun j hj => ?_⟩
  obtain ⟨x, o, g1, g2⟩ := h3 j hj
  have hb : v.ownBlock = some x := by rw [e, g1]; rfl
  exact ⟨x, o, h.lt x hb, g1, g2⟩
theorem PS.c0 (h : PS gp w0 nm v0 v1 vl b0 b1 fs wr) : wr.cell? ⟨gp, 0, none⟩ = some (.string nm) := by rw [cell_of_row _ _ _ _ _ _ h.row]; rfl
theorem PS.c1 (h : PS gp w0 nm v0 v1 vl b0 b1 fs wr) : wr.cell? ⟨gp, 1, none⟩ = some v0 := by rw [cell_of_row _ _ _ _ _ _ h.row]; rfl
theorem PS.c2 (h : PS gp w0 nm v0 v1 vl b0 b1 fs wr) : wr.cell? ⟨gp, 2, none⟩ = some v1 := by rw [cell_of_row _ _ _ _ _ _ h.row]; rfl
theorem PS.c3 (h : PS gp w0 nm v0 v1 vl b0 b1 fs wr) : wr.cell? ⟨gp, 3, none⟩ = some vl := by rw [cell_of_row _ _ _ _ _ _ h.row]; rfl
theorem PS.fz (h : PS gp w0 nm v0 v1 vl b0 b1 fs wr) (j : Nat) : wr.frozen? ⟨gp, j, none⟩ = false := frozen_of_row _ _ _ _ _ h.row
theorem PS.one (h : PS gp w0 nm v0 v1 vl b0 b1 fs wr) : vl.oneCell' = true := by obtain ⟨a, c, rfl⟩ := own_slice' h.own; rfl
/-- the blocks that a built pattern reads stay: then it stays -/
theorem PS.keeps (h : PS gp w0 nm v0 v1 vl b0 b1 fs wr) (hb : ∀ b, gp ≤ b → b < wr.heap.size → w'.heap[b]? = wr.heap[b]?) (hs : wr.heap.size ≤ w'.heap.size) (hold : Below gp w0 w') : PS gp w0 nm v0 v1 vl b0 b1 fs w' := by
  have hS : ∀ b, Fr gp vl wr b → Fr gp vl w' b := fun b hb => ⟨hb.1, Nat.lt_of_lt_of_le hb.2.1 hs, hb.2.2⟩
  have hk : ∀ b, Fr gp vl wr b → w'.heap[b]? = wr.heap[b]? := fun b hq => hb b (Nat.le_of_lt hq.1) hq.2.1
  refine ⟨hold, Nat.lt_of_lt_of_le h.lt hs, (hb gp (Nat.le_refl _) h.lt).trans h.row, (h.f0.keep hk).mono hS, (h.f1.keep hk).mono hS, ⟨h.own.1, ?_⟩, fun f hf => ((h.ft f hf).keep hk).mono hS⟩
  rcases h.own.2 with h0 | ⟨g, cap, cur, rfl, h1, hg, hr⟩
  · exact .inl h0
  · exact .inr ⟨g, cap, cur, rfl, h1, (hb g (by omega) (Array.getElem?_eq_some_iff.1 hg).1).trans hg, hr⟩
theorem PS.below (h : PS gp w0 nm v0 v1 vl b0 b1 fs wr) (hb : Below wr.heap.size wr w') : PS gp w0 nm v0 v1 vl b0 b1 fs w' :=
  h.keeps (fun b _ hl => hb.block b hl) hb.size (h.old.trans (hb.mono (Nat.le_of_lt h.lt)))
theorem PS.kb (h : PS gp w0 nm v0 v1 vl b0 b1 fs wr) (hb : Below wr.heap.size wr w') : Kp gp vl wr vl w' := fun b hq => ⟨⟨hq.1, Nat.lt_of_lt_of_le hq.2.1 hb.size, hq.2.2⟩, hb.block b hq.2.1⟩
theorem PS.newS (h : PS gp w0 nm v0 v1 vl b0 b1 fs wr) {v : Value} {L : List ByteArray} {q : Nat} (hq : wr.heap.size ≤ q) (hf : FtS (fun k => q ≤ k ∧ k < w'.heap.size) w' v L) : FtS (Fr gp vl w') w' v L :=
  hf.mono fun b hb => ⟨by have := h.lt; omega, hb.2, fun e => by have := (h.own.lt b e.symm).2; omega⟩
/-- new memory lies in blocks that are free -/
theorem PS.new (h : PS gp w0 nm v0 v1 vl b0 b1 fs wr) (hs : wr.heap.size ≤ w'.heap.size) {v : Value} {C : List Int} {q : Nat} (hq : wr.heap.size ≤ q) (hf : FtN (fun k => q ≤ k ∧ k < w'.heap.size) w' v C) : FtN (Fr gp vl w') w' v C :=
  hf.mono fun b hb => ⟨by have := h.lt; omega, hb.2, fun e => by have := (h.own.lt b e.symm).2; omega⟩
/-- a cell of the box is set -/
theorem ps_set (h : PS gp w0 nm v0 v1 vl b0 b1 fs wr) (j : Nat) (u : Value) : Below gp w0 (wr.setCell ⟨gp, j, none⟩ u) ∧ (wr.setCell ⟨gp, j, none⟩ u).heap.size = wr.heap.size ∧ ∀ b, b ≠ gp → (wr.setCell ⟨gp, j, none⟩ u).heap[b]? = wr.heap[b]? := by
  have hb := (But.refl (fun k => k = gp) wr).setCell (p := ⟨gp, j, none⟩) rfl u
  have ho : ∀ b, b ≠ gp → (wr.setCell ⟨gp, j, none⟩ u).heap[b]? = wr.heap[b]? := fun b hne => heap_setCell_other _ _ _ _ hne
  refine ⟨⟨hb.os.trans h.old.os, hb.tape.trans h.old.tape, hb.output.trans h.old.output, Nat.le_trans h.old.size (Nat.le_of_eq hb.size.symm), fun k hk => ?_⟩, hb.size, ho⟩
  rw [ho k (by omega)]; exact h.old.block k hk
theorem ps_box {w1 : World} {u0 u1 : Value} {d0 d1 : List Int} (h : PS gp w0 nm v0 v1 vl b0 b1 fs wr) (hold : Below gp w0 w1) (hsz : w1.heap.size = wr.heap.size) (ho : ∀ b, b ≠ gp → w1.heap[b]? = wr.heap[b]?)
    (hrow : w1.heap[gp]? = some (.cells #[.string nm, u0, u1, vl] 26)) (g0 : FtN (Fr gp vl wr) wr u0 d0) (g1 : FtN (Fr gp vl wr) wr u1 d1) : PS gp w0 nm u0 u1 vl d0 d1 fs w1 := by
  have hS : ∀ b, Fr gp vl wr b → Fr gp vl w1 b := fun b hb => ⟨hb.1, by rw [hsz]; exact hb.2.1, hb.2.2⟩
  have hk : ∀ b, Fr gp vl wr b → w1.heap[b]? = wr.heap[b]? := fun b hq => ho b (by have := hq.1; omega)
  refine ⟨hold, by rw [hsz]; exact h.lt, hrow, (g0.keep hk).mono hS, (g1.keep hk).mono hS, ⟨h.own.1, ?_⟩, fun f hf => ((h.ft f hf).keep hk).mono hS⟩
  rcases h.own.2 with h0 | ⟨g, cap, cur, e, h1, hg, hr⟩
  · exact .inl h0
  · exact .inr ⟨g, cap, cur, e, h1, (ho g (by omega)).trans hg, hr⟩
theorem PS.set1 (h : PS gp w0 nm v0 v1 vl b0 b1 fs wr) {u : Value} {C : List Int} (hf : FtN (Fr gp vl wr) wr u C) : PS gp w0 nm u v1 vl C b1 fs (wr.setCell ⟨gp, 1, none⟩ u) := by
  obtain ⟨h1, h2, h3⟩ := ps_set h 1 u
  exact ps_box h h1 h2 h3 (by rw [heap_setCell_same _ _ _ _ _ _ h.row]; rfl) hf h.f1
theorem PS.set2 (h : PS gp w0 nm v0 v1 vl b0 b1 fs wr) {u : Value} {C : List Int} (hf : FtN (Fr gp vl wr) wr u C) : PS gp w0 nm v0 u vl b0 C fs (wr.setCell ⟨gp, 2, none⟩ u) := by
  obtain ⟨h1, h2, h3⟩ := ps_set h 2 u
  exact ps_box h h1 h2 h3 (by rw [heap_setCell_same _ _ _ _ _ _ h.row]; rfl) h.f0 hf
theorem parts_line : (Tryz.prog.info? 58).map (fun i => (i.zero, i.size, i.bytes)) = some (some (.agg #[.int .i64 0, .slice none 0 0]), 2, 32) := by kernel_rfl
/-- a line is appended; the box has the elder list still -/
structure PT (gp : Nat) (w0 : World) (nm : ByteArray) (v0 v1 vl vn : Value) (b0 b1 : List Int) (fs : List Lv) (wr : World) : Prop where
  old : Below gp w0 wr
  lt : gp < wr.heap.size
  row : wr.heap[gp]? = some (.cells #[.string nm, v0, v1, vl] 26)
  f0 : FtN (Fr gp vn wr) wr v0 b0
  f1 : FtN (Fr gp vn wr) wr v1 b1
  own : wr.ownsRow (gp + 1) 58 2 vn fs.length (lvc fs)
  ft : ∀ f ∈ fs, FtN (Fr gp vn wr) wr f.2.1 f.2.2
theorem PS.app (h : PS gp w0 nm v0 v1 vl b0 b1 fs wr) (hn : fs.length ≤ 1000000) {a : Nat} {f : Int} {u : Value} {C : List Int} (hf : FtN (Fr gp vl wr) wr u C) (hc : wr.heap[a]? = some (.cells #[.int .i64 f, u] 58)) :
    ∀ ty, ∃ v' w', (Builtin.append_ #[24, 24] ty #[vl, .slice (some ⟨a, 0, none⟩) 1 1]).run Tryz.prog wr = .ok v' w' ∧ (PT gp w0 nm v0 v1 vl v' b0 b1 (fs ++ [(f, u, C)]) w' ∧ Kp gp vl wr v' w') := fun ty => by
  obtain ⟨v', w', hr, h2, h3, h4⟩ := own_app Tryz.underlying24 parts_line rfl (by decide) h.own (news := [.int .i64 f, u]) hc rfl (fun x hx => by simp at hx; rcases hx with rfl | rfl; rfl; exact hf.one) (by omega) (by omega) h.lt ty
  have hS : ∀ b, Fr gp vl wr b → Fr gp v' w' b := fun b hb => ⟨hb.1, Nat.lt_of_lt_of_le hb.2.1 h3.size, fun e => by
    rcases h4 with h4 | h4
    · rw [h4] at e; exact hb.2.2 e
    · rw [h4] at e; injection e with e; have := hb.2.1; omega⟩
  have hk : ∀ b, Fr gp vl wr b → w'.heap[b]? = wr.heap[b]? := fun b hb => h3.block b hb.2.1 hb.2.2
  have hgp : some gp ≠ vl.ownBlock := fun e => by have := (h.own.lt gp e.symm).1; omega
  refine ⟨v', w', hr, ⟨?_, Nat.lt_of_lt_of_le h.lt h3.size, (h3.block gp h.lt hgp).trans h.row, (h.f0.keep hk).mono hS, (h.f1.keep hk).mono hS, ?_, fun g hg => ?_⟩, fun b hb => ⟨hS b hb, hk b hb⟩⟩
  · exact h.old.grown h3 (Nat.le_of_lt h.lt) (fun k hk => by have := (h.own.lt k hk).1; omega)
  · rw [lvc_snoc, List.length_append]; exact h2
  · rcases List.mem_append.1 hg with hg | hg
    · exact ((h.ft g hg).keep hk).mono hS
    · obtain rfl : g = (f, u, C) := by simpa using hg
      exact (hf.keep hk).mono hS
theorem PT.c3 {vn : Value} (h : PT gp w0 nm v0 v1 vl vn b0 b1 fs wr) : wr.cell? ⟨gp, 3, none⟩ = some vl := by rw [cell_of_row _ _ _ _ _ _ h.row]; rfl
theorem PT.fz {vn : Value} (h : PT gp w0 nm v0 v1 vl vn b0 b1 fs wr) (j : Nat) : wr.frozen? ⟨gp, j, none⟩ = false := frozen_of_row _ _ _ _ _ h.row
/-- the box takes the new list -/
theorem PT.set {vn : Value} (h : PT gp w0 nm v0 v1 vl vn b0 b1 fs wr) : PS gp w0 nm v0 v1 vn b0 b1 fs (wr.setCell ⟨gp, 3, none⟩ vn) := by
  have hb := (But.refl (fun k => k = gp) wr).setCell (p := ⟨gp, 3, none⟩) rfl vn
  have ho : ∀ b, b ≠ gp → (wr.setCell ⟨gp, 3, none⟩ vn).heap[b]? = wr.heap[b]? := fun b hne => heap_setCell_other _ _ _ _ hne
  have hS : ∀ b, Fr gp vn wr b → Fr gp vn (wr.setCell ⟨gp, 3, none⟩ vn) b := fun b hq => ⟨hq.1, by rw [hb.size]; exact hq.2.1, hq.2.2⟩
  have hk : ∀ b, Fr gp vn wr b → (wr.setCell ⟨gp, 3, none⟩ vn).heap[b]? = wr.heap[b]? := fun b hq => ho b (by have := hq.1; omega)
  refine ⟨⟨hb.os.trans h.old.os, hb.tape.trans h.old.tape, hb.output.trans h.old.output, Nat.le_trans h.old.size (Nat.le_of_eq hb.size.symm), fun k hk => ?_⟩, by rw [hb.size]; exact h.lt, by rw [heap_setCell_same _ _ _ _ _ _ h.row]; rfl, (h.f0.keep hk).mono hS, (h.f1.keep hk).mono hS, ⟨h.own.1, ?_⟩, fun f hf => ((h.ft f hf).keep hk).mono hS⟩
  · rw [ho k (by omega)]; exact h.old.block k hk
  · rcases h.own.2 with h0 | ⟨g, cap, cur, e, h1, hg, hr⟩
    · exact .inl h0
    · exact .inr ⟨g, cap, cur, e, h1, (ho g (by omega)).trans hg, hr⟩
theorem PT.kp {vn : Value} (h : PT gp w0 nm v0 v1 vl vn b0 b1 fs wr) : Kp gp vn wr vn (wr.setCell ⟨gp, 3, none⟩ vn) := fun b hq => by
  have hb := (But.refl (fun k => k = gp) wr).setCell (p := ⟨gp, 3, none⟩) rfl vn
  exact ⟨⟨hq.1, by rw [hb.size]; exact hq.2.1, hq.2.2⟩, heap_setCell_other _ _ _ _ (by have := hq.1; show b ≠ gp; omega)⟩
/-- it is the pattern that it says -/
theorem PS.rd (h : PS gp w0 nm v0 v1 vl b0 b1 fs wr) (hn : fs.length ≤ 140737488355328) : RdP wr (.agg #[.string nm, v0, v1, vl]) ⟨nm, b0, b1, lvl fs⟩ := by
  refine ⟨v0, v1, vl, rfl, h.f0.rd, h.f1.rd, ?_⟩
  have hl : (lvl fs).length = fs.length := by simp [lvl]
  rcases h.own.2 with ⟨e, e2⟩ | ⟨g, cap', cur, e, hb, hg, h1, h2, h3, h4⟩
  · subst e
    exact ⟨none, 0, by rw [hl, e2], by rw [hl, e2]; exact Nat.le_refl _, by rw [hl]; exact hn, fun j hj => by rw [hl, e2] at hj; omega⟩
  · subst e
    refine ⟨some ⟨g, 0, none⟩, cap', by rw [hl], by rw [hl]; exact h1, by rw [hl]; exact hn, fun j hj => ?_⟩
    rw [hl] at hj
    obtain ⟨a1, a2⟩ := lvc_at fs j hj
    obtain ⟨g', e1, _, k1⟩ := (own_cell h.own).2 _ _ a1
    obtain ⟨g'', e2, _, k2⟩ := (own_cell h.own).2 _ _ a2
    injection e1 with e1
    injection e1 with e1
    injection e2 with e2
    injection e2 with e2
    subst e1 e2
    have hgd : (lvl fs).getD j (0, []) = ((fs.getD j (0, undef, [])).1, (fs.getD j (0, undef, [])).2.2) := by simp [lvl, List.getD, hj]
    have hm : fs.getD j (0, undef, []) ∈ fs := by simp [List.getD, hj]
    rw [hgd]
    exact ⟨g, 0, _, rfl, by rw [Nat.zero_add]; exact k1, by rw [Nat.zero_add]; exact k2, (h.ft _ hm).rd⟩
/-- a new box with a name alone -/
theorem ps_start (W : World) (nm : ByteArray) : PS W.heap.size W nm (.slice none 0 0) (.slice none 0 0) (.slice none 0 0) [] [] [] (W.alloc (.cells #[.string nm, .slice none 0 0, .slice none 0 0, .slice none 0 0] 26)) :=
  ⟨(Below.refl _ _).alloc (Nat.le_refl _) _, by simp [size_alloc], heap_alloc_new _ _, ft_nil _ _, ft_nil _ _, own_nil0 _ _ _ _, fun f hf => by simp at hf⟩
end
end Go.Proofs.YtmlcgcmoioekpabGreatDoor
