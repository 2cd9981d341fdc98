import Derived.Test.YtdakhiafagambaaDoorPin
import Derived.Test.YtdakhiafagambaaDoorChecked
import Derived.Maps.AppendAt
import Derived.OwnWalk
import Derived.Test.YtdakhiafagambaaDoorQc
import Derived.Test.YtdakhiafagambaaDoorQh
/- stage 20, the ground: bytes that are read, bytes of one's own -/
namespace Go.Proofs.YtdakhiafagambaaDoor
set_option linter.unusedSimpArgs false
set_option linter.unusedVariables false
open Go.ChangeShapes Go.WideShapes Go.ChangeAt Go.RowKit Go.Pin
theorem wrapS {i n : Nat} (h : i < n) (hn : n ≤ 140737488355328) : wrap64 ((i : Int) + 1) = ((i + 1 : Nat) : Int) := by rw [IntWalk.wrap64_in _ ⟨by omega, by omega⟩]; omega
theorem measS {i n : Nat} (h : i < n) (hn : n ≤ 140737488355328) : n - (intOf (Value.int .i64 (wrap64 ((i : Int) + 1)))).toNat < n - (intOf (Value.int .i64 (i : Int))).toNat := by
  rw [wrapS h hn]
  show n - (((i + 1 : Nat) : Int)).toNat < n - ((i : Int)).toNat
  omega
theorem drewN_below {B : Nat} {a w : World} (h : Below B a w) (n : Nat) : Below B a (w.drewN n) := ⟨h.os, h.tape, h.output, h.size, h.block⟩
theorem drew_below {B : Nat} {a w : World} (h : Below B a w) : Below B a w.drew := ⟨h.os, h.tape, h.output, h.size, h.block⟩
theorem range_lt {w : World} {b o : Nat} {cs : List Value} (h : w.rangeAt b o cs) (h0 : 0 < cs.length) : b < w.heap.size := World.block_lt_of_cell? w _ (h 0 _ (List.getElem?_eq_getElem h0))
theorem cell_below {w W : World} {b o : Nat} {v : Value} (hb : Below w.heap.size w W) (h : w.cell? ⟨b, o, none⟩ = some v) : W.cell? ⟨b, o, none⟩ = some v := by
  rw [World.cell?_of_block (a := ⟨b, o, none⟩) (hb.block b (World.block_lt_of_cell? w _ h))]
  exact h
theorem wpApp {P : Program} {o : Oper} {a : Act} {w : World} {K : Act → World → Prop} {Q : Exit → Act → World → Prop} {s x : Operand} {t : TypeId} {v u : Value} {R : Value → World → Prop} {d : Option Nat}
    (ho : o.op = .call { callee := .builtin .append, args := #[s, x], argTypes := #[t, t] }) (hd : o.dst = d) (hs : a.eval s = v) (hx : a.eval x = u) (hr : ∀ ty, ∃ v' w', (Builtin.append_ #[t, t] ty #[v, u]).run P w = .ok v' w' ∧ R v' w') (h : ∀ v' w', R v' w' → K (a.put d v') w') : Oper.wp P o a w K Q := by
  subst hd
  obtain ⟨v', w', h1, h2⟩ := hr o.type
  unfold Oper.wp execOp
  simp only [ho, resolve, invoke, builtin, Sem.run_bind, Sem.run_pure, Result.andThen_ok, List.map_toArray, List.map_cons, List.map_nil, hs, hx, h1]
  exact h v' w' h2
theorem wpList_app {P : Program} (w : World) {ops : Array Oper} {rest : List Oper} {o : Oper} {a : Act} {Q : Exit → Act → World → Prop} {R : Value → World → Prop} (hgd : o.guard = none) (d s : Operand) (t t' : TypeId)
    (ho : o.op = .call { callee := .builtin .append, args := #[d, s], argTypes := #[t, t'] }) (v u : Value) (hd : a.eval d = v) (hs : a.eval s = u)
    (hr : ∀ ty, ∃ v' w', (Builtin.append_ #[t, t'] ty #[v, u]).run P w = .ok v' w' ∧ R v' w') (h : ∀ v' w', R v' w' → wpList P ops Q rest (a.put o.dst v') w') : wpList P ops Q (o :: rest) a w :=
  wpList_plain hgd fun _ hK => by
    obtain ⟨v', w', h1, h2⟩ := hr o.type
    unfold Oper.wp execOp
    simp only [ho, resolve, invoke, builtin, Sem.run_bind, Sem.run_pure, Result.andThen_ok, List.map_toArray, List.map_cons, List.map_nil, hd, hs, h1]
    exact hK _ _ (h v' w' h2)
theorem owns_below {w w' : World} (hb : Below w.heap.size w w') {b : Nat} {e : TypeId} {size : Nat} {v : Value} {n : Nat} {xs : List Value} (ho : w.ownsRow b e size v n xs) : w'.ownsRow b e size v n xs := by
  refine ⟨ho.1, ?_⟩
  rcases ho.2 with h0 | ⟨g, cap, cur, rfl, h1, hg, hr⟩
  · exact .inl h0
  · exact .inr ⟨g, cap, cur, rfl, h1, (hb.block g (Array.getElem?_eq_some_iff.1 hg).1).trans hg, hr⟩
theorem own_app {t e : TypeId} {z : Value} {k by_ : Nat} (hU : Tryd.prog.underlying t = some (.slice e)) (hI : (Tryd.prog.info? e).map (fun i => (i.zero, i.size, i.bytes)) = some (some z, k, by_)) (hz : z.cells.size = k) (hk : 0 < k)
    {w : World} {b : Nat} {v : Value} {n : Nat} {xs : List Value} (hown : w.ownsRow b e k v n xs) {a : Nat} {news : List Value} {t' : TypeId} {fr : Nat × Nat} (hc : w.heap[a]? = some (.cells news.toArray t' fr)) (hl : news.length = k) (h1 : ∀ u ∈ news, u.oneCell' = true) (hn : (n + 1) * by_ ≤ 140737488355328) (hn2 : n + 1 ≤ 140737488355328) (hb : b ≤ w.heap.size) :
    ∀ ty, ∃ v' w', (Builtin.append_ #[t, t] ty #[v, .slice (some ⟨a, 0, none⟩) 1 1]).run Tryd.prog w = .ok v' w' ∧ (w'.ownsRow b e k v' (n + 1) (xs ++ news) ∧ w.grownBy w' v.ownBlock ∧ (v'.ownBlock = v.ownBlock ∨ v'.ownBlock = some w.heap.size)) := fun ty => by
  obtain ⟨i, i1, hz'⟩ := Option.map_eq_some_iff.1 hI
  simp only [Prod.mk.injEq] at hz'
  obtain ⟨i2, i3, i4⟩ := hz'
  obtain ⟨v', w', hr, h2, h3, _, h5⟩ := run_append_own_at (P := Tryd.prog) w b t ty e i z k by_ hU i1 i2 i3 i4 hz hk v n xs hown ⟨a, 0, none⟩ 1 1 news (by rw [hl, Nat.one_mul]) (fun j u hu => by
    rw [add_mid, Nat.zero_add, cell_of_row _ _ _ _ _ _ hc, ← hu]; simp) h1 (by unfold maxLen; omega) hn hb
  exact ⟨v', w', hr, h2, h3, h5⟩
theorem grown_below {w w' W : World} {q b : Nat} {e : TypeId} {k n : Nat} {v : Value} {xs : List Value} (hb : Below q W w) (ho : w.ownsRow b e k v n xs) (hq : q ≤ b) (hq2 : q ≤ w.heap.size) (hg : w.grownBy w' v.ownBlock) : Below q W w' :=
  hb.grown hg hq2 (fun k hk => by have := (ho.lt k hk).1; omega)
theorem own_nil0 (w : World) (b : Nat) (e : TypeId) (k : Nat) : w.ownsRow b e k (.slice none 0 0) 0 [] := ⟨by simp, .inl ⟨rfl, rfl⟩⟩
theorem own_cell {w : World} {b : Nat} {e : TypeId} {k n : Nat} {a : Option Addr} {m cap : Nat} {xs : List Value} (h : w.ownsRow b e k (.slice a m cap) n xs) : m = n ∧ ∀ j u, xs[j]? = some u → ∃ g, a = some ⟨g, 0, none⟩ ∧ b ≤ g ∧ w.cell? ⟨g, j, none⟩ = some u := by
  rcases h.2 with ⟨e', e2⟩ | ⟨g, cap', cur, e', hb, hg, h1, h2, h3, h4⟩
  · injection e' with e1 e3 e4
    refine ⟨by omega, fun j u hu => ?_⟩
    have := h.1
    have := (List.getElem?_eq_some_iff.1 hu).1
    subst e2
    omega
  · injection e' with e1 e2 e3
    refine ⟨e2, fun j u hu => ⟨g, e1, hb, ?_⟩⟩
    have hj := (List.getElem?_eq_some_iff.1 hu).1
    rw [h.1] at hj
    rw [cell_of_row _ _ _ _ _ _ hg, ← hu, ← h4, List.getElem?_take_of_lt hj]
    simp
theorem own_slice' {w : World} {b : Nat} {e : TypeId} {k n : Nat} {v : Value} {xs : List Value} (h : w.ownsRow b e k v n xs) : ∃ a cap, v = .slice a n cap := by
  rcases h.2 with ⟨rfl, rfl⟩ | ⟨g, cap, cur, rfl, _⟩
  · exact ⟨_, _, rfl⟩
  · exact ⟨_, _, rfl⟩
theorem own_keep {w w' : World} {b : Nat} {e : TypeId} {k n : Nat} {v : Value} {xs : List Value} (h : w.ownsRow b e k v n xs) (hk : ∀ g, v.ownBlock = some g → w'.heap[g]? = w.heap[g]?) : w'.ownsRow b e k v n xs := by
  refine ⟨h.1, ?_⟩
  rcases h.2 with h0 | ⟨g, cap, cur, rfl, h1, hg, hr⟩
  · exact .inl h0
  · exact .inr ⟨g, cap, cur, rfl, h1, (hk g rfl).trans hg, hr⟩
theorem own_dn {w : World} {b b2 : Nat} {e : TypeId} {k n : Nat} {v : Value} {xs : List Value} (h : w.ownsRow b e k v n xs) (hb : b2 ≤ b) : w.ownsRow b2 e k v n xs := by
  refine ⟨h.1, ?_⟩
  rcases h.2 with h0 | ⟨g, cap, cur, rfl, h1, hr⟩
  · exact .inl h0
  · exact .inr ⟨g, cap, cur, rfl, Nat.le_trans hb h1, hr⟩
theorem parts_u8 : (Tryd.prog.info? 5).map (fun i => (i.zero, i.size, i.bytes)) = some (some (.int .u8 0), 1, 1) := by kernel_rfl
/-- bytes that are read -/
def RdB (w : World) (v : Value) (C : List Int) : Prop :=
  ∃ a cap, v = .slice a C.length cap ∧ (C.length ≤ cap ∧ (a = none → cap = 0)) ∧ C.length ≤ 140737488355328 ∧ (C = [] ∨ ∃ b o, a = some ⟨b, o, none⟩ ∧ w.rangeAt b o (C.map (Value.int .u8)))
def Byb (C : List Int) : Prop := ∀ x ∈ C, 0 ≤ x ∧ x < 256
theorem RdB.at {w : World} {a : Option Addr} {n cap : Nat} {C : List Int} (h : RdB w (.slice a n cap) C) : n = C.length ∧ n ≤ 140737488355328 ∧ ∀ j, j < n → ∃ b o, a = some ⟨b, o, none⟩ ∧ ∀ W, Below w.heap.size w W → W.cell? ⟨b, o + j, none⟩ = some (.int .u8 (C.getD j 0)) := by
  obtain ⟨a', c', e, h1, h2, h3⟩ := h
  injection e with e1 e2 e3
  subst e1 e2 e3
  refine ⟨rfl, h2, fun j hj => ?_⟩
  rcases h3 with h3 | ⟨b, o, h3, h4⟩
  · subst h3; simp at hj
  · refine ⟨b, o, h3, fun W hW => ?_⟩
    have hv : (C.map (Value.int .u8))[j]? = some (.int .u8 (C.getD j 0)) := by simp [List.getD, hj]
    rw [World.cell?_of_block (a := ⟨b, o + j, none⟩) (hW.block b (World.block_lt_of_cell? w _ (h4 j _ hv)))]
    exact h4 j _ hv
theorem RdB.below {w W : World} {v : Value} {C : List Int} (h : RdB w v C) (hb : Below w.heap.size w W) : RdB W v C := by
  obtain ⟨a, c, e, h1, h2, h3⟩ := h
  refine ⟨a, c, e, h1, h2, ?_⟩
  rcases h3 with h3 | ⟨b, o, h3, h4⟩
  · exact .inl h3
  · by_cases h0 : C = []
    · exact .inl h0
    · have hl := range_lt h4 (by rw [List.length_map]; exact List.length_pos_iff.2 h0)
      exact .inr ⟨b, o, h3, fun j v hv => by rw [World.cell?_of_block (a := ⟨b, o + j, none⟩) (hb.block b hl)]; exact h4 j v hv⟩
theorem own_byt {w : World} {b : Nat} {v : Value} {C : List Int} (h : w.ownsRow b 5 1 v C.length (C.map (Value.int .u8))) (hC : C.length ≤ 140737488355328) : RdB w v C := by
  rcases h.2 with ⟨rfl, e2⟩ | ⟨g, cap', cur, rfl, hb, hg, h1, h2, h3, h4⟩
  · obtain rfl : C = [] := List.length_eq_zero_iff.1 e2
    exact ⟨none, 0, rfl, ⟨Nat.le_refl _, fun _ => rfl⟩, hC, .inl rfl⟩
  · refine ⟨_, cap', rfl, ⟨h1, fun h => nomatch h⟩, hC, .inr ⟨g, 0, rfl, fun j u hu => ?_⟩⟩
    obtain ⟨g', e, _, hc⟩ := (own_cell h).2 j u hu
    injection e with e
    injection e with e
    subst e
    rw [Nat.zero_add]
    exact hc
theorem own_appB {w : World} {b : Nat} {v : Value} {n : Nat} {xs : List Value} (hown : w.ownsRow b 5 1 v n xs) {u : Value} {C : List Int} (hu : RdB w u C) (hn : n + C.length ≤ 1000000) (hb : b ≤ w.heap.size) :
    ∀ ty, ∃ v' w', (Builtin.append_ #[22, 22] ty #[v, u]).run Tryd.prog w = .ok v' w' ∧ (w'.ownsRow b 5 1 v' (n + C.length) (xs ++ C.map (Value.int .u8)) ∧ w.grownBy w' v.ownBlock ∧ (v'.ownBlock = v.ownBlock ∨ v'.ownBlock = some w.heap.size)) := fun ty => by
  obtain ⟨i, i1, hz'⟩ := Option.map_eq_some_iff.1 parts_u8
  simp only [Prod.mk.injEq] at hz'
  obtain ⟨i2, i3, i4⟩ := hz'
  obtain ⟨a, cap, rfl, ⟨hc1, hc0⟩, _, h3⟩ := hu
  cases a with
  | none =>
    have hcap := hc0 rfl
    obtain rfl : C = [] := List.length_eq_zero_iff.1 (by omega)
    subst hcap
    exact ⟨v, w, run_append_owned_none (P := Tryd.prog) w b 22 ty 5 i 1 Tryd.underlying22 i1 _ n xs hown, by simpa using hown, World.grownBy.refl _ _, .inl rfl⟩
  | some ad =>
    obtain ⟨v', w', hr, h2, h4, _, h5⟩ := run_append_own_at (P := Tryd.prog) w b 22 ty 5 i (.int .u8 0) 1 1 Tryd.underlying22 i1 i2 i3 i4 rfl (by decide) v n xs hown ad C.length cap (C.map (Value.int .u8)) (by rw [List.length_map, Nat.mul_one]) (fun j x hx => by
      rcases h3 with h3 | ⟨bb, o, e, hr⟩
      · subst h3; simp at hx
      · injection e with e
        subst e
        rw [Addr.add_lit]
        exact hr j x hx) (ints_oneCell _ _) (by unfold maxLen; omega) (by omega) hb
    exact ⟨v', w', hr, h2, h4, h5⟩
theorem takeV {P : Program} {ops : Array Oper} {Q : Exit → Act → World → Prop} {S : World → Prop} {fuel : Nat} {listed : Array Bool} {a : Act} {w : World} (i : Nat) (v : Value) {o : Oper} (hi : ops[i]? = some o) (hs : Region.noSelect ops = true) (hf : Region.free .any ops listed i = true) (hr : (Region.ready .any ops listed).contains i = true)
    (hQ : ∀ c (a : Act) d v w, Q (.panic c) (a.put d v) w → Q (.panic c) a w) (hS : S w) (hw : Region.wanted o (yielded ops a.tmps) = true)
    (hrun : ∀ w, S w → (execOp a.eval o).run P w = .ok (.value v) w) (h : wpAnyH P .any ops Q S fuel (listed.setIfInBounds i true) (a.put o.dst v) w) : wpAnyH P .any ops Q S (fuel + 1) listed a w :=
  wpAnyH_take hi hs hf hr (fun _ _ _ h => hQ _ _ _ _ _ h) (.inl ⟨hw, hrun⟩) hS h
theorem wpCallV {P : Program} {o : Oper} {a : Act} {w : World} {K : Act → World → Prop} {Q : Exit → Act → World → Prop} {f : Nat} {xs : Array Operand} {ts : Array TypeId} {args : Array Value} {R : Value → World → Prop} {d : Option Nat}
    (ho : o.op = .call { callee := .value (.func f), args := xs, argTypes := ts }) (hd : o.dst = d) (ha : xs.map a.eval = args) (hen : ∀ w, (callFunc f args).run P w = .ok (.enter f args) w) (hc : Calls P f args w fun e w' => ∃ v, e = .returned v ∧ R v w') (h : ∀ v w', R v w' → K (a.put d v) w') : Oper.wp P o a w K Q := by
  subst hd
  unfold Oper.wp execOp
  simp only [ho]
  go_simp
  refine hc.mono ?_
  rintro e w' ⟨v, rfl, hr⟩
  exact h v w' hr
theorem wpSkp {P : Program} {o : Oper} {a : Act} {w w' : World} {d : Option Nat} {K : Act → World → Prop} {Q : Exit → Act → World → Prop} (hd : o.dst = d) (hrun : (execOp a.eval o).run P w = .ok .skip w') (h : K (a.put d undef) w') : Oper.wp P o a w K Q := by
  subst hd
  unfold Oper.wp
  rw [hrun]
  exact h
theorem wpRun {P : Program} {o : Oper} {a : Act} {w w' : World} {v : Value} {d : Option Nat} {K : Act → World → Prop} {Q : Exit → Act → World → Prop} (hd : o.dst = d) (hrun : (execOp a.eval o).run P w = .ok (.value v) w') (h : K (a.put d v) w') : Oper.wp P o a w K Q := by
  subst hd
  unfold Oper.wp
  rw [hrun]
  exact h
end Go.Proofs.YtdakhiafagambaaDoor
