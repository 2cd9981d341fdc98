import Derived.Test.YtdakhiafagambaaDoorFrA
import Derived.Maps.AppendAt
/- stage 20: a list that lies in a block, appended to in its place or anew; longer lists made of lists -/
namespace Go.Proofs.YtdakhiafagambaaDoor
set_option linter.unusedSimpArgs false
set_option linter.unusedVariables false
set_option maxRecDepth 100000
open Go.ChangeShapes Go.WideShapes Go.ChangeAt Go.RowKit Go.Pin
/-- a list that lies somewhere in a block, up to the block's end -/
def OA (e : TypeId) (k : Nat) (v : Value) (n : Nat) (xs : List Value) (w : World) : Prop :=
  xs.length = n * k ∧ ((v = .slice none 0 0 ∧ n = 0) ∨ ∃ g o cap cur, v = .slice (some ⟨g, o, none⟩) n cap ∧ w.heap[g]? = some (.cells cur e (0, 0)) ∧ n ≤ cap ∧ cur.size = o + cap * k ∧ (cur.toList.drop o).take (n * k) = xs)
theorem OA.lt {e : TypeId} {k : Nat} {v : Value} {n : Nat} {xs : List Value} {w : World} (h : OA e k v n xs w) {g : Nat} (hg : v.ownBlock = some g) : g < w.heap.size := by
  rcases h.2 with ⟨rfl, _⟩ | ⟨g', o, cap, cur, rfl, h1, _⟩
  · cases hg
  · injection hg with hg
    subst hg
    exact (Array.getElem?_eq_some_iff.1 h1).1
theorem OA.keep {e : TypeId} {k : Nat} {v : Value} {n : Nat} {xs : List Value} {w w' : World} (h : OA e k v n xs w) (hk : ∀ g, v.ownBlock = some g → w'.heap[g]? = w.heap[g]?) : OA e k v n xs w' := by
  refine ⟨h.1, ?_⟩
  rcases h.2 with h1 | ⟨g, o, cap, cur, rfl, h1, h2⟩
  · exact .inl h1
  · exact .inr ⟨g, o, cap, cur, rfl, (hk g rfl).trans h1, h2⟩
theorem own_oa {b : Nat} {e : TypeId} {k : Nat} {v : Value} {n : Nat} {xs : List Value} {w : World} (h : w.ownsRow b e k v n xs) : OA e k v n xs w := by
  refine ⟨h.1, ?_⟩
  rcases h.2 with h1 | ⟨g, cap, cur, rfl, _, h1, h2, _, h3, h4⟩
  · exact .inl h1
  · exact .inr ⟨g, 0, cap, cur, rfl, h1, h2, by omega, by simpa using h4⟩
theorem OA.sl {e : TypeId} {k : Nat} {v : Value} {n : Nat} {xs : List Value} {w : World} (h : OA e k v n xs w) : ∃ a c, v = .slice a n c := by
  rcases h.2 with ⟨rfl, rfl⟩ | ⟨g, o, cap, cur, rfl, _⟩
  · exact ⟨_, _, rfl⟩
  · exact ⟨_, _, rfl⟩
theorem OA.cell {e : TypeId} {k : Nat} {a : Option Addr} {m c n : Nat} {xs : List Value} {w : World} (h : OA e k (.slice a m c) n xs w) {j : Nat} {u : Value} (hu : xs[j]? = some u) : m = n ∧ ∃ g o, a = some ⟨g, o, none⟩ ∧ w.cell? ⟨g, o + j, none⟩ = some u ∧ w.frozen? ⟨g, o + j, none⟩ = false := by
  rcases h.2 with ⟨h1, rfl⟩ | ⟨g, o, cap, cur, h1, h2, h3, h4, h5⟩
  · have := h.1
    simp at this
    subst this
    simp at hu
  · injection h1 with e1 e2 e3
    subst e1 e2 e3
    refine ⟨rfl, g, o, rfl, ?_, frozen_of_row _ _ _ _ _ h2⟩
    rw [cell_of_row _ _ _ _ _ _ h2]
    rw [← h5, List.getElem?_take] at hu
    split at hu
    · rw [List.getElem?_drop] at hu
      simpa using hu
    · cases hu
theorem run_append_off {P : Program} (w : World) (t ty e : TypeId) (i : TypeInfo) (ht : P.underlying t = some (.slice e)) (hi : P.info? e = some i)
    (g o sLen sCap : Nat) (cur : Array Value) (hg : w.heap[g]? = some (.cells cur e (0, 0)))
    (a : Addr) (m c : Nat) (news : List Value) (hl : news.length = m * i.size) (hnews : ∀ j u, news[j]? = some u → w.cell? (a.add j) = some u) (h1 : ∀ u ∈ news, u.oneCell' = true)
    (hroom : sLen + m ≤ sCap) (hfit : o + sLen * i.size + news.length ≤ cur.size) :
    (Builtin.append_ #[t, t] ty #[.slice (some ⟨g, o, none⟩) sLen sCap, .slice (some a) m c]).run P w =
      .ok (.slice (some ⟨g, o, none⟩) (sLen + m) sCap) (w.setRow g (cur.toList.take (o + sLen * i.size) ++ news ++ cur.toList.drop (o + sLen * i.size + news.length)).toArray) := by
  have hf := run_firstCells_some (P := P) w i.size m a m c news hl hnews
  have hst := run_storeCells_at P g (o + sLen * i.size) e news 0 cur w hg (by simpa using hfit) h1
  simp only [Nat.add_zero] at hst
  have hadd : (⟨g, o, none⟩ : Addr).add (sLen * i.size) = ⟨g, o + sLen * i.size, none⟩ := add_mid _ _ _
  simp [Builtin.append_, run_underlying ht, sizeOf, typeInfo, hi, Builtin.lenOf, hroom, hf, hadd, hst]
/-- what an append has done: in its place, or in new memory -/
def AppR (e : TypeId) (w : World) (v : Value) (n k : Nat) (v' : Value) (w' : World) : Prop :=
  (∃ g o cap cur cur', v = .slice (some ⟨g, o, none⟩) n cap ∧ v' = .slice (some ⟨g, o, none⟩) (n + 1) cap ∧ w.heap[g]? = some (.cells cur e (0, 0)) ∧ w'.heap[g]? = some (.cells cur' e (0, 0)) ∧ cur'.size = cur.size ∧ (∀ j, j < o + n * k → cur'[j]? = cur[j]?) ∧ w.grownBy w' (some g)) ∨
  ((∃ c, v' = .slice (some ⟨w.heap.size, 0, none⟩) (n + 1) c) ∧ Below w.heap.size w w')
theorem oa_app {t e : TypeId} {z : Value} {k by_ : Nat} (hU : Tryd.prog.underlying t = some (.slice e)) (hI : (Tryd.prog.info? e).map (fun i => (i.zero, i.size, i.bytes)) = some (some z, k, by_)) (hz : z.cells.size = k) (hk : 0 < k)
    {w : World} {v : Value} {n : Nat} {xs : List Value} (h : OA e k v n xs w) {a : Nat} {news : List Value} {t' : TypeId} {fr : Nat × Nat} (hc : w.heap[a]? = some (.cells news.toArray t' fr)) (hl : news.length = k) (h1 : ∀ u ∈ news, u.oneCell' = true) (hn : (n + 1) * by_ ≤ 140737488355328) (hn2 : n + 1 ≤ 140737488355328) :
    ∀ ty, ∃ v' w', (Builtin.append_ #[t, t] ty #[v, .slice (some ⟨a, 0, none⟩) 1 1]).run Tryd.prog w = .ok v' w' ∧ OA e k v' (n + 1) (xs ++ news) w' ∧ AppR e w v n k v' w' := fun ty => by
  obtain ⟨i, i1, hz'⟩ := Option.map_eq_some_iff.1 hI
  simp only [Prod.mk.injEq] at hz'
  obtain ⟨i2, i3, i4⟩ := hz'
  subst i3 i4
  have hnews : ∀ j u, news[j]? = some u → w.cell? ((⟨a, 0, none⟩ : Addr).add j) = some u := fun j u hu => by
    rw [add_mid, Nat.zero_add, cell_of_row _ _ _ _ _ _ hc, ← hu]; simp
  have hl1 : news.length = 1 * i.size := by rw [hl, Nat.one_mul]
  have h63 : n + 1 ≤ maxLen := by unfold maxLen; omega
  have hlen : (xs ++ news).length = (n + 1) * i.size := by rw [List.length_append, h.1, hl, Nat.add_mul, Nat.one_mul]
  have grown : ∀ (old : Nat), old < n + 1 → OA e i.size (.slice (some ⟨w.heap.size, 0, none⟩) (n + 1) (grownCap w (n + 1) old e)) (n + 1) (xs ++ news) (w.drew.alloc (.cells (xs.toArray ++ news.toArray ++ Builtin.zeroCells z.cells (grownCap w (n + 1) old e - (n + 1))) e)) := fun old ho => by
    have hge := grownCap_ge w (n + 1) old e
    refine ⟨hlen, .inr ⟨w.heap.size, 0, _, _, rfl, heap_alloc_new w.drew _, hge, ?_, ?_⟩⟩
    · simp only [Array.size_append, List.size_toArray, size_zeroCells, hz, h.1, hl, Nat.zero_add]
      rw [show n * i.size + i.size = (n + 1) * i.size by rw [Nat.add_mul, Nat.one_mul], ← Nat.add_mul]
      congr 1
      omega
    · simp only [Array.toList_append, List.append_assoc, List.drop_zero]
      rw [← List.append_assoc, ← hlen]
      exact List.take_left
  have hbn : ∀ o, Below w.heap.size w (w.drew.alloc o) := fun o => ((Below.refl _ w).drew).alloc (Nat.le_refl _) _
  rcases h.2 with ⟨rfl, rfl⟩ | ⟨g, o, cap, cur, rfl, h2, h3, h4, h5⟩
  · have hx : xs = [] := List.eq_nil_of_length_eq_zero (by simpa using h.1)
    subst hx
    have hr := run_append_nil (P := Tryd.prog) w t ty e i z hU i1 i2 ⟨a, 0, none⟩ 1 1 news hl1 hnews (by decide) (by decide) (by omega)
    have hg := grown 0 (by decide)
    simp only [Nat.zero_add, List.nil_append, Array.empty_append] at hg ⊢
    exact ⟨_, _, hr, hg, .inr ⟨⟨_, rfl⟩, hbn _⟩⟩
  · by_cases hroom : n + 1 ≤ cap
    · have hfit : o + n * i.size + news.length ≤ cur.size := by
        rw [hl, h4]
        have := Nat.mul_le_mul_right i.size hroom
        rw [Nat.add_mul, Nat.one_mul] at this
        omega
      have hr := run_append_off (P := Tryd.prog) w t ty e i hU i1 g o n cap cur h2 ⟨a, 0, none⟩ 1 1 news hl1 hnews h1 hroom hfit
      have hsz : (cur.toList.take (o + n * i.size) ++ news ++ cur.toList.drop (o + n * i.size + news.length)).toArray.size = cur.size := by
        simp only [List.size_toArray, List.length_append, List.length_take, List.length_drop, Array.length_toList]
        omega
      have hon : o + n * i.size ≤ cur.toList.length := by rw [Array.length_toList]; omega
      refine ⟨_, _, hr, ⟨hlen, .inr ⟨g, o, cap, _, rfl, setRow_heap w g cur _ e _ h2, hroom, by rw [hsz]; exact h4, ?_⟩⟩, .inl ⟨g, o, cap, cur, _, rfl, rfl, h2, setRow_heap w g cur _ e _ h2, hsz, fun j hj => ?_, ⟨rfl, rfl, rfl, by simp, fun k' _ hk' => setRow_other w g k' _ (fun e => hk' (by rw [e]))⟩⟩⟩
      · rw [List.append_assoc, List.drop_append_of_le_length (by rw [List.length_take]; omega), List.drop_take, show o + n * i.size - o = n * i.size by omega, h5, ← List.append_assoc, ← hlen]
        exact List.take_left
      · rw [List.getElem?_toArray, List.append_assoc, List.getElem?_append_left (by rw [List.length_take]; omega), List.getElem?_take_of_lt hj, Array.getElem?_toList]
    · have holds : ∀ j u, xs[j]? = some u → w.cell? ((⟨g, o, none⟩ : Addr).add j) = some u := fun j u hu => by
        obtain ⟨_, g', o', e1, hc', _⟩ := h.cell hu
        injection e1 with e1
        injection e1 with e1 e2
        subst e1 e2
        rw [add_mid]
        exact hc'
      have hr := run_append_grow (P := Tryd.prog) w t ty e i z hU i1 i2 ⟨g, o, none⟩ n cap xs h.1 holds ⟨a, 0, none⟩ 1 1 news hl1 hnews (by omega) (by simp only [maxLen] at h63; omega) (growslice_fits (by omega) hn)
      exact ⟨_, _, hr, grown cap (by omega), .inr ⟨⟨_, rfl⟩, hbn _⟩⟩
theorem OA.inPlace {e : TypeId} {k : Nat} {w w' : World} {g o cap n m : Nat} {xs : List Value} {cur cur' : Array Value} (h : OA e k (.slice (some ⟨g, o, none⟩) m cap) m xs w) (hm : m ≤ n) (h2 : w.heap[g]? = some (.cells cur e (0, 0))) (h3 : w'.heap[g]? = some (.cells cur' e (0, 0))) (hs : cur'.size = cur.size) (hj : ∀ j, j < o + n * k → cur'[j]? = cur[j]?) : OA e k (.slice (some ⟨g, o, none⟩) m cap) m xs w' := by
  refine ⟨h.1, ?_⟩
  rcases h.2 with ⟨h1, _⟩ | ⟨g', o', cap', cur0, h1, h4, h5, h6, h7⟩
  · cases h1
  · injection h1 with e1 e2 e3
    injection e1 with e1
    injection e1 with e1 e4
    subst e1 e4 e3
    rw [h4] at h2
    injection h2 with h2
    injection h2 with h2
    subst h2
    refine .inr ⟨g, o, cap, cur', rfl, h3, h5, by rw [hs]; exact h6, ?_⟩
    rw [← h7]
    refine List.ext_getElem? fun j => ?_
    rw [List.getElem?_take, List.getElem?_take]
    split
    · rename_i hjm
      rw [List.getElem?_drop, List.getElem?_drop]
      have := Nat.mul_le_mul_right k hm
      have h8 := hj (o + j) (by omega)
      simpa using h8
    · rfl
/-- j times the same cells -/
def rp (j : Nat) (c : List Value) : List Value := (List.replicate j c).flatten
theorem rp_succ (j : Nat) (c : List Value) : rp (j + 1) c = rp j c ++ c := by unfold rp; rw [List.replicate_succ', List.flatten_append]; simp
/-- a list that has been appended to j times since the world wi -/
structure LR (q : Nat) (e : TypeId) (k X : Nat) (wi : World) (u : Value) (n : Nat) (cs : List Value) (l : Value) (j : Nat) (nw : List Value) (y : World) : Prop where
  bl : Below q wi y
  st : ∀ g, g < wi.heap.size → g ≠ X → u.ownBlock ≠ some g → y.heap[g]? = wi.heap[g]?
  hu : OA e k u n cs y
  hl : OA e k l (n + j) (cs ++ nw) y
  al : (∃ a c, u = .slice a n c ∧ l = .slice a (n + j) c) ∨ ∃ g, l.ownBlock = some g ∧ wi.heap.size ≤ g
  ub : ∀ g, u.ownBlock = some g → q ≤ g ∧ g < wi.heap.size
  qs : q ≤ wi.heap.size
theorem LR.start {q : Nat} {e : TypeId} {k X : Nat} {wi : World} {u : Value} {n : Nat} {cs : List Value} (h : OA e k u n cs wi) (hq : q ≤ wi.heap.size) (hb : ∀ g, u.ownBlock = some g → q ≤ g) : LR q e k X wi u n cs u 0 [] wi := by
  obtain ⟨a, c, rfl⟩ := h.sl
  exact ⟨Below.refl _ _, fun _ _ _ _ => rfl, h, by simpa using h, .inl ⟨a, c, rfl, rfl⟩, fun g hg => ⟨hb g hg, h.lt hg⟩, hq⟩
theorem LR.below {q : Nat} {e : TypeId} {k X : Nat} {wi : World} {u : Value} {n : Nat} {cs : List Value} {l : Value} {j : Nat} {nw : List Value} {y y' : World} (h : LR q e k X wi u n cs l j nw y) (hb : Below y.heap.size y y') : LR q e k X wi u n cs l j nw y' :=
  ⟨h.bl.trans (hb.mono (Nat.le_trans h.qs h.bl.size)), fun g hg hx hu => (hb.block g (Nat.lt_of_lt_of_le hg h.bl.size)).trans (h.st g hg hx hu), h.hu.keep (fun g hg => hb.block g (h.hu.lt hg)), h.hl.keep (fun g hg => hb.block g (h.hl.lt hg)), h.al, h.ub, h.qs⟩
theorem LR.app {q : Nat} {e : TypeId} {k X : Nat} {wi : World} {u : Value} {n : Nat} {cs : List Value} {l : Value} {j : Nat} {nw : List Value} {y y' : World} {l' : Value} {c : List Value} (h : LR q e k X wi u n cs l j nw y) (ho : OA e k l' (n + j + 1) (cs ++ nw ++ c) y') (ha : AppR e y l (n + j) k l' y') : LR q e k X wi u n cs l' (j + 1) (nw ++ c) y' := by
  rw [List.append_assoc] at ho
  rcases ha with ⟨g, o, cap, cur, cur', rfl, rfl, h1, h2, h3, h4, h5⟩ | ⟨hb, hbl⟩
  · have hgb : ∀ g', g' < y.heap.size → g' ≠ g → y'.heap[g']? = y.heap[g']? := fun g' hg hne => h5.block g' hg (fun e => hne (by cases e; rfl))
    have hys : wi.heap.size ≤ y.heap.size := h.bl.size
    rcases h.al with ⟨a, c', hu, hl⟩ | ⟨g', hg', hgw⟩
    · injection hl with e1 e2 e3
      subst e1 e3 hu
      have hub := h.ub g rfl
      refine ⟨?_, fun g' hg' hx hu' => (hgb g' (by omega) (fun e => hu' (by rw [e]; rfl))).trans (h.st g' hg' hx hu'), ?_, ho, .inl ⟨_, _, rfl, rfl⟩, h.ub, h.qs⟩
      · exact h.bl.grown h5 (Nat.le_trans h.qs hys) (fun k hk => by injection hk with hk; omega)
      · exact h.hu.inPlace (n := n + j) (by omega) h1 h2 h3 h4
    · have hgg : g = g' := by injection hg'
      have hgw : wi.heap.size ≤ g := by omega
      have hune : ∀ g', u.ownBlock = some g' → g' ≠ g := fun g' hg' e => by have := (h.ub g' hg').2; omega
      refine ⟨?_, fun g' hg' hx hu' => (hgb g' (by omega) (by omega)).trans (h.st g' hg' hx hu'), h.hu.keep (fun g' hg' => hgb g' (h.hu.lt hg') (hune g' hg')), ho, .inr ⟨g, rfl, hgw⟩, h.ub, h.qs⟩
      exact h.bl.grown h5 (Nat.le_trans h.qs hys) (fun k hk => by injection hk with hk; have := h.qs; omega)
  · have h1 := h.below hbl
    exact ⟨h1.bl, h1.st, h1.hu, ho, .inr ⟨_, by obtain ⟨c', rfl⟩ := hb; rfl, h.bl.size⟩, h.ub, h.qs⟩
/-- lists, longer lists made of them by append, and the row of these -/
structure MV (q : Nat) (e : TypeId) (k q3 : Nat) (wD : World) (U : List (Value × Nat × List Value)) (nw : Nat → List Value) (e16 : TypeId) (v16 : Value) (Y : List Value) (w : World) : Prop where
  bl : Below q wD w
  sz : q3 ≤ w.heap.size
  qq : q ≤ q3
  us : ∀ (t : Nat) u, U[t]? = some u → OA e k u.1 u.2.1 u.2.2 w
  ul : ∀ u ∈ U, ∀ g, u.1.ownBlock = some g → q ≤ g ∧ g < q3
  ud : ∀ (s t : Nat) u u' g, U[s]? = some u → U[t]? = some u' → u.1.ownBlock = some g → u'.1.ownBlock = some g → s = t
  ys : ∀ (t : Nat) u y, U[t]? = some u → Y[t]? = some y → OA e k y (u.2.1 + 70) (u.2.2 ++ nw t) w ∧ ∀ g, y.ownBlock = some g → u.1.ownBlock = some g ∨ q3 ≤ g
  l16 : w.ownsRow q3 e16 1 v16 Y.length Y
  st : ∀ g, g < q3 → (∀ u ∈ U, u.1.ownBlock ≠ some g) → w.heap[g]? = wD.heap[g]?
theorem MV.start {q : Nat} {e : TypeId} {k : Nat} {wD : World} {U : List (Value × Nat × List Value)} {nw : Nat → List Value} {e16 : TypeId} (hq : q ≤ wD.heap.size) (hu : ∀ u ∈ U, OA e k u.1 u.2.1 u.2.2 wD ∧ ∀ g, u.1.ownBlock = some g → q ≤ g)
    (hd : ∀ (s t : Nat) u u' g, U[s]? = some u → U[t]? = some u' → u.1.ownBlock = some g → u'.1.ownBlock = some g → s = t) : MV q e k wD.heap.size wD U nw e16 (.slice none 0 0) [] wD :=
  ⟨Below.refl _ _, Nat.le_refl _, hq, fun t u h => (hu u (List.mem_of_getElem? h)).1, fun u h g hg => ⟨(hu u h).2 g hg, (hu u h).1.lt hg⟩, hd, fun t u y _ h => by simp at h, own_nil0 _ _ _ _, fun _ _ _ => rfl⟩
theorem MV.lr {q : Nat} {e : TypeId} {k q3 : Nat} {wD : World} {U : List (Value × Nat × List Value)} {nw : Nat → List Value} {e16 : TypeId} {v16 : Value} {Y : List Value} {w : World} (h : MV q e k q3 wD U nw e16 v16 Y w) {i : Nat} {u : Value × Nat × List Value} (hu : U[i]? = some u) : LR q e k w.heap.size w u.1 u.2.1 u.2.2 u.1 0 [] w :=
  LR.start (h.us i u hu) (Nat.le_trans h.qq h.sz) (fun g hg => (h.ul u (List.mem_of_getElem? hu) g hg).1)
/-- after the appends to the i-th list -/
theorem MV.mid {q : Nat} {e : TypeId} {k q3 : Nat} {wD : World} {U : List (Value × Nat × List Value)} {nw : Nat → List Value} {e16 : TypeId} {v16 : Value} {Y : List Value} {w y : World} (h : MV q e k q3 wD U nw e16 v16 Y w) {i : Nat} {u : Value × Nat × List Value} (hu : U[i]? = some u) (hY : Y.length = i) {l : Value} {j : Nat} {nx : List Value} (hl : LR q e k w.heap.size w u.1 u.2.1 u.2.2 l j nx y) : MV q e k q3 wD U nw e16 v16 Y y := by
  have hum := List.mem_of_getElem? hu
  have hoth : ∀ (t : Nat) u', U[t]? = some u' → t ≠ i → ∀ g, u'.1.ownBlock = some g → y.heap[g]? = w.heap[g]? := fun t u' hu' ht g hg => by
    refine hl.st g (by have := (h.ul u' (List.mem_of_getElem? hu') g hg).2; have := h.sz; omega) (by have := (h.ul u' (List.mem_of_getElem? hu') g hg).2; have := h.sz; omega) (fun e => ht (h.ud t i u' u g hu' hu hg e))
  refine ⟨h.bl.trans hl.bl, Nat.le_trans h.sz hl.bl.size, h.qq, fun t u' hu' => ?_, h.ul, h.ud, fun t u' y' hu' hy' => ?_, ?_, fun g hg hn => (hl.st g (by have := h.sz; omega) (by have := h.sz; omega) (hn u hum)).trans (h.st g hg hn)⟩
  · by_cases ht : t = i
    · subst ht
      rw [hu] at hu'
      injection hu' with hu'
      subst hu'
      exact hl.hu
    · exact (h.us t u' hu').keep (hoth t u' hu' ht)
  · have ht : t < i := by rw [← hY]; exact (List.getElem?_eq_some_iff.1 hy').1
    obtain ⟨h1, h2⟩ := h.ys t u' y' hu' hy'
    refine ⟨h1.keep (fun g hg => ?_), h2⟩
    rcases h2 g hg with h2 | h2
    · exact hoth t u' hu' (by omega) g h2
    · exact hl.st g (h1.lt hg) (Nat.ne_of_lt (h1.lt hg)) (fun e => by have := (h.ul u hum g e).2; omega)
  · exact own_keep h.l16 (fun g hg => hl.st g (h.l16.lt g hg).2 (Nat.ne_of_lt (h.l16.lt g hg).2) (fun e => by have := (h.ul u hum g e).2; have := (h.l16.lt g hg).1; omega))
theorem MV.below {q : Nat} {e : TypeId} {k q3 : Nat} {wD : World} {U : List (Value × Nat × List Value)} {nw : Nat → List Value} {e16 : TypeId} {v16 : Value} {Y : List Value} {w y : World} (h : MV q e k q3 wD U nw e16 v16 Y w) (hb : Below w.heap.size w y) : MV q e k q3 wD U nw e16 v16 Y y :=
  ⟨h.bl.trans (hb.mono (Nat.le_trans h.qq h.sz)), Nat.le_trans h.sz hb.size, h.qq, fun t u hu => (h.us t u hu).keep (fun g hg => hb.block g ((h.us t u hu).lt hg)), h.ul, h.ud, fun t u y' hu hy => ⟨(h.ys t u y' hu hy).1.keep (fun g hg => hb.block g ((h.ys t u y' hu hy).1.lt hg)), (h.ys t u y' hu hy).2⟩, own_keep h.l16 (fun g hg => hb.block g (h.l16.lt g hg).2), fun g hg hn => (hb.block g (by have := h.sz; omega)).trans (h.st g hg hn)⟩
theorem OA.ne {e e16 : TypeId} (hne : e ≠ e16) {b k n m : Nat} {v v16 : Value} {xs ys : List Value} {w : World} (h : OA e k v n xs w) (h16 : w.ownsRow b e16 1 v16 m ys) {g : Nat} (hg : v.ownBlock = some g) : v16.ownBlock ≠ some g := fun h2 => by
  rcases h.2 with ⟨rfl, _⟩ | ⟨g', o, cap, cur, rfl, h1, _⟩
  · cases hg
  · rcases h16.2 with ⟨rfl, _⟩ | ⟨g2, cap', cur', rfl, _, h3, _⟩
    · cases h2
    · injection hg with hg
      injection h2 with h2
      subst hg h2
      rw [h1] at h3
      injection h3 with h3
      injection h3 with _ h3
      exact hne h3
/-- the i-th longer list is put into the row -/
theorem MV.put {q : Nat} {e : TypeId} {k q3 : Nat} {wD : World} {U : List (Value × Nat × List Value)} {nw : Nat → List Value} {e16 : TypeId} {v16 v16' : Value} {Y : List Value} {w w' : World} (hne : e ≠ e16) (h : MV q e k q3 wD U nw e16 v16 Y w) {i : Nat} {u : Value × Nat × List Value} (hu : U[i]? = some u) (hY : Y.length = i) {l : Value} (ho : OA e k l (u.2.1 + 70) (u.2.2 ++ nw i) w) (hlb : ∀ g, l.ownBlock = some g → u.1.ownBlock = some g ∨ q3 ≤ g)
    (h16 : w'.ownsRow q3 e16 1 v16' (Y.length + 1) (Y ++ [l])) (hg : w.grownBy w' v16.ownBlock) : MV q e k q3 wD U nw e16 v16' (Y ++ [l]) w' := by
  have hk : ∀ g, g < w.heap.size → v16.ownBlock ≠ some g → w'.heap[g]? = w.heap[g]? := fun g h1 h2 => hg.block g h1 (fun e => h2 e.symm)
  have hoa : ∀ {v n xs}, OA e k v n xs w → OA e k v n xs w' := fun h1 => h1.keep (fun g hg' => hk g (h1.lt hg') (h1.ne hne h.l16 hg'))
  refine ⟨h.bl.grown hg (Nat.le_trans h.qq h.sz) (fun k hk => by have := (h.l16.lt k hk).1; have := h.qq; omega), Nat.le_trans h.sz hg.size, h.qq, fun t u' hu' => hoa (h.us t u' hu'), h.ul, h.ud, fun t u' y hu' hy => ?_, by rw [List.length_append]; exact h16, fun g hg' hn => (hk g (by have := h.sz; omega) (fun e => by have := (h.l16.lt g e).1; omega)).trans (h.st g hg' hn)⟩
  rw [List.getElem?_append] at hy
  split at hy
  · exact ⟨hoa (h.ys t u' y hu' hy).1, (h.ys t u' y hu' hy).2⟩
  · have ht : t = i := by
      have h1 := (List.getElem?_eq_some_iff.1 hy).1
      simp only [List.length_singleton] at h1
      omega
    subst ht
    have : y = l := by
      rw [show t - Y.length = 0 by omega] at hy
      simpa using hy.symm
    subst this
    rw [hu] at hu'
    injection hu' with hu'
    subst hu'
    exact ⟨hoa ho, hlb⟩
theorem LR.lb {q : Nat} {e : TypeId} {k X : Nat} {wi : World} {u : Value} {n : Nat} {cs : List Value} {l : Value} {j : Nat} {nw : List Value} {y : World} (h : LR q e k X wi u n cs l j nw y) {q3 : Nat} (h3 : q3 ≤ wi.heap.size) : ∀ g, l.ownBlock = some g → u.ownBlock = some g ∨ q3 ≤ g := fun g hg => by
  rcases h.al with ⟨a, c, rfl, rfl⟩ | ⟨g', hg', hw⟩
  · refine .inl ?_
    cases a <;> exact hg
  · rw [hg'] at hg
    injection hg with hg
    exact .inr (by omega)
end Go.Proofs.YtdakhiafagambaaDoor
