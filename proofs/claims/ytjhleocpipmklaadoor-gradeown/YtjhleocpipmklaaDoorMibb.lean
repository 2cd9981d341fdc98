import Derived.Maps.AppendAt
import Derived.Test.YtjhleocpipmklaaDoorMiag
import Derived.Test.YtjhleocpipmklaaDoorMiaz
import Derived.Test.YtjhleocpipmklaaDoorMiba
namespace Go.Proofs.YtjhleocpipmklaaDoor
set_option linter.unusedSimpArgs false
set_option linter.unusedVariables false
set_option maxRecDepth 100000
open Go.ChangeShapes Go.WideShapes Go.ChangeAt Go.RowKit Go.Pin Go.Pat Go.Deep
/-- a list that lies somewhere in a block, up to the block's end -/
def OA (e : TypeId) (k : Nat) (v : Value) (n : Nat) (xs : List Value) (w : World) : Prop :=
  xs.length = n * k ∧ ((v = .slice none 0 0 ∧ n = 0) ∨ ∃ g o cap cur, v = .slice (some ⟨g, o, none⟩) n cap ∧ w.heap[g]? = some (.cells cur e (0, 0)) ∧ n ≤ cap ∧ cur.size = o + cap * k ∧ (cur.toList.drop o).take (n * k) = xs)
theorem OA.lt {e : TypeId} {k : Nat} {v : Value} {n : Nat} {xs : List Value} {w : World} (h : OA e k v n xs w) {g : Nat} (hg : v.ownBlock = some g) : g < w.heap.size := by
  rcases h.2 with ⟨rfl, _⟩ | ⟨g', o, cap, cur, rfl, h1, _⟩
  · cases hg
  · injection hg with hg
    subst hg
    exact (Array.getElem?_eq_some_iff.1 h1).1
theorem OA.keep {e : TypeId} {k : Nat} {v : Value} {n : Nat} {xs : List Value} {w w' : World} (h : OA e k v n xs w) (hk : ∀ g, v.ownBlock = some g → w'.heap[g]? = w.heap[g]?) : OA e k v n xs w' := by
  refine ⟨h.1, ?_⟩
  rcases h.2 with h1 | ⟨g, o, cap, cur, rfl, h1, h2⟩
  · exact .inl h1
  · exact .inr ⟨g, o, cap, cur, rfl, (hk g rfl).trans h1, h2⟩
theorem own_oa {b : Nat} {e : TypeId} {k : Nat} {v : Value} {n : Nat} {xs : List Value} {w : World} (h : w.ownsRow b e k v n xs) : OA e k v n xs w := by
  refine ⟨h.1, ?_⟩
  rcases h.2 with h1 | ⟨g, cap, cur, rfl, _, h1, h2, _, h3, h4⟩
  · exact .inl h1
  · exact .inr ⟨g, 0, cap, cur, rfl, h1, h2, by omega, by simpa using h4⟩
theorem OA.sl {e : TypeId} {k : Nat} {v : Value} {n : Nat} {xs : List Value} {w : World} (h : OA e k v n xs w) : ∃ a c, v = .slice a n c := by
  rcases h.2 with ⟨rfl, rfl⟩ | ⟨g, o, cap, cur, rfl, _⟩
  · exact ⟨_, _, rfl⟩
  · exact ⟨_, _, rfl⟩
theorem OA.cell {e : TypeId} {k : Nat} {a : Option Addr} {m c n : Nat} {xs : List Value} {w : World} (h : OA e k (.slice a m c) n xs w) {j : Nat} {u : Value} (hu : xs[j]? = some u) : m = n ∧ ∃ g o, a = some ⟨g, o, none⟩ ∧ w.cell? ⟨g, o + j, none⟩ = some u ∧ w.frozen? ⟨g, o + j, none⟩ = false := by
  rcases h.2 with ⟨h1, rfl⟩ | ⟨g, o, cap, cur, h1, h2, h3, h4, h5⟩
  · have := h.1
    simp at this
    subst this
    simp at hu
  · injection h1 with e1 e2 e3
    subst e1 e2 e3
    refine ⟨rfl, g, o, rfl, ?_, frozen_of_row _ _ _ _ _ h2⟩
    rw [cell_of_row _ _ _ _ _ _ h2]
    rw [← h5, List.getElem?_take] at hu
    split at hu
    · rw [List.getElem?_drop] at hu
      simpa using hu
    · cases hu
theorem run_append_off {P : Program} (w : World) (t ty e : TypeId) (i : TypeInfo) (ht : P.underlying t = some (.slice e)) (hi : P.info? e = some i)
    (g o sLen sCap : Nat) (cur : Array Value) (hg : w.heap[g]? = some (.cells cur e (0, 0)))
    (a : Addr) (m c : Nat) (news : List Value) (hl : news.length = m * i.size) (hnews : ∀ j u, news[j]? = some u → w.cell? (a.add j) = some u) (h1 : ∀ u ∈ news, u.oneCell' = true)
    (hroom : sLen + m ≤ sCap) (hfit : o + sLen * i.size + news.length ≤ cur.size) :
    (Builtin.append_ #[t, t] ty #[.slice (some ⟨g, o, none⟩) sLen sCap, .slice (some a) m c]).run P w =
      .ok (.slice (some ⟨g, o, none⟩) (sLen + m) sCap) (w.setRow g (cur.toList.take (o + sLen * i.size) ++ news ++ cur.toList.drop (o + sLen * i.size + news.length)).toArray) := by
  have hf := run_firstCells_some (P := P) w i.size m a m c news hl hnews
  have hst := run_storeCells_at P g (o + sLen * i.size) e news 0 cur w hg (by simpa using hfit) h1
  simp only [Nat.add_zero] at hst
  have hadd : (⟨g, o, none⟩ : Addr).add (sLen * i.size) = ⟨g, o + sLen * i.size, none⟩ := add_mid _ _ _
  simp [Builtin.append_, run_underlying ht, sizeOf, typeInfo, hi, Builtin.lenOf, hroom, hf, hadd, hst]
/-- what an append has done: in its place, or in new memory -/
def AppR (e : TypeId) (w : World) (v : Value) (n k : Nat) (v' : Value) (w' : World) : Prop :=
  (∃ g o cap cur cur', v = .slice (some ⟨g, o, none⟩) n cap ∧ v' = .slice (some ⟨g, o, none⟩) (n + 1) cap ∧ w.heap[g]? = some (.cells cur e (0, 0)) ∧ w'.heap[g]? = some (.cells cur' e (0, 0)) ∧ cur'.size = cur.size ∧ (∀ j, j < o + n * k → cur'[j]? = cur[j]?) ∧ w.grownBy w' (some g)) ∨
  ((∃ c, v' = .slice (some ⟨w.heap.size, 0, none⟩) (n + 1) c) ∧ Below w.heap.size w w')
theorem oa_app {t e : TypeId} {z : Value} {k by_ : Nat} (hU : Tryd.prog.underlying t = some (.slice e)) (hI : (Tryd.prog.info? e).map (fun i => (i.zero, i.size, i.bytes)) = some (some z, k, by_)) (hz : z.cells.size = k) (hk : 0 < k)
    {w : World} {v : Value} {n : Nat} {xs : List Value} (h : OA e k v n xs w) {a : Nat} {news : List Value} {t' : TypeId} {fr : Nat × Nat} (hc : w.heap[a]? = some (.cells news.toArray t' fr)) (hl : news.length = k) (h1 : ∀ u ∈ news, u.oneCell' = true) (hn : (n + 1) * by_ ≤ 140737488355328) (hn2 : n + 1 ≤ 140737488355328) :
    ∀ ty, ∃ v' w', (Builtin.append_ #[t, t] ty #[v, .slice (some ⟨a, 0, none⟩) 1 1]).run Tryd.prog w = .ok v' w' ∧ OA e k v' (n + 1) (xs ++ news) w' ∧ AppR e w v n k v' w' := fun ty => by
  obtain ⟨i, i1, hz'⟩ := Option.map_eq_some_iff.1 hI
  simp only [Prod.mk.injEq] at hz'
  obtain ⟨i2, i3, i4⟩ := hz'
  subst i3 i4
  have hnews : ∀ j u, news[j]? = some u → w.cell? ((⟨a, 0, none⟩ : Addr).add j) = some u := fun j u hu => by
    rw [add_mid, Nat.zero_add, cell_of_row _ _ _ _ _ _ hc, ← hu]; simp
  have hl1 : news.length = 1 * i.size := by rw [hl, Nat.one_mul]
  have h63 : n + 1 ≤ maxLen := by unfold maxLen; omega
  have hlen : (xs ++ news).length = (n + 1) * i.size := by rw [List.length_append, h.1, hl, Nat.add_mul, Nat.one_mul]
  have grown : ∀ (old : Nat), old < n + 1 → OA e i.size (.slice (some ⟨w.heap.size, 0, none⟩) (n + 1) (grownCap w (n + 1) old e)) (n + 1) (xs ++ news) (w.drew.alloc (.cells (xs.toArray ++ news.toArray ++ Builtin.zeroCells z.cells (grownCap w (n + 1) old e - (n + 1))) e)) := fun old ho => by
    have hge := grownCap_ge w (n + 1) old e
    refine ⟨hlen, .inr ⟨w.heap.size, 0, _, _, rfl, heap_alloc_new w.drew _, hge, ?_, ?_⟩⟩
    · simp only [Array.size_append, List.size_toArray, size_zeroCells, hz, h.1, hl, Nat.zero_add]
      rw [show n * i.size + i.size = (n + 1) * i.size by rw [Nat.add_mul, Nat.one_mul], ← Nat.add_mul]
      congr 1
      omega
    · simp only [Array.toList_append, List.append_assoc, List.drop_zero]
      rw [← List.append_assoc, ← hlen]
      exact List.take_left
  have hbn : ∀ o, Below w.heap.size w (w.drew.alloc o) := fun o => ((Below.refl _ w).drew).alloc (Nat.le_refl _) _
  rcases h.2 with ⟨rfl, rfl⟩ | ⟨g, o, cap, cur, rfl, h2, h3, h4, h5⟩
  · have hx : xs = [] := List.eq_nil_of_length_eq_zero (by simpa using h.1)
    subst hx
    have hr := run_append_nil (P := Tryd.prog) w t ty e i z hU i1 i2 ⟨a, 0, none⟩ 1 1 news hl1 hnews (by decide) (by decide) (by omega)
    have hg := grown 0 (by decide)
    simp only [Nat.zero_add, List.nil_append, Array.empty_append] at hg ⊢
    exact ⟨_, _, hr, hg, .inr ⟨⟨_, rfl⟩, hbn _⟩⟩
  · by_cases hroom : n + 1 ≤ cap
    · have hfit : o + n * i.size + news.length ≤ cur.size := by
        rw [hl, h4]
        have := Nat.mul_le_mul_right i.size hroom
        rw [Nat.add_mul, Nat.one_mul] at this
        omega
      have hr := run_append_off (P := Tryd.prog) w t ty e i hU i1 g o n cap cur h2 ⟨a, 0, none⟩ 1 1 news hl1 hnews h1 hroom hfit
      have hsz : (cur.toList.take (o + n * i.size) ++ news ++ cur.toList.drop (o + n * i.size + news.length)).toArray.size = cur.size := by
        simp only [List.size_toArray, List.length_append, List.length_take, List.length_drop, Array.length_toList]
        omega
      have hon : o + n * i.size ≤ cur.toList.length := by rw [Array.length_toList]; omega
      refine ⟨_, _, hr, ⟨hlen, .inr ⟨g, o, cap, _, rfl, setRow_heap w g cur _ e _ h2, hroom, by rw [hsz]; exact h4, ?_⟩⟩, .inl ⟨g, o, cap, cur, _, rfl, rfl, h2, setRow_heap w g cur _ e _ h2, hsz, fun j hj => ?_, ⟨rfl, rfl, rfl, by simp, fun k' _ hk' => setRow_other w g k' _ (fun e => hk' (by rw [e]))⟩⟩⟩
      · rw [List.append_assoc, List.drop_append_of_le_length (by rw [List.length_take]; omega), List.drop_take, show o + n * i.size - o = n * i.size by omega, h5, ← List.append_assoc, ← hlen]
        exact List.take_left
      · rw [List.getElem?_toArray, List.append_assoc, List.getElem?_append_left (by rw [List.length_take]; omega), List.getElem?_take_of_lt hj, Array.getElem?_toList]
    · have holds : ∀ j u, xs[j]? = some u → w.cell? ((⟨g, o, none⟩ : Addr).add j) = some u := fun j u hu => by
        obtain ⟨_, g', o', e1, hc', _⟩ := h.cell hu
        injection e1 with e1
        injection e1 with e1 e2
        subst e1 e2
        rw [add_mid]
        exact hc'
      have hr := run_append_grow (P := Tryd.prog) w t ty e i z hU i1 i2 ⟨g, o, none⟩ n cap xs h.1 holds ⟨a, 0, none⟩ 1 1 news hl1 hnews (by omega) (by simp only [maxLen] at h63; omega) (growslice_fits (by omega) hn)
      exact ⟨_, _, hr, grown cap (by omega), .inr ⟨⟨_, rfl⟩, hbn _⟩⟩
end Go.Proofs.YtjhleocpipmklaaDoor
namespace Go.Proofs.YtjhleocpipmklaaDoor
set_option linter.unusedSimpArgs false
set_option linter.unusedVariables false
set_option maxRecDepth 100000
open Go.ChangeShapes Go.WideShapes Go.ChangeAt Go.RowKit Go.Pin Go.Pat Go.Deep
/-- grades at the head of a block -/
def LvR (b c m : Nat) (l : List Gd) (w : World) : Prop := ∃ cur : Array Value, w.heap[b]? = some (.cells cur 48) ∧ cur.size = c * 3 ∧ m ≤ c ∧ l.length = m ∧ cur.toList.take (m * 3) = gcs l
section
variable {b c m : Nat} {l : List Gd} {w w' : World}
theorem LvR.keep (h : LvR b c m l w) (ho : w'.heap[b]? = w.heap[b]?) : LvR b c m l w' := by
  obtain ⟨cur, h1, h2⟩ := h
  exact ⟨cur, ho.trans h1, h2⟩
theorem LvR.lt (h : LvR b c m l w) : b < w.heap.size := by
  obtain ⟨cur, h1, _⟩ := h
  exact (Array.getElem?_eq_some_iff.1 h1).1
theorem LvR.below (h : LvR b c m l w) (hb : Below w.heap.size w w') : LvR b c m l w' := h.keep (hb.block _ h.lt)
theorem LvR.ne (h : LvR b c m l w) {r : Nat} {cs : Array Value} {t : TypeId} (hr : w.heap[r]? = some (.cells cs t)) (ht : t ≠ 48) : b ≠ r := fun e => by
  obtain ⟨cur, h1, _⟩ := h
  rw [e, hr] at h1
  injection h1 with h1
  injection h1 with _ h1
  exact ht h1
theorem LvR.ofG {n : Nat} {gs : List Gd} (h : LvG b n gs w) (hl : gs.length = n) : LvR b n n gs w := by
  obtain ⟨cur, h1, h2, h3⟩ := h
  exact ⟨cur, h1, h2, Nat.le_refl _, hl, by rw [hl] at h3; exact h3⟩
theorem LvR.own (h : LvR b c m l w) (hm : c ≤ maxLen) : w.ownsRow 0 48 3 (.slice (some ⟨b, 0, none⟩) m c) m (gcs l) := by
  obtain ⟨cur, h1, h2, h3, h4, h5⟩ := h
  exact ⟨by rw [gcs_length, h4], .inr ⟨b, c, cur, rfl, Nat.zero_le _, h1, h3, hm, h2, h5⟩⟩
theorem LvR.oa (h : LvR b c m l w) : OA 48 3 (.slice (some ⟨b, 0, none⟩) m c) m (gcs l) w := by
  obtain ⟨cur, h1, h2, h3, h4, h5⟩ := h
  exact ⟨by rw [gcs_length, h4], .inr ⟨b, 0, c, cur, rfl, h1, h3, by omega, by simpa using h5⟩⟩
theorem LvR.ofOA {v : Value} {g : Nat} (h : OA 48 3 v m (gcs l) w) (hv : ∃ cc, v = .slice (some ⟨g, 0, none⟩) m cc) : ∃ cc, v = .slice (some ⟨g, 0, none⟩) m cc ∧ LvR g cc m l w := by
  obtain ⟨cc, rfl⟩ := hv
  have hl := h.1
  rw [gcs_length] at hl
  rcases h.2 with ⟨e, _⟩ | ⟨g', o, cap, cur, e, h1, h2, h3, h4⟩
  · cases e
  · injection e with e1 e2 e3
    injection e1 with e1
    injection e1 with e1 e4
    subst e1 e3 e4
    exact ⟨_, rfl, cur, h1, by omega, h2, by omega, by simpa using h4⟩
theorem LvR.rd (h : LvR b c m l w) (hm : m ≤ 140737488355328) (hc : c ≤ maxLen) : RdG w (.slice (some ⟨b, 0, none⟩) m c) l := by
  have hl : l.length = m := by obtain ⟨_, _, _, _, h4, _⟩ := h; exact h4
  have := own_rd (h.own hc) (by omega)
  exact this
theorem gcs_at3 : ∀ (l : List Gd) (j : Nat), j < l.length → (gcs l)[j * 3]? = some (.int .i64 (l.getD j (0, 0, 0)).1) ∧ (gcs l)[j * 3 + 1]? = some (.int .i64 (l.getD j (0, 0, 0)).2.1) ∧ (gcs l)[j * 3 + 2]? = some (.int .i64 (l.getD j (0, 0, 0)).2.2)
  | [], j, h => by simp at h
  | g :: r, 0, _ => by simp [gcs]
  | g :: r, j + 1, h => by
    have := gcs_at3 r j (by simpa using h)
    have e : gcs (g :: r) = .int .i64 g.1 :: .int .i64 g.2.1 :: .int .i64 g.2.2 :: gcs r := by simp [gcs]
    rw [e, show (j + 1) * 3 = j * 3 + 1 + 1 + 1 by omega]
    simpa using this
theorem LvR.cells (h : LvR b c m l w) {j : Nat} (hj : j < m) : w.cell? ⟨b, j * 3, none⟩ = some (.int .i64 (l.getD j (0, 0, 0)).1) ∧ w.cell? ⟨b, j * 3 + 1, none⟩ = some (.int .i64 (l.getD j (0, 0, 0)).2.1) ∧ w.cell? ⟨b, j * 3 + 2, none⟩ = some (.int .i64 (l.getD j (0, 0, 0)).2.2) := by
  obtain ⟨cur, h1, h2, h3, h4, h5⟩ := h
  have hg := gcs_at3 l j (by omega)
  have hc : ∀ i, i < m * 3 → w.cell? ⟨b, i, none⟩ = (gcs l)[i]? := fun i hi => by
    rw [cell_of_row _ _ _ _ _ _ h1, ← h5, List.getElem?_take_of_lt hi]; simp
  rw [hc _ (by omega), hc _ (by omega), hc _ (by omega)]
  exact hg
theorem LvR.there (h : LvR b c m l w) {j : Nat} (hj : j < m) : w.there b (j * 3) 3 := by
  obtain ⟨cur, h1, h2, h3, h4, h5⟩ := h
  intro k hk
  refine ⟨?_, frozen_of_row _ _ _ _ _ h1⟩
  rw [cell_of_row _ _ _ _ _ _ h1]
  simp
  omega
theorem gcs_set (l : List Gd) (j : Nat) (g : Gd) : gcs (l.set j g) = (((gcs l).set (j * 3) (.int .i64 g.1)).set (j * 3 + 1) (.int .i64 g.2.1)).set (j * 3 + 2) (.int .i64 g.2.2) := by
  induction l generalizing j with
  | nil => simp [gcs]
  | cons x r ih =>
    cases j with
    | zero => simp [gcs]
    | succ j =>
      have e : ∀ (y : Gd) (q : List Gd), gcs (y :: q) = .int .i64 y.1 :: .int .i64 y.2.1 :: .int .i64 y.2.2 :: gcs q := fun y q => by simp [gcs]
      rw [List.set_cons_succ, e, e, ih, show (j + 1) * 3 = j * 3 + 1 + 1 + 1 by omega]
      simp [Nat.add_assoc]
theorem LvR.set (h : LvR b c m l w) {j : Nat} (hj : j < m) (g : Gd) : LvR b c m (l.set j g) (w.setCells b (j * 3) [.int .i64 g.1, .int .i64 g.2.1, .int .i64 g.2.2]) := by
  obtain ⟨cur, h1, h2, h3, h4, h5⟩ := h
  have e1 := heap_setCell_same w b (j * 3) _ _ (.int .i64 g.1) h1
  have e2 := heap_setCell_same _ b (j * 3 + 1) _ _ (.int .i64 g.2.1) e1
  have e3 := heap_setCell_same _ b (j * 3 + 1 + 1) _ _ (.int .i64 g.2.2) e2
  refine ⟨_, e3, by simp [h2], h3, by simp [h4], ?_⟩
  rw [gcs_set, ← h5]
  simp only [Array.toList_setIfInBounds, List.take_set]
/-- an append of one: in its place, or in new memory -/
theorem LvR.app (h : LvR b c m l w) (hm : m ≤ 1000000) (g : Gd) :
    ∀ ty, ∃ v' w', (Builtin.append_ #[30, 30] ty #[.slice (some ⟨b, 0, none⟩) m c, .slice (some ⟨w.heap.size, 0, none⟩) 1 1]).run Tryd.prog (w.alloc (.cells #[.int .i64 g.1, .int .i64 g.2.1, .int .i64 g.2.2] 48)) = .ok v' w' ∧
      ((v' = .slice (some ⟨b, 0, none⟩) (m + 1) c ∧ m + 1 ≤ c ∧ LvR b c (m + 1) (l ++ [g]) w' ∧ (w.alloc (.cells #[.int .i64 g.1, .int .i64 g.2.1, .int .i64 g.2.2] 48)).grownBy w' (some b)) ∨
       (∃ c', v' = .slice (some ⟨w.heap.size + 1, 0, none⟩) (m + 1) c' ∧ LvR (w.heap.size + 1) c' (m + 1) (l ++ [g]) w' ∧ Below w.heap.size w w')) := fun ty => by
  have hb : Below w.heap.size w (w.alloc (.cells #[.int .i64 g.1, .int .i64 g.2.1, .int .i64 g.2.2] 48)) := (Below.refl _ _).alloc (Nat.le_refl _) _
  have h1 := h.below hb
  obtain ⟨v', w', hr, ho, ha⟩ := oa_app Tryd.underlying30 parts_g rfl (by decide) h1.oa (news := [.int .i64 g.1, .int .i64 g.2.1, .int .i64 g.2.2]) (heap_alloc_new w _) rfl (fun u hu => by simp at hu; rcases hu with rfl | rfl | rfl <;> rfl) (by omega) (by omega) ty
  rw [← gcs_snoc] at ho
  refine ⟨v', w', hr, ?_⟩
  rcases ha with ⟨g', o, cap, cur, cur', e1, e2, h2, h3, h4, h5, h6⟩ | ⟨e1, h2⟩
  · injection e1 with e1 e3 e4
    injection e1 with e1
    injection e1 with e1 e5
    subst e1 e4 e5
    obtain ⟨cc, ec, hc⟩ := LvR.ofOA ho ⟨_, e2⟩
    have ecc : cc = c := by rw [e2] at ec; injection ec with _ _ ec; exact ec.symm
    subst ecc
    have := hc
    obtain ⟨_, _, _, hle, _, _⟩ := this
    exact .inl ⟨e2, hle, hc, h6⟩
  · rw [size_alloc] at e1 h2
    obtain ⟨cc, ec, hc⟩ := LvR.ofOA ho e1
    exact .inr ⟨cc, ec, hc, hb.trans (h2.mono (Nat.le_succ _))⟩
end
/-- GradeOwn's four answers in their row, and what was copied of the first -/
structure GS (q R : Nat) (W : World) (nm : ByteArray) (v0 v1 vl : Value) (gw cw n : Nat) (gs : List Gd) (k : Nat) (b : Nat → Nat) (l : Nat → List Gd) (cs : List Value) (w : World) : Prop where
  pb : PB q W nm v0 v1 vl w
  qr : q < R
  bx : w.heap[R]? = some (.cells cs.toArray 55)
  cl : cs.length = 4
  cv : ∀ i, i < k → cs[i]? = some (.slice (some ⟨b i, 0, none⟩) n n)
  wt : LvR gw cw n gs w
  gr : ∀ i, i < k → LvR (b i) n n (l i) w
  bw : ∀ i, i < k → b i ≠ gw
  ne : ∀ i j, i < k → j < k → i ≠ j → b i ≠ b j
  up : ∀ i, i < k → q ≤ b i
section
variable {q R : Nat} {W : World} {nm : ByteArray} {v0 v1 vl : Value} {gw cw n : Nat} {gs : List Gd} {k : Nat} {b : Nat → Nat} {l : Nat → List Gd} {cs : List Value} {w w' : World}
theorem GS.below (h : GS q R W nm v0 v1 vl gw cw n gs k b l cs w) (hb : Below w.heap.size w w') : GS q R W nm v0 v1 vl gw cw n gs k b l cs w' :=
  ⟨h.pb.below hb, h.qr, (hb.block _ (Array.getElem?_eq_some_iff.1 h.bx).1).trans h.bx, h.cl, h.cv, h.wt.below hb, fun i hi => (h.gr i hi).below hb, h.bw, h.ne, h.up⟩
/-- blocks that are none of these are written -/
theorem GS.keep (h : GS q R W nm v0 v1 vl gw cw n gs k b l cs w) (hb : Below q W w') (hz : q < w'.heap.size) (hq : w'.heap[q]? = w.heap[q]?) (hR : w'.heap[R]? = w.heap[R]?) (hw : w'.heap[gw]? = w.heap[gw]?) (hg : ∀ i, i < k → w'.heap[b i]? = w.heap[b i]?) : GS q R W nm v0 v1 vl gw cw n gs k b l cs w' :=
  ⟨⟨hb, hz, hq.trans h.pb.row⟩, h.qr, hR.trans h.bx, h.cl, h.cv, h.wt.keep hw, fun i hi => (h.gr i hi).keep (hg i hi), h.bw, h.ne, h.up⟩
theorem GS.cell (h : GS q R W nm v0 v1 vl gw cw n gs k b l cs w) {i : Nat} (hi : i < k) : w.cell? ⟨R, i, none⟩ = some (.slice (some ⟨b i, 0, none⟩) n n) := by
  rw [cell_of_row _ _ _ _ _ _ h.bx, List.getElem?_toArray]; exact h.cv i hi
theorem GS.there (h : GS q R W nm v0 v1 vl gw cw n gs k b l cs w) {i : Nat} (hi : i < 4) : (∃ x, w.cell? ⟨R, i, none⟩ = some x) ∧ w.frozen? ⟨R, i, none⟩ = false := by
  refine ⟨?_, frozen_of_row _ _ _ _ _ h.bx⟩
  rw [cell_of_row _ _ _ _ _ _ h.bx, List.getElem?_toArray, List.getElem?_eq_getElem (by rw [h.cl]; exact hi)]
  exact ⟨_, rfl⟩
def upd {α : Type} (f : Nat → α) (i : Nat) (x : α) : Nat → α := fun j => if j = i then x else f j
theorem upd_same {α : Type} (f : Nat → α) (i : Nat) (x : α) : upd f i x i = x := by simp [upd]
theorem upd_other {α : Type} (f : Nat → α) {i j : Nat} (x : α) (h : j ≠ i) : upd f i x j = f j := by simp [upd, h]
/-- another answer is put into the row -/
theorem GS.put (h : GS q R W nm v0 v1 vl gw cw n gs k b l cs w) (hk : k < 4) {g : Nat} {m : List Gd} (hg : LvR g n n m w) (h1 : g ≠ gw) (h2 : ∀ i, i < k → b i ≠ g) (h3 : q ≤ g) :
    GS q R W nm v0 v1 vl gw cw n gs (k + 1) (upd b k g) (upd l k m) (cs.set k (.slice (some ⟨g, 0, none⟩) n n)) (w.setCell ⟨R, k, none⟩ (.slice (some ⟨g, 0, none⟩) n n)) := by
  have ho : ∀ x, x ≠ R → (w.setCell ⟨R, k, none⟩ (.slice (some ⟨g, 0, none⟩) n n)).heap[x]? = w.heap[x]? := fun x hne => heap_setCell_other _ _ _ _ hne
  have hq := h.qr
  have hT : 55 ≠ 48 := by decide
  refine ⟨⟨h.pb.old.setCell (p := ⟨R, k, none⟩) (by show q ≤ R; omega) _, by rw [World.size_setCell]; exact h.pb.lt, (ho _ (by omega)).trans h.pb.row⟩, h.qr, ?_, by simp [h.cl], fun i hi => ?_, h.wt.keep (ho _ (h.wt.ne h.bx hT)), fun i hi => ?_, fun i hi => ?_, fun i j hi hj hij => ?_, fun i hi => ?_⟩
  · rw [heap_setCell_same _ _ _ _ _ _ h.bx]; simp
  · by_cases e : i = k
    · subst e; rw [upd_same, List.getElem?_set_self (by rw [h.cl]; exact hk)]
    · rw [upd_other _ _ e, List.getElem?_set_ne (fun h => e h.symm)]; exact h.cv i (by omega)
  · by_cases e : i = k
    · subst e; rw [upd_same, upd_same]; exact hg.keep (ho _ (hg.ne h.bx hT))
    · rw [upd_other _ _ e, upd_other _ _ e]; exact (h.gr i (by omega)).keep (ho _ ((h.gr i (by omega)).ne h.bx hT))
  · by_cases e : i = k
    · subst e; rw [upd_same]; exact h1
    · rw [upd_other _ _ e]; exact h.bw i (by omega)
  · by_cases e : i = k
    · subst e; rw [upd_same, upd_other _ _ (fun h => hij h.symm)]; exact (h2 j (by omega)).symm
    · rw [upd_other _ _ e]
      by_cases e' : j = k
      · subst e'; rw [upd_same]; exact h2 i (by omega)
      · rw [upd_other _ _ e']; exact h.ne i j (by omega) (by omega) hij
  · by_cases e : i = k
    · subst e; rw [upd_same]; exact h3
    · rw [upd_other _ _ e]; exact h.up i (by omega)
/-- an answer is written to -/
theorem GS.mark (h : GS q R W nm v0 v1 vl gw cw n gs k b l cs w) {i j : Nat} (hi : i < k) (hj : j < n) (g : Gd) :
    GS q R W nm v0 v1 vl gw cw n gs k b (upd l i ((l i).set j g)) cs (w.setCells (b i) (j * 3) [.int .i64 g.1, .int .i64 g.2.1, .int .i64 g.2.2]) := by
  have ho : ∀ x, x ≠ b i → (w.setCells (b i) (j * 3) [.int .i64 g.1, .int .i64 g.2.1, .int .i64 g.2.2]).heap[x]? = w.heap[x]? := fun x hne => setCells3_other _ _ _ _ _ _ _ hne
  have hne := fun {r : Nat} {ds : Array Value} {t : TypeId} (hr : w.heap[r]? = some (.cells ds t)) (ht : t ≠ 48) => (h.gr i hi).ne hr ht
  refine ⟨⟨setCells3_below h.pb.old _ _ _ _ _ (h.up i hi), by rw [setCells3_size]; exact h.pb.lt, (ho _ (hne h.pb.row (by decide)).symm).trans h.pb.row⟩, h.qr, (ho _ (hne h.bx (by decide)).symm).trans h.bx, h.cl, h.cv, h.wt.keep (ho _ (h.bw i hi).symm), fun x hx => ?_, h.bw, h.ne, h.up⟩
  by_cases e : x = i
  · subst e; rw [upd_same]; exact (h.gr x hi).set hj g
  · rw [upd_other _ _ e]; exact (h.gr x hx).keep (ho _ (h.ne x i hx hi e))
end
/-- append to an empty list -/
theorem LvR.copy {g n : Nat} {gs : List Gd} {w : World} (h : LvR g n n gs w) (hn : n ≤ 1000000) :
    ∀ ty, ∃ v' w', (Builtin.append_ #[30, 30] ty #[.slice (some ⟨w.heap.size, 0, none⟩) 0 0, .slice (some ⟨g, 0, none⟩) n n]).run Tryd.prog (w.alloc (.cells #[] 48)) = .ok v' w' ∧
      (Below w.heap.size w w' ∧ w'.ownsRow w.heap.size 48 3 v' n (gcs gs)) := fun ty => by
  obtain ⟨i, i1, hz'⟩ := Option.map_eq_some_iff.1 parts_g
  simp only [Prod.mk.injEq] at hz'
  obtain ⟨i2, i3, i4⟩ := hz'
  have hb : Below w.heap.size w (w.alloc (.cells #[] 48)) := (Below.refl _ _).alloc (Nat.le_refl _) _
  have h1 := h.below hb
  have hown : (w.alloc (.cells #[] 48)).ownsRow w.heap.size 48 3 (.slice (some ⟨w.heap.size, 0, none⟩) 0 0) 0 [] :=
    ⟨rfl, .inr ⟨w.heap.size, 0, #[], rfl, Nat.le_refl _, heap_alloc_new _ _, Nat.le_refl _, by unfold maxLen; omega, rfl, rfl⟩⟩
  have hl : gs.length = n := by obtain ⟨_, _, _, _, h4, _⟩ := h; exact h4
  obtain ⟨v', w', hr, h2, h3, _, h5⟩ := run_append_own_at (P := Tryd.prog) _ w.heap.size 30 ty 48 i _ 3 24 Tryd.underlying30 i1 i2 i3 i4 rfl (by decide) _ 0 [] hown ⟨g, 0, none⟩ n n (gcs gs) (by rw [gcs_length, hl]) (fun j u hu => by
    obtain ⟨cur, e1, e2, e3, e4, e5⟩ := h1
    have hj : j < n * 3 := by have := (List.getElem?_eq_some_iff.1 hu).1; rw [gcs_length, hl] at this; exact this
    rw [add_mid, Nat.zero_add, cell_of_row _ _ _ _ _ _ e1, ← hu, ← e5, List.getElem?_take_of_lt hj]; simp) (fun u hu => by
    simp only [gcs, List.mem_flatMap] at hu
    obtain ⟨g', _, hu⟩ := hu
    simp at hu
    rcases hu with rfl | rfl | rfl <;> rfl) (by unfold maxLen; omega) (by omega) (by rw [size_alloc]; omega)
  refine ⟨v', w', hr, hb.grown h3 (by rw [size_alloc]; omega) (fun k hk => ?_), by simpa using h2⟩
  have hk' : some w.heap.size = some k := hk
  injection hk' with hk'
  omega
theorem LvR.ofOwn {B n : Nat} {v : Value} {gs : List Gd} {w : World} (h : w.ownsRow B 48 3 v n (gcs gs)) (hn : 0 < n) : ∃ g c, v = .slice (some ⟨g, 0, none⟩) n c ∧ B ≤ g ∧ c ≤ maxLen ∧ LvR g c n gs w := by
  have hl := h.1
  rw [gcs_length] at hl
  rcases h.2 with ⟨_, e⟩ | ⟨g, c, cur, e, h1, h2, h3, h4, h5, h6⟩
  · omega
  · exact ⟨g, c, e, h1, h4, cur, h2, h5, h3, by omega, h6⟩
end Go.Proofs.YtjhleocpipmklaaDoor
namespace Go.Proofs.YtjhleocpipmklaaDoor
set_option linter.unusedSimpArgs false
set_option linter.unusedVariables false
set_option maxRecDepth 100000
open Go.ChangeShapes Go.WideShapes Go.ChangeAt Go.RowKit Go.Pin Go.Pat Go.Deep
/-- marks -/
def mk1 (i : Nat) : Gd := (100 + (i : Int), 0, 0)
def mk2 (i : Nat) : Gd := (200 + (i : Int), 0, 0)
/-- the longer lists in their row -/
structure GT (q R2 n gw : Nat) (b : Nat → Nat) (m : Nat) (h c : Nat → Nat) (ds : List Value) (w : World) : Prop where
  bx : w.heap[R2]? = some (.cells ds.toArray 55)
  cl : ds.length = 4
  cv : ∀ i, i < m → ds[i]? = some (.slice (some ⟨h i, 0, none⟩) (n + 70) (c i))
  hr : ∀ i, i < m → LvR (h i) (c i) (n + 70) (List.replicate n (mk1 i) ++ List.replicate 70 (mk2 i)) w
  hw : ∀ i, i < m → h i ≠ gw
  hb : ∀ i j, i < m → j < 4 → h i ≠ b j
  hh : ∀ i j, i < m → j < m → i ≠ j → h i ≠ h j
/-- the list that is being made longer -/
def GC (q gw n : Nat) (b h : Nat → Nat) (i j : Nat) (v : Value) (w : World) : Prop :=
  (j = 0 ∧ v = .slice (some ⟨b i, 0, none⟩) n n) ∨ ∃ g c, v = .slice (some ⟨g, 0, none⟩) (n + j) c ∧ LvR g c (n + j) (List.replicate n (mk1 i) ++ List.replicate j (mk2 i)) w ∧ g ≠ gw ∧ (∀ x, x < 4 → g ≠ b x) ∧ (∀ x, x < i → g ≠ h x) ∧ q ≤ g
section
variable {q R R2 : Nat} {W : World} {nm : ByteArray} {v0 v1 vl : Value} {gw cw n : Nat} {gs : List Gd} {b h c : Nat → Nat} {l : Nat → List Gd} {cs ds : List Value} {w w' : World} {m i j : Nat} {v : Value}
theorem GT.keep (t : GT q R2 n gw b m h c ds w) (h1 : w'.heap[R2]? = w.heap[R2]?) (h2 : ∀ i, i < m → w'.heap[h i]? = w.heap[h i]?) : GT q R2 n gw b m h c ds w' :=
  ⟨h1.trans t.bx, t.cl, t.cv, fun i hi => (t.hr i hi).keep (h2 i hi), t.hw, t.hb, t.hh⟩
theorem GT.lt (t : GT q R2 n gw b m h c ds w) : R2 < w.heap.size := (Array.getElem?_eq_some_iff.1 t.bx).1
theorem GT.below (t : GT q R2 n gw b m h c ds w) (hb : Below w.heap.size w w') : GT q R2 n gw b m h c ds w' :=
  t.keep (hb.block _ t.lt) (fun i hi => hb.block _ (t.hr i hi).lt)
theorem GC.below (g : GC q gw n b h i j v w) (hb : Below w.heap.size w w') : GC q gw n b h i j v w' := by
  rcases g with g | ⟨g, c, h1, h2, h3⟩
  · exact .inl g
  · exact .inr ⟨g, c, h1, h2.below hb, h3⟩
theorem GC.sl (g : GC q gw n b h i j v w) : ∃ a k, v = .slice (some a) (n + j) k := by
  rcases g with ⟨rfl, rfl⟩ | ⟨g, c, h1, h2, h3⟩
  · exact ⟨_, _, rfl⟩
  · exact ⟨_, _, h1⟩
theorem GC.app (s : GS q R W nm v0 v1 vl gw cw n gs 4 b l cs w) (hl : l i = List.replicate n (mk1 i)) (t : GT q R2 n gw b i h c ds w) (g : GC q gw n b h i j v w) (hi : i < 4) (hn : n ≤ 100) (hj : j < 70) :
    ∀ ty, ∃ v' w', (Builtin.append_ #[30, 30] ty #[v, .slice (some ⟨w.heap.size, 0, none⟩) 1 1]).run Tryd.prog (w.alloc (.cells #[.int .i64 (200 + (i : Int)), .int .i64 0, .int .i64 0] 48)) = .ok v' w' ∧
      (GS q R W nm v0 v1 vl gw cw n gs 4 b l cs w' ∧ GT q R2 n gw b i h c ds w' ∧ GC q gw n b h i (j + 1) v' w') := fun ty => by
  have fresh : ∀ {c' : Nat} {w' : World}, Below w.heap.size w w' → LvR (w.heap.size + 1) c' (n + (j + 1)) (List.replicate n (mk1 i) ++ List.replicate (j + 1) (mk2 i)) w' → GC q gw n b h i (j + 1) (.slice (some ⟨w.heap.size + 1, 0, none⟩) (n + (j + 1)) c') w' := fun hb hr =>
    .inr ⟨_, _, rfl, hr, by have := s.wt.lt; omega, fun x hx => by have := (s.gr x hx).lt; omega, fun x hx => by have := (t.hr x hx).lt; omega, by have := s.pb.lt; omega⟩
  rcases g with ⟨rfl, rfl⟩ | ⟨g, c', rfl, h2, h3, h4, h5, h6⟩
  · have hr := s.gr i hi
    rw [hl] at hr
    obtain ⟨v', w', e1, e2⟩ := hr.app (by omega) (mk2 i) ty
    refine ⟨v', w', e1, ?_⟩
    rcases e2 with ⟨_, hc, _⟩ | ⟨c'', rfl, hr', hb⟩
    · omega
    · exact ⟨s.below hb, t.below hb, fresh hb hr'⟩
  · obtain ⟨v', w', e1, e2⟩ := h2.app (by omega) (mk2 i) ty
    rw [List.append_assoc, ← List.replicate_succ'] at e2
    refine ⟨v', w', e1, ?_⟩
    rcases e2 with ⟨rfl, hc, hr', hgr⟩ | ⟨c'', rfl, hr', hb⟩
    · have hT : 55 ≠ 48 := by decide
      have hT2 : 26 ≠ 48 := by decide
      have hba : Below w.heap.size w (w.alloc (.cells #[.int .i64 (mk2 i).1, .int .i64 (mk2 i).2.1, .int .i64 (mk2 i).2.2] 48)) := (Below.refl _ _).alloc (Nat.le_refl _) _
      have ho : ∀ k, k < w.heap.size → k ≠ g → w'.heap[k]? = w.heap[k]? := fun k hk hne => (hgr.block k (by rw [size_alloc]; omega) (fun e => hne (by injection e))).trans (hba.block k hk)
      have hs2 := s.below hba
      have hsz : w.heap.size ≤ w'.heap.size := Nat.le_trans hba.size hgr.size
      refine ⟨s.keep (hs2.pb.old.grown hgr (Nat.le_of_lt hs2.pb.lt) (fun k hk => by injection hk with hk; omega)) (by have := s.pb.lt; omega) (ho _ s.pb.lt (h2.ne s.pb.row hT2).symm) (ho _ (Array.getElem?_eq_some_iff.1 s.bx).1 (h2.ne s.bx hT).symm) (ho _ s.wt.lt h3.symm) (fun x hx => ho _ (s.gr x hx).lt (h4 x hx).symm), t.keep (ho _ t.lt (h2.ne t.bx hT).symm) (fun x hx => ho _ (t.hr x hx).lt (h5 x hx).symm), .inr ⟨g, c', rfl, hr', h3, h4, h5, h6⟩⟩
    · exact ⟨s.below hb, t.below hb, fresh hb hr'⟩
/-- the row's cell is set -/
theorem GS.box (s : GS q R W nm v0 v1 vl gw cw n gs 4 b l cs w) (hx : w.heap[R2]? = some (.cells ds.toArray 55)) (hR : R < R2) (i : Nat) (v : Value) : GS q R W nm v0 v1 vl gw cw n gs 4 b l cs (w.setCell ⟨R2, i, none⟩ v) := by
  have ho : ∀ k, k ≠ R2 → (w.setCell ⟨R2, i, none⟩ v).heap[k]? = w.heap[k]? := fun k hne => heap_setCell_other _ _ _ _ hne
  have hT : 55 ≠ 48 := by decide
  have hq := s.qr
  exact s.keep (s.pb.old.setCell (p := ⟨R2, i, none⟩) (by show q ≤ R2; omega) _) (by rw [World.size_setCell]; exact s.pb.lt) (ho _ (by omega)) (ho _ (by omega)) (ho _ (s.wt.ne hx hT)) (fun x hx' => ho _ ((s.gr x hx').ne hx hT))
theorem GT.box (t : GT q R2 n gw b i h c ds w) (v : Value) : GT q R2 n gw b i h c (ds.set i v) (w.setCell ⟨R2, i, none⟩ v) := by
  have ho : ∀ k, k ≠ R2 → (w.setCell ⟨R2, i, none⟩ v).heap[k]? = w.heap[k]? := fun k hne => heap_setCell_other _ _ _ _ hne
  have hT : 55 ≠ 48 := by decide
  refine ⟨?_, by simp [t.cl], fun x hx => ?_, fun x hx => (t.hr x hx).keep (ho _ ((t.hr x hx).ne t.bx hT)), t.hw, t.hb, t.hh⟩
  · rw [heap_setCell_same _ _ _ _ _ _ t.bx]; simp
  · rw [List.getElem?_set_ne (by omega)]; exact t.cv x hx
theorem GC.box (g : GC q gw n b h i j v w) {ds : List Value} (hx : w.heap[R2]? = some (.cells ds.toArray 55)) (k : Nat) (u : Value) : GC q gw n b h i j v (w.setCell ⟨R2, k, none⟩ u) := by
  have ho : ∀ k', k' ≠ R2 → (w.setCell ⟨R2, k, none⟩ u).heap[k']? = w.heap[k']? := fun k' hne => heap_setCell_other _ _ _ _ hne
  have hT : 55 ≠ 48 := by decide
  rcases g with g | ⟨g, c, h1, h2, h3⟩
  · exact .inl g
  · exact .inr ⟨g, c, h1, h2.keep (ho _ (h2.ne hx hT)), h3⟩
/-- one is whole -/
theorem GT.next (t : GT q R2 n gw b i h c ds w) (g : GC q gw n b h i 70 v w) (hv : ds[i]? = some v) : ∃ h' c', GT q R2 n gw b (i + 1) h' c' ds w := by
  rcases g with ⟨h0, _⟩ | ⟨g, c', rfl, h2, h3, h4, h5, h6⟩
  · cases h0
  · refine ⟨upd h i g, upd c i c', t.bx, t.cl, fun x hx => ?_, fun x hx => ?_, fun x hx => ?_, fun x y hx hy => ?_, fun x y hx hy hxy => ?_⟩
    · by_cases e : x = i
      · subst e; rw [upd_same, upd_same]; exact hv
      · rw [upd_other _ _ e, upd_other _ _ e]; exact t.cv x (by omega)
    · by_cases e : x = i
      · subst e; rw [upd_same, upd_same]; exact h2
      · rw [upd_other _ _ e, upd_other _ _ e]; exact t.hr x (by omega)
    · by_cases e : x = i
      · subst e; rw [upd_same]; exact h3
      · rw [upd_other _ _ e]; exact t.hw x (by omega)
    · by_cases e : x = i
      · subst e; rw [upd_same]; exact h4 y hy
      · rw [upd_other _ _ e]; exact t.hb x y (by omega) hy
    · by_cases e : x = i
      · subst e; rw [upd_same, upd_other _ _ (fun h => hxy h.symm)]; exact h5 y (by omega)
      · rw [upd_other _ _ e]
        by_cases e' : y = i
        · subst e'; rw [upd_same]; exact (h5 x (by omega)).symm
        · rw [upd_other _ _ e']; exact t.hh x y (by omega) (by omega) hxy
theorem GT.cell (t : GT q R2 n gw b m h c ds w) {i : Nat} (hi : i < 4) : (∃ x, w.cell? ⟨R2, i, none⟩ = some x ∧ ds[i]? = some x) ∧ w.frozen? ⟨R2, i, none⟩ = false := by
  refine ⟨?_, frozen_of_row _ _ _ _ _ t.bx⟩
  rw [cell_of_row _ _ _ _ _ _ t.bx, List.getElem?_toArray, List.getElem?_eq_getElem (by rw [t.cl]; exact hi)]
  exact ⟨_, rfl, rfl⟩
theorem GT.at (t : GT q R2 n gw b m h c ds w) {i : Nat} {x : Value} (hx : ds[i]? = some x) : w.cell? ⟨R2, i, none⟩ = some x := by
  rw [cell_of_row _ _ _ _ _ _ t.bx, List.getElem?_toArray]; exact hx
end
end Go.Proofs.YtjhleocpipmklaaDoor
