import Derived.Maps.AppendAt
import Derived.Test.YtpfidohkohldaaaGreatDoorMqab
import Derived.Test.YtpfidohkohldaaaGreatDoorMqas
import Derived.Test.YtpfidohkohldaaaGreatDoorMqaq
namespace Go.Proofs.YtpfidohkohldaaaGreatDoor
set_option linter.unusedSimpArgs false
set_option linter.unusedVariables false
set_option maxRecDepth 100000
open Go.ChangeShapes Go.WideShapes Go.ChangeAt Go.RowKit Go.Pin Go.Pat Go.Deep
/-- a list that lies somewhere in a block, up to the block's end -/
def OA (e : TypeId) (k : Nat) (v : Value) (n : Nat) (xs : List Value) (w : World) : Prop :=
  xs.length = n * k ∧ ((v = .slice none 0 0 ∧ n = 0) ∨ ∃ g o cap cur, v = .slice (some ⟨g, o, none⟩) n cap ∧ w.heap[g]? = some (.cells cur e (0, 0)) ∧ n ≤ cap ∧ cur.size = o + cap * k ∧ (cur.toList.drop o).take (n * k) = xs)
theorem OA.lt {e : TypeId} {k : Nat} {v : Value} {n : Nat} {xs : List Value} {w : World} (h : OA e k v n xs w) {g : Nat} (hg : v.ownBlock = some g) : g < w.heap.size := by
  rcases h.2 with ⟨rfl, _⟩ | ⟨g', o, cap, cur, rfl, h1, _⟩
  · cases hg
  · injection hg with hg
    subst hg
    exact (Array.getElem?_eq_some_iff.1 h1).1
theorem OA.keep {e : TypeId} {k : Nat} {v : Value} {n : Nat} {xs : List Value} {w w' : World} (h : OA e k v n xs w) (hk : ∀ g, v.ownBlock = some g → w'.heap[g]? = w.heap[g]?) : OA e k v n xs w' := by
  refine ⟨h.1, ?_⟩
  rcases h.2 with h1 | ⟨g, o, cap, cur, rfl, h1, h2⟩
  · exact .inl h1
  · exact .inr ⟨g, o, cap, cur, rfl, (hk g rfl).trans h1, h2⟩
theorem own_oa {b : Nat} {e : TypeId} {k : Nat} {v : Value} {n : Nat} {xs : List Value} {w : World} (h : w.ownsRow b e k v n xs) : OA e k v n xs w := by
  refine ⟨h.1, ?_⟩
  rcases h.2 with h1 | ⟨g, cap, cur, rfl, _, h1, h2, _, h3, h4⟩
  · exact .inl h1
  · exact .inr ⟨g, 0, cap, cur, rfl, h1, h2, by omega, by simpa using h4⟩
theorem OA.sl {e : TypeId} {k : Nat} {v : Value} {n : Nat} {xs : List Value} {w : World} (h : OA e k v n xs w) : ∃ a c, v = .slice a n c := by
  rcases h.2 with ⟨rfl, rfl⟩ | ⟨g, o, cap, cur, rfl, _⟩
  · exact ⟨_, _, rfl⟩
  · exact ⟨_, _, rfl⟩
theorem OA.cell {e : TypeId} {k : Nat} {a : Option Addr} {m c n : Nat} {xs : List Value} {w : World} (h : OA e k (.slice a m c) n xs w) {j : Nat} {u : Value} (hu : xs[j]? = some u) : m = n ∧ ∃ g o, a = some ⟨g, o, none⟩ ∧ w.cell? ⟨g, o + j, none⟩ = some u ∧ w.frozen? ⟨g, o + j, none⟩ = false := by
  rcases h.2 with ⟨h1, rfl⟩ | ⟨g, o, cap, cur, h1, h2, h3, h4, h5⟩
  · have := h.1
    simp at this
    subst this
    simp at hu
  · injection h1 with e1 e2 e3
    subst e1 e2 e3
    refine ⟨rfl, g, o, rfl, ?_, frozen_of_row _ _ _ _ _ h2⟩
    rw [cell_of_row _ _ _ _ _ _ h2]
    rw [← h5, List.getElem?_take] at hu
    split at hu
    · rw [List.getElem?_drop] at hu
      simpa using hu
    · cases hu
theorem run_append_off {P : Program} (w : World) (t ty e : TypeId) (i : TypeInfo) (ht : P.underlying t = some (.slice e)) (hi : P.info? e = some i)
    (g o sLen sCap : Nat) (cur : Array Value) (hg : w.heap[g]? = some (.cells cur e (0, 0)))
    (a : Addr) (m c : Nat) (news : List Value) (hl : news.length = m * i.size) (hnews : ∀ j u, news[j]? = some u → w.cell? (a.add j) = some u) (h1 : ∀ u ∈ news, u.oneCell' = true)
    (hroom : sLen + m ≤ sCap) (hfit : o + sLen * i.size + news.length ≤ cur.size) :
    (Builtin.append_ #[t, t] ty #[.slice (some ⟨g, o, none⟩) sLen sCap, .slice (some a) m c]).run P w =
      .ok (.slice (some ⟨g, o, none⟩) (sLen + m) sCap) (w.setRow g (cur.toList.take (o + sLen * i.size) ++ news ++ cur.toList.drop (o + sLen * i.size + news.length)).toArray) := by
  have hf := run_firstCells_some (P := P) w i.size m a m c news hl hnews
  have hst := run_storeCells_at P g (o + sLen * i.size) e news 0 cur w hg (by simpa using hfit) h1
  simp only [Nat.add_zero] at hst
  have hadd : (⟨g, o, none⟩ : Addr).add (sLen * i.size) = ⟨g, o + sLen * i.size, none⟩ := add_mid _ _ _
  simp [Builtin.append_, run_underlying ht, sizeOf, typeInfo, hi, Builtin.lenOf, hroom, hf, hadd, hst]
/-- what an append has done: in its place, or in new memory -/
def AppR (e : TypeId) (w : World) (v : Value) (n k : Nat) (v' : Value) (w' : World) : Prop :=
  (∃ g o cap cur cur', v = .slice (some ⟨g, o, none⟩) n cap ∧ v' = .slice (some ⟨g, o, none⟩) (n + 1) cap ∧ w.heap[g]? = some (.cells cur e (0, 0)) ∧ w'.heap[g]? = some (.cells cur' e (0, 0)) ∧ cur'.size = cur.size ∧ (∀ j, j < o + n * k → cur'[j]? = cur[j]?) ∧ w.grownBy w' (some g)) ∨
  ((∃ c, v' = .slice (some ⟨w.heap.size, 0, none⟩) (n + 1) c) ∧ Below w.heap.size w w')
theorem oa_app {t e : TypeId} {z : Value} {k by_ : Nat} (hU : Tryz.prog.underlying t = some (.slice e)) (hI : (Tryz.prog.info? e).map (fun i => (i.zero, i.size, i.bytes)) = some (some z, k, by_)) (hz : z.cells.size = k) (hk : 0 < k)
    {w : World} {v : Value} {n : Nat} {xs : List Value} (h : OA e k v n xs w) {a : Nat} {news : List Value} {t' : TypeId} {fr : Nat × Nat} (hc : w.heap[a]? = some (.cells news.toArray t' fr)) (hl : news.length = k) (h1 : ∀ u ∈ news, u.oneCell' = true) (hn : (n + 1) * by_ ≤ 140737488355328) (hn2 : n + 1 ≤ 140737488355328) :
    ∀ ty, ∃ v' w', (Builtin.append_ #[t, t] ty #[v, .slice (some ⟨a, 0, none⟩) 1 1]).run Tryz.prog w = .ok v' w' ∧ OA e k v' (n + 1) (xs ++ news) w' ∧ AppR e w v n k v' w' := fun ty => by
  obtain ⟨i, i1, hz'⟩ := Option.map_eq_some_iff.1 hI
  simp only [Prod.mk.injEq] at hz'
  obtain ⟨i2, i3, i4⟩ := hz'
  subst i3 i4
  have hnews : ∀ j u, news[j]? = some u → w.cell? ((⟨a, 0, none⟩ : Addr).add j) = some u := fun j u hu => by
    rw [add_mid, Nat.zero_add, cell_of_row _ _ _ _ _ _ hc, ← hu]; simp
  have hl1 : news.length = 1 * i.size := by rw [hl, Nat.one_mul]
  have h63 : n + 1 ≤ maxLen := by unfold maxLen; omega
  have hlen : (xs ++ news).length = (n + 1) * i.size := by rw [List.length_append, h.1, hl, Nat.add_mul, Nat.one_mul]
  have grown : ∀ (old : Nat), old < n + 1 → OA e i.size (.slice (some ⟨w.heap.size, 0, none⟩) (n + 1) (grownCap w (n + 1) old e)) (n + 1) (xs ++ news) (w.drew.alloc (.cells (xs.toArray ++ news.toArray ++ Builtin.zeroCells z.cells (grownCap w (n + 1) old e - (n + 1))) e)) := fun old ho => by
    have hge := grownCap_ge w (n + 1) old e
    refine ⟨hlen, .inr ⟨w.heap.size, 0, _, _, rfl, heap_alloc_new w.drew _, hge, ?_, ?_⟩⟩
    · simp only [Array.size_append, List.size_toArray, size_zeroCells, hz, h.1, hl, Nat.zero_add]
      rw [show n * i.size + i.size = (n + 1) * i.size by rw [Nat.add_mul, Nat.one_mul], ← Nat.add_mul]
      congr 1
      omega
    · simp only [Array.toList_append, List.append_assoc, List.drop_zero]
      rw [← List.append_assoc, ← hlen]
      exact List.take_left
  have hbn : ∀ o, Below w.heap.size w (w.drew.alloc o) := fun o => ((Below.refl _ w).drew).alloc (Nat.le_refl _) _
  rcases h.2 with ⟨rfl, rfl⟩ | ⟨g, o, cap, cur, rfl, h2, h3, h4, h5⟩
  · have hx : xs = [] := List.eq_nil_of_length_eq_zero (by simpa using h.1)
    subst hx
    have hr := run_append_nil (P := Tryz.prog) w t ty e i z hU i1 i2 ⟨a, 0, none⟩ 1 1 news hl1 hnews (by decide) (by decide) (by omega)
    have hg := grown 0 (by decide)
    simp only [Nat.zero_add, List.nil_append, Array.empty_append] at hg ⊢
    exact ⟨_, _, hr, hg, .inr ⟨⟨_, rfl⟩, hbn _⟩⟩
  · by_cases hroom : n + 1 ≤ cap
    · have hfit : o + n * i.size + news.length ≤ cur.size := by
        rw [hl, h4]
        have := Nat.mul_le_mul_right i.size hroom
        rw [Nat.add_mul, Nat.one_mul] at this
        omega
      have hr := run_append_off (P := Tryz.prog) w t ty e i hU i1 g o n cap cur h2 ⟨a, 0, none⟩ 1 1 news hl1 hnews h1 hroom hfit
      have hsz : (cur.toList.take (o + n * i.size) ++ news ++ cur.toList.drop (o + n * i.size + news.length)).toArray.size = cur.size := by
        simp only [List.size_toArray, List.length_append, List.length_take, List.length_drop, Array.length_toList]
        omega
      have hon : o + n * i.size ≤ cur.toList.length := by rw [Array.length_toList]; omega
      refine ⟨_, _, hr, ⟨hlen, .inr ⟨g, o, cap, _, rfl, setRow_heap w g cur _ e _ h2, hroom, by rw [hsz]; exact h4, ?_⟩⟩, .inl ⟨g, o, cap, cur, _, rfl, rfl, h2, setRow_heap w g cur _ e _ h2, hsz, fun j hj => ?_, ⟨rfl, rfl, rfl, by simp, fun k' _ hk' => setRow_other w g k' _ (fun e => hk' (by rw [e]))⟩⟩⟩
      · rw [List.append_assoc, List.drop_append_of_le_length (by rw [List.length_take]; omega), List.drop_take, show o + n * i.size - o = n * i.size by omega, h5, ← List.append_assoc, ← hlen]
        exact List.take_left
      · rw [List.getElem?_toArray, List.append_assoc, List.getElem?_append_left (by rw [List.length_take]; omega), List.getElem?_take_of_lt hj, Array.getElem?_toList]
    · have holds : ∀ j u, xs[j]? = some u → w.cell? ((⟨g, o, none⟩ : Addr).add j) = some u := fun j u hu => by
        obtain ⟨_, g', o', e1, hc', _⟩ := h.cell hu
        injection e1 with e1
        injection e1 with e1 e2
        subst e1 e2
        rw [add_mid]
        exact hc'
      have hr := run_append_grow (P := Tryz.prog) w t ty e i z hU i1 i2 ⟨g, o, none⟩ n cap xs h.1 holds ⟨a, 0, none⟩ 1 1 news hl1 hnews (by omega) (by simp only [maxLen] at h63; omega) (growslice_fits (by omega) hn)
      exact ⟨_, _, hr, grown cap (by omega), .inr ⟨⟨_, rfl⟩, hbn _⟩⟩
end Go.Proofs.YtpfidohkohldaaaGreatDoor
/- a pattern of the call's own: its lists lie in blocks of their own, beside blocks z that none of them is -/
namespace Go.Proofs.YtpfidohkohldaaaGreatDoor
set_option linter.unusedSimpArgs false
set_option linter.unusedVariables false
set_option maxRecDepth 100000
open Go.ChangeShapes Go.WideShapes Go.ChangeAt Go.RowKit Go.Pin Go.Pat
theorem nodup_dl {P A B C : List Nat} (h : (P ++ (A ++ (B ++ C))).Nodup) : (P ++ (A ++ C)).Nodup :=
  List.Nodup.sublist ((List.Sublist.refl P).append ((List.Sublist.refl A).append (List.sublist_append_right B C))) h
theorem own_mn {w : World} {b b2 : Nat} {e : TypeId} {k n : Nat} {v : Value} {xs : List Value} (h : w.ownsRow b e k v n xs) (hb : b2 ≤ b) : w.ownsRow b2 e k v n xs := by
  refine ⟨h.1, ?_⟩
  rcases h.2 with h0 | ⟨g, cap, cur, rfl, h1, hg, hr⟩
  · exact .inl h0
  · exact .inr ⟨g, cap, cur, rfl, Nat.le_trans hb h1, hg, hr⟩
theorem obs_mid (A : List Lv) (y : Lv) (B : List Lv) : obs (A ++ y :: B) = obs A ++ (y.2.1.ownBlock.toList ++ obs B) := by
  rw [obs_app, show y :: B = [y] ++ B from rfl, obs_app [y] B, obs_one]
theorem OS.swp {base : Nat} {pre : List Nat} {A B : List Lv} {x y : Lv} {w w' : World} (h : OS base pre (A ++ y :: B) w) (hk : ∀ k ∈ obs A ++ obs B, w'.heap[k]? = w.heap[k]?) (hx : w'.ownsRow base 3 1 x.2.1 x.2.2.length (x.2.2.map (Value.int .i64))) (hn : ∀ k, x.2.1.ownBlock = some k → k ∉ pre ∧ k ∉ obs A ∧ k ∉ obs B) : OS base pre (A ++ x :: B) w' := by
  have hnd := h.nd
  rw [show A ++ y :: B = A ++ ([y] ++ B) from rfl, obs_app, obs_app, obs_one] at hnd
  refine ⟨fun f hf => ?_, ?_⟩
  · rcases List.mem_append.1 hf with hf | hf
    · refine own_keep (h.own f (List.mem_append_left _ hf)) (fun g hg => hk g (List.mem_append_left _ (obs_mem hf hg)))
    · rcases List.mem_cons.1 hf with rfl | hf
      · exact hx
      · refine own_keep (h.own f (List.mem_append_right _ (List.mem_cons_of_mem _ hf))) (fun g hg => hk g (List.mem_append_right _ (obs_mem hf hg)))
  · rw [show A ++ x :: B = A ++ ([x] ++ B) from rfl, obs_app, obs_app, obs_one]
    exact nodup_ins (nodup_dl hnd) hn
/-- the list of lines: where it lies, what its cells are -/
def LnY (base : Nat) (pre : List Nat) (vl : Value) (fs : List Lv) (w : World) : Prop :=
  ∃ a cap, vl = .slice a fs.length cap ∧ fs.length ≤ cap ∧ (fs = [] ∨ ∃ g o cur, pre = [g] ∧ a = some ⟨g, o, none⟩ ∧ base ≤ g ∧ w.heap[g]? = some (.cells cur 43 (0, 0)) ∧ (∀ j, j < fs.length → cur[o + j * 2]? = some (.int .i64 (fs.getD j (0, undef, [])).1) ∧ cur[o + j * 2 + 1]? = some (fs.getD j (0, undef, [])).2.1) ∧ cur.size = o + cap * 2)
/-- a pattern's lists, of one's own -/
def EX (base : Nat) (z : List Nat) (hd fs : List Lv) (vl : Value) (w : World) : Prop :=
  ∃ pre, OS base (z ++ pre) (hd ++ fs) w ∧ LnY base pre vl fs w
section
variable {base : Nat} {z : List Nat} {hd fs : List Lv} {vl : Value} {w wr w' : World}
theorem os_apart {pre : List Nat} (h : OS base (z ++ pre) (hd ++ fs) w) : (∀ k ∈ obs (hd ++ fs), k ∉ z ∧ k ∉ pre) ∧ (∀ k ∈ pre, k ∉ z) := by
  have h1 := List.nodup_append.1 h.nd
  have h2 := List.nodup_append.1 h1.1
  exact ⟨fun k hk => ⟨fun hz => h1.2.2 k (List.mem_append_left _ hz) k hk rfl, fun hz => h1.2.2 k (List.mem_append_right _ hz) k hk rfl⟩, fun k hk hz => h2.2.2 k hz k hk rfl⟩
/-- what is not of the blocks z stays: so do the lists -/
theorem EX.keep (h : EX base z hd fs vl w) (hb : ∀ b, base ≤ b → b < w.heap.size → b ∉ z → w'.heap[b]? = w.heap[b]?) : EX base z hd fs vl w' := by
  obtain ⟨pre, hos, a, cap, e, hc, hl⟩ := h
  have hap := os_apart hos
  refine ⟨pre, hos.keep (fun k hk => hb k (hos.lt k hk).1 (hos.lt k hk).2 (hap.1 k hk).1), a, cap, e, hc, ?_⟩
  rcases hl with hl | ⟨g, o, cur, h1, h2, h3, h4, h5, h6⟩
  · exact .inl hl
  · exact .inr ⟨g, o, cur, h1, h2, h3, (hb g h3 (Array.getElem?_eq_some_iff.1 h4).1 (hap.2 g (by rw [h1]; simp))).trans h4, h5, h6⟩
theorem EX.below (h : EX base z hd fs vl w) (hb : Below w.heap.size w w') : EX base z hd fs vl w' := h.keep fun b _ hl _ => hb.block b hl
theorem EX.own (h : EX base z hd fs vl w) {f : Lv} (hf : f ∈ hd ++ fs) : w.ownsRow base 3 1 f.2.1 f.2.2.length (f.2.2.map (Value.int .i64)) := by
  obtain ⟨pre, hos, _⟩ := h
  exact hos.own f hf
theorem EX.slice (h : EX base z hd fs vl w) : ∃ a cap, vl = .slice a fs.length cap ∧ fs.length ≤ cap := by
  obtain ⟨pre, hos, a, cap, e, hc, _⟩ := h
  exact ⟨a, cap, e, hc⟩
theorem EX.ftl (h : EX base z hd fs vl w) (hn : fs.length ≤ 1000) (hf : ∀ f ∈ fs, f.2.2.length ≤ 1000) : FtL (fun b => base ≤ b ∧ b < w.heap.size) w vl (lvl fs) := by
  obtain ⟨pre, hos, a, cap, rfl, hc, hl⟩ := h
  have hlen : (lvl fs).length = fs.length := by simp [lvl]
  refine ⟨a, cap, by rw [hlen], by rw [hlen]; exact hc, by rw [hlen]; omega, fun j hj => ?_⟩
  rw [hlen] at hj
  rcases hl with hl | ⟨g, o, cur, h1, h2, h3, h4, h5, h6⟩
  · subst hl; simp at hj
  · have hgd : (lvl fs).getD j (0, []) = ((fs.getD j (0, undef, [])).1, (fs.getD j (0, undef, [])).2.2) := by simp [lvl, List.getD, hj]
    have hm : fs.getD j (0, undef, []) ∈ fs := by simp [List.getD, hj]
    rw [hgd]
    exact ⟨g, o, _, ⟨h3, (Array.getElem?_eq_some_iff.1 h4).1⟩, h2, by rw [cell_of_row _ _ _ _ _ _ h4]; exact (h5 j hj).1, by rw [cell_of_row _ _ _ _ _ _ h4]; exact (h5 j hj).2, own_ft (hos.own _ (List.mem_append_right _ hm)) rfl (by have := hf _ hm; simp only; omega)⟩
/-- where a line's cells lie -/
theorem EX.at (h : EX base z hd fs vl w) {j : Nat} (hj : j < fs.length) : ∃ g o cap, vl = .slice (some ⟨g, o, none⟩) fs.length cap ∧ fs.length ≤ cap ∧ base ≤ g ∧ g < w.heap.size ∧ g ∉ z ∧ w.cell? ⟨g, o + j * 2, none⟩ = some (.int .i64 (fs.getD j (0, undef, [])).1) ∧ w.cell? ⟨g, o + j * 2 + 1, none⟩ = some (fs.getD j (0, undef, [])).2.1 ∧ w.frozen? ⟨g, o + j * 2 + 1, none⟩ = false ∧ w.ownsRow base 3 1 (fs.getD j (0, undef, [])).2.1 (fs.getD j (0, undef, [])).2.2.length ((fs.getD j (0, undef, [])).2.2.map (Value.int .i64)) ∧ ∀ k, (fs.getD j (0, undef, [])).2.1.ownBlock = some k → k ≠ g ∧ k ∉ z := by
  obtain ⟨pre, hos, a, cap, rfl, hc, hl⟩ := h
  have hap := os_apart hos
  rcases hl with hl | ⟨g, o, cur, h1, rfl, h3, h4, h5, h6⟩
  · subst hl; simp at hj
  · have hm : fs.getD j (0, undef, []) ∈ hd ++ fs := List.mem_append_right _ (by simp [List.getD, hj])
    exact ⟨g, o, cap, rfl, hc, h3, (Array.getElem?_eq_some_iff.1 h4).1, hap.2 g (by rw [h1]; simp), by rw [cell_of_row _ _ _ _ _ _ h4]; exact (h5 j hj).1, by rw [cell_of_row _ _ _ _ _ _ h4]; exact (h5 j hj).2, frozen_of_row _ _ _ _ _ h4, hos.own _ hm, fun k hk => ⟨fun e => (hap.1 k (obs_mem hm hk)).2 (by rw [h1, e]; simp), (hap.1 k (obs_mem hm hk)).1⟩⟩
/-- a line gets another list of tokens: w' is the world behind the list's making, then the line's cell is set -/
theorem EX.put (h : EX base z hd fs vl wr) (hz : ∀ k ∈ z, k < wr.heap.size) {g o cap j : Nat} (hv : vl = .slice (some ⟨g, o, none⟩) fs.length cap) (hj : j < fs.length) {row : Option Nat} (hg : wr.grownBy w' row) (hr : ∀ k, row = some k → wr.heap.size ≤ k ∨ (fs.getD j (0, undef, [])).2.1.ownBlock = some k) {x : Value} {C : List Int} (hx : w'.ownsRow base 3 1 x C.length (C.map (Value.int .i64))) (hxb : x.ownBlock = (fs.getD j (0, undef, [])).2.1.ownBlock ∨ ∀ k, x.ownBlock = some k → wr.heap.size ≤ k) :
    EX base z hd (fs.set j ((fs.getD j (0, undef, [])).1, x, C)) vl (w'.setCell ⟨g, o + j * 2 + 1, none⟩ x) ∧ w'.cell? ⟨g, o + j * 2 + 1, none⟩ = some (fs.getD j (0, undef, [])).2.1 ∧ w'.frozen? ⟨g, o + j * 2 + 1, none⟩ = false := by
  obtain ⟨pre, hos, a, cap', e, hc, hl⟩ := h
  rw [hv] at e
  injection e with e1 e2 e3
  subst e1 e3
  rcases hl with hl | ⟨g', o', cur, h1, h2, h3, h4, h5, h6⟩
  · subst hl; simp at hj
  injection h2 with h2
  injection h2 with h2 h2'
  subst h2 h2'
  obtain ⟨y, hy⟩ : ∃ y, fs.getD j (0, undef, []) = y := ⟨_, rfl⟩
  rw [hy] at hr hxb ⊢
  have hfs : fs = fs.take j ++ y :: fs.drop (j + 1) := by
    rw [← hy]
    have : fs.getD j (0, undef, []) = fs[j] := by simp [List.getD, hj]
    rw [this, List.getElem_cons_drop, List.take_append_drop]
  have hset : ∀ u, fs.set j u = fs.take j ++ u :: fs.drop (j + 1) := fun u => by rw [List.set_eq_take_append_cons_drop, if_pos hj]
  have hgs := (Array.getElem?_eq_some_iff.1 h4).1
  have hos' : OS base (z ++ pre) ((hd ++ fs.take j) ++ y :: fs.drop (j + 1)) wr := by
    have e : (hd ++ fs.take j) ++ y :: fs.drop (j + 1) = hd ++ fs := by rw [List.append_assoc, ← hfs]
    rw [e]; exact hos
  have hnd := hos'.nd
  rw [obs_mid] at hnd
  -- the old list's block is not among the others
  have hyn : ∀ k, y.2.1.ownBlock = some k → k ∉ z ++ pre ∧ k ∉ obs (hd ++ fs.take j) ∧ k ∉ obs (fs.drop (j + 1)) := fun k hk => by
    rw [hk] at hnd
    simp only [Option.toList] at hnd
    have hp := (List.nodup_append.1 hnd)
    have hq := (List.nodup_append.1 hp.2.1)
    have hz := (List.nodup_append.1 hq.2.1)
    refine ⟨fun hm => hp.2.2 k hm k (by simp) rfl, fun hm => hq.2.2 k hm k (by simp) rfl, fun hm => hz.2.2 k (by simp) k hm rfl⟩
  have hlt : ∀ k, k ∈ obs (hd ++ fs.take j) ++ obs (fs.drop (j + 1)) → base ≤ k ∧ k < wr.heap.size := fun k hk => by
    refine hos'.lt k ?_
    rw [obs_mid]
    rcases List.mem_append.1 hk with hk | hk
    · exact List.mem_append_left _ hk
    · exact List.mem_append_right _ (List.mem_append_right _ hk)
  have hgn : g ∉ obs (hd ++ fs.take j) ++ obs (fs.drop (j + 1)) ∧ y.2.1.ownBlock ≠ some g := by
    subst h1
    have hp := List.nodup_append.1 hnd
    refine ⟨fun hm => ?_, fun e => (hyn g e).1 (by simp)⟩
    refine hp.2.2 g (by simp) g ?_ rfl
    rcases List.mem_append.1 hm with hm | hm
    · exact List.mem_append_left _ hm
    · exact List.mem_append_right _ (List.mem_append_right _ hm)
  have hw'g : w'.heap[g]? = some (.cells cur 43 (0, 0)) := (hg.block g hgs (fun e => by
    rcases hr g e.symm with h | h
    · omega
    · exact hgn.2 h)).trans h4
  have hkeep : ∀ k ∈ obs (hd ++ fs.take j) ++ obs (fs.drop (j + 1)), w'.heap[k]? = wr.heap[k]? := fun k hk => hg.block k (hlt k hk).2 (fun e => by
    rcases hr k e.symm with h | h
    · have := (hlt k hk).2; omega
    · rcases List.mem_append.1 hk with hk | hk
      · exact (hyn k h).2.1 hk
      · exact (hyn k h).2.2 hk)
  have hxn : ∀ k, x.ownBlock = some k → k ∉ z ++ pre ∧ k ∉ obs (hd ++ fs.take j) ∧ k ∉ obs (fs.drop (j + 1)) := fun k hk => by
    rcases hxb with hxb | hxb
    · exact hyn k (by rw [← hxb]; exact hk)
    · have hk' := hxb k hk
      refine ⟨fun hm => ?_, fun hm => by have := (hlt k (List.mem_append_left _ hm)).2; omega, fun hm => by have := (hlt k (List.mem_append_right _ hm)).2; omega⟩
      subst h1
      rcases List.mem_append.1 hm with hm | hm
      · have := hz k hm; omega
      · simp at hm; omega
  have hxg : x.ownBlock ≠ some g := fun e => (hxn g e).1 (by rw [h1]; simp)
  have hos2 : OS base (z ++ pre) ((hd ++ fs.take j) ++ ((y.1, x, C) : Lv) :: fs.drop (j + 1)) w' := hos'.swp hkeep hx hxn
  have ho : ∀ b, b ≠ g → (w'.setCell ⟨g, o + j * 2 + 1, none⟩ x).heap[b]? = w'.heap[b]? := fun b hne => heap_setCell_other _ _ _ _ hne
  have hob : ∀ k ∈ obs ((hd ++ fs.take j) ++ ((y.1, x, C) : Lv) :: fs.drop (j + 1)), k ≠ g := fun k hk e => by
    subst e
    rw [obs_mid] at hk
    rcases List.mem_append.1 hk with hk | hk
    · exact hgn.1 (List.mem_append_left _ hk)
    · rcases List.mem_append.1 hk with hk | hk
      · cases hxo : x.ownBlock with
        | none => rw [hxo] at hk; simp at hk
        | some u => rw [hxo] at hk; simp at hk; exact hxg (by rw [hxo, hk])
      · exact hgn.1 (List.mem_append_right _ hk)
  refine ⟨⟨pre, ?_, some ⟨g, o, none⟩, cap, ?_, ?_, .inr ⟨g, o, cur.setIfInBounds (o + j * 2 + 1) x, h1, rfl, h3, ?_, fun i hi => ?_, by rw [Array.size_setIfInBounds]; exact h6⟩⟩, ?_, ?_⟩
  · rw [hset, ← List.append_assoc]
    exact hos2.keep (fun k hk => ho k (hob k hk))
  · rw [hv, List.length_set]
  · rw [List.length_set]; exact hc
  · rw [Go.heap_setCell_same _ _ _ _ _ _ hw'g]
  · rw [List.length_set] at hi
    have hne0 : o + j * 2 + 1 ≠ o + i * 2 := by omega
    rw [Array.getElem?_setIfInBounds, if_neg hne0, Array.getElem?_setIfInBounds]
    have h5i := h5 i hi
    by_cases hij : i = j
    · subst hij
      have hsz : o + i * 2 + 1 < cur.size := (Array.getElem?_eq_some_iff.1 h5i.2).1
      rw [if_pos rfl, if_pos hsz]
      have : (fs.set i (y.1, x, C)).getD i (0, undef, []) = (y.1, x, C) := by simp [List.getD, hi]
      rw [this]
      exact ⟨by rw [h5i.1, hy], rfl⟩
    · have hne1 : o + j * 2 + 1 ≠ o + i * 2 + 1 := by omega
      rw [if_neg hne1]
      have : (fs.set j (y.1, x, C)).getD i (0, undef, []) = fs.getD i (0, undef, []) := by
        simp only [List.getD, List.getElem?_set]
        rw [if_neg (fun e => hij e.symm)]
      rw [this]
      exact h5i
  · rw [cell_of_row _ _ _ _ _ _ hw'g, (h5 j hj).2, hy]
  · exact frozen_of_row _ _ _ _ _ hw'g
/-- the first line goes -/
theorem EX.tail {f : Lv} {g o cap : Nat} {a : Option Addr} (h : EX base z hd (f :: fs) (.slice (some ⟨g, o, none⟩) (fs.length + 1) (cap + 1)) w) (ha : fs.length = 0 ∨ a = some ⟨g, o + 2, none⟩) : EX base z hd fs (.slice a fs.length cap) w := by
  obtain ⟨pre, hos, a', cap', e, hc, hl⟩ := h
  injection e with e1 e2 e3
  subst e1 e3
  have hsub : OS base (z ++ pre) (hd ++ fs) w := ⟨fun x hx => hos.own x (by
    rcases List.mem_append.1 hx with hx | hx
    · exact List.mem_append_left _ hx
    · exact List.mem_append_right _ (List.mem_cons_of_mem _ hx)), by
    have := hos.nd
    rw [obs_mid] at this
    rw [obs_app]
    exact nodup_dl this⟩
  refine ⟨pre, hsub, a, cap, rfl, by simpa using hc, ?_⟩
  rcases ha with ha | ha
  · exact .inl (List.eq_nil_of_length_eq_zero ha)
  · rcases hl with hl | ⟨g', o', cur, h1, h2, h3, h4, h5, h6⟩
    · cases hl
    · injection h2 with h2
      injection h2 with h2 h2'
      subst h2 h2'
      refine .inr ⟨g, o + 2, cur, h1, ha, h3, h4, fun j hj => ?_, by omega⟩
      have := h5 (j + 1) (by simp; omega)
      rw [show o + (j + 1) * 2 = o + 2 + j * 2 by omega] at this
      exact this
/-- a list ahead of the lines is another one, which was made behind all these -/
theorem EX.hput {A B : List Lv} {x y : Lv} {w0 : World} (h : EX base z (A ++ y :: B) fs vl w0) (hz : ∀ k ∈ z, k < w0.heap.size) (hb : Below w0.heap.size w0 w) (hx : w.ownsRow base 3 1 x.2.1 x.2.2.length (x.2.2.map (Value.int .i64))) (hn : ∀ k, x.2.1.ownBlock = some k → w0.heap.size ≤ k) : EX base z (A ++ x :: B) fs vl w := by
  obtain ⟨pre, hos, a, cap, e, hc, hl⟩ := h
  have key : ∀ pr : List Nat, pr.Sublist pre → (∀ k ∈ pr, k < w0.heap.size) → OS base (z ++ pr) (A ++ x :: B ++ fs) w := fun pr hpr hlt0 => by
    have hos2 : OS base (z ++ pr) (A ++ y :: (B ++ fs)) w0 := by
      have : A ++ y :: B ++ fs = A ++ y :: (B ++ fs) := by simp
      rw [← this]
      exact ⟨hos.own, hos.nd.sublist (((List.Sublist.refl z).append hpr).append (List.Sublist.refl _))⟩
    have hlt : ∀ k ∈ obs A ++ obs (B ++ fs), k < w0.heap.size := fun k hk => by
      refine (hos2.lt k ?_).2
      rw [obs_mid]
      rcases List.mem_append.1 hk with hk | hk
      · exact List.mem_append_left _ hk
      · exact List.mem_append_right _ (List.mem_append_right _ hk)
    have : A ++ x :: B ++ fs = A ++ x :: (B ++ fs) := by simp
    rw [this]
    refine hos2.swp (fun k hk => hb.block k (hlt k hk)) hx (fun k hk => ?_)
    have hk' := hn k hk
    refine ⟨fun hm => ?_, fun hm => by have := hlt k (List.mem_append_left _ hm); omega, fun hm => by have := hlt k (List.mem_append_right _ hm); omega⟩
    rcases List.mem_append.1 hm with hm | hm
    · have := hz k hm; omega
    · have := hlt0 k hm; omega
  rcases hl with hl | ⟨g, o, cur, h1, h2, h3, h4, h5, h6⟩
  · exact ⟨[], key [] (List.nil_sublist _) (fun k hk => by simp at hk), a, cap, e, hc, .inl hl⟩
  · have hgs := (Array.getElem?_eq_some_iff.1 h4).1
    exact ⟨pre, key pre (List.Sublist.refl _) (fun k hk => by rw [h1] at hk; simp at hk; omega), a, cap, e, hc, .inr ⟨g, o, cur, h1, h2, h3, (hb.block g hgs).trans h4, h5, h6⟩⟩
theorem EX.mono {b2 : Nat} {z2 : List Nat} (h : EX base z hd fs vl w) (hb : b2 ≤ base) (hz : z2.Sublist z) : EX b2 z2 hd fs vl w := by
  obtain ⟨pre, hos, a, cap, e, hc, hl⟩ := h
  refine ⟨pre, ⟨fun f hf => own_mn (hos.own f hf) hb, hos.nd.sublist ((hz.append (List.Sublist.refl _)).append (List.Sublist.refl _))⟩, a, cap, e, hc, ?_⟩
  rcases hl with hl | ⟨g, o, cur, h1, h2, h3, h4, h5, h6⟩
  · exact .inl hl
  · exact .inr ⟨g, o, cur, h1, h2, Nat.le_trans hb h3, h4, h5, h6⟩
/-- blocks that were not there are beside them -/
theorem EX.beside {k : Nat} (h : EX base z hd fs vl w) (hk : w.heap.size ≤ k) (hz : k ∉ z) : EX base (k :: z) hd fs vl w := by
  obtain ⟨pre, hos, a, cap, e, hc, hl⟩ := h
  have key : ∀ pr : List Nat, pr.Sublist pre → (∀ j ∈ pr, j < w.heap.size) → OS base (k :: z ++ pr) (hd ++ fs) w := fun pr hpr hlt => by
    refine ⟨hos.own, ?_⟩
    have h2 : (z ++ pr ++ obs (hd ++ fs)).Nodup := hos.nd.sublist (((List.Sublist.refl z).append hpr).append (List.Sublist.refl _))
    show (k :: (z ++ pr ++ obs (hd ++ fs))).Nodup
    rw [List.nodup_cons]
    refine ⟨fun hm => ?_, h2⟩
    rcases List.mem_append.1 hm with hm | hm
    · rcases List.mem_append.1 hm with hm | hm
      · exact hz hm
      · have := hlt k hm; omega
    · have := (hos.lt k hm).2; omega
  rcases hl with hl | ⟨g, o, cur, h1, h2, h3, h4, h5, h6⟩
  · exact ⟨[], key [] (List.nil_sublist _) (fun j hj => by simp at hj), a, cap, e, hc, .inl hl⟩
  · have hgs := (Array.getElem?_eq_some_iff.1 h4).1
    exact ⟨pre, key pre (List.Sublist.refl _) (fun j hj => by rw [h1] at hj; simp at hj; omega), a, cap, e, hc, .inr ⟨g, o, cur, h1, h2, h3, h4, h5, h6⟩⟩
end
/-- the lines' lists up to the i-th are one's own -/
def EY (base : Nat) (hd fs : List Lv) (i : Nat) (vl : Value) (w : World) : Prop :=
  ∃ pre, OS base pre (hd ++ fs.take i) w ∧ LnY base pre vl fs w
section
variable {base : Nat} {hd fs : List Lv} {vl : Value} {w wr w' : World} {i : Nat}
theorem EY.all (h : EY base hd fs fs.length vl w) : EX base [] hd fs vl w := by
  obtain ⟨pre, hos, hl⟩ := h
  rw [List.take_length] at hos
  exact ⟨pre, hos, hl⟩
theorem EY.below (h : EY base hd fs i vl w) (hb : Below w.heap.size w w') : EY base hd fs i vl w' := by
  obtain ⟨pre, hos, a, cap, e, hc, hl⟩ := h
  refine ⟨pre, hos.below hb, a, cap, e, hc, ?_⟩
  rcases hl with hl | ⟨g, o, cur, h1, h2, h3, h4, h5, h6⟩
  · exact .inl hl
  · exact .inr ⟨g, o, cur, h1, h2, h3, (hb.block g (Array.getElem?_eq_some_iff.1 h4).1).trans h4, h5, h6⟩
theorem EY.keep (h : EY base hd fs i vl w) (hb : ∀ b, base ≤ b → b < w.heap.size → w'.heap[b]? = w.heap[b]?) : EY base hd fs i vl w' := by
  obtain ⟨pre, hos, a, cap, e, hc, hl⟩ := h
  refine ⟨pre, hos.keep (fun k hk => hb k (hos.lt k hk).1 (hos.lt k hk).2), a, cap, e, hc, ?_⟩
  rcases hl with hl | ⟨g, o, cur, h1, h2, h3, h4, h5, h6⟩
  · exact .inl hl
  · exact .inr ⟨g, o, cur, h1, h2, h3, (hb g h3 (Array.getElem?_eq_some_iff.1 h4).1).trans h4, h5, h6⟩
theorem EY.at (h : EY base hd fs i vl w) {j : Nat} (hj : j < fs.length) : ∃ g o cap, vl = .slice (some ⟨g, o, none⟩) fs.length cap ∧ fs.length ≤ cap ∧ base ≤ g ∧ g < w.heap.size ∧ w.cell? ⟨g, o + j * 2, none⟩ = some (.int .i64 (fs.getD j (0, undef, [])).1) ∧ w.cell? ⟨g, o + j * 2 + 1, none⟩ = some (fs.getD j (0, undef, [])).2.1 ∧ w.frozen? ⟨g, o + j * 2 + 1, none⟩ = false := by
  obtain ⟨pre, hos, a, cap, rfl, hc, hl⟩ := h
  rcases hl with hl | ⟨g, o, cur, h1, rfl, h3, h4, h5, h6⟩
  · subst hl; simp at hj
  · exact ⟨g, o, cap, rfl, hc, h3, (Array.getElem?_eq_some_iff.1 h4).1, by rw [cell_of_row _ _ _ _ _ _ h4]; exact (h5 j hj).1, by rw [cell_of_row _ _ _ _ _ _ h4]; exact (h5 j hj).2, frozen_of_row _ _ _ _ _ h4⟩
/-- the next line's list becomes one's own -/
theorem EY.step (h : EY base hd fs i vl wr) {g o cap : Nat} (hv : vl = .slice (some ⟨g, o, none⟩) fs.length cap) (hi : i < fs.length) (hg : Below wr.heap.size wr w') {x : Value} {C : List Int} (hx : w'.ownsRow base 3 1 x C.length (C.map (Value.int .i64))) (hxb : ∀ k, x.ownBlock = some k → wr.heap.size ≤ k) :
    EY base hd (fs.set i ((fs.getD i (0, undef, [])).1, x, C)) (i + 1) vl (w'.setCell ⟨g, o + i * 2 + 1, none⟩ x) ∧ w'.cell? ⟨g, o + i * 2 + 1, none⟩ = some (fs.getD i (0, undef, [])).2.1 ∧ w'.frozen? ⟨g, o + i * 2 + 1, none⟩ = false := by
  obtain ⟨pre, hos, a, cap', e, hc, hl⟩ := h
  rw [hv] at e
  injection e with e1 e2 e3
  subst e1 e3
  rcases hl with hl | ⟨g', o', cur, h1, h2, h3, h4, h5, h6⟩
  · subst hl; simp at hi
  injection h2 with h2
  injection h2 with h2 h2'
  subst h2 h2'
  have hgs := (Array.getElem?_eq_some_iff.1 h4).1
  have hw'g : w'.heap[g]? = some (.cells cur 43 (0, 0)) := (hg.block g hgs).trans h4
  have hn : ∀ k, x.ownBlock = some k → k ∉ pre ∧ k ∉ obs (hd ++ fs.take i) := fun k hk => ⟨fun hm => by
    rw [h1] at hm
    simp at hm
    have := hxb k hk
    omega, fun hm => by
    have := (hos.lt k hm).2
    have := hxb k hk
    omega⟩
  have hos2 := (hos.below hg).snoc (f := (fs.getD i (0, undef, [])).1) hx hn
  have ho : ∀ b, b ≠ g → (w'.setCell ⟨g, o + i * 2 + 1, none⟩ x).heap[b]? = w'.heap[b]? := fun b hne => heap_setCell_other _ _ _ _ hne
  have htk : hd ++ (fs.set i ((fs.getD i (0, undef, [])).1, x, C)).take (i + 1) = hd ++ fs.take i ++ [((fs.getD i (0, undef, [])).1, x, C)] := by
    rw [List.append_assoc]
    congr 1
    rw [List.set_eq_take_append_cons_drop, if_pos hi, List.take_append, List.length_take, Nat.min_eq_left (Nat.le_of_lt hi), show i + 1 - i = 1 by omega, List.take_succ_cons, List.take_zero, List.take_of_length_le (by rw [List.length_take]; omega)]
  have hob : ∀ k ∈ obs (hd ++ fs.take i ++ [((fs.getD i (0, undef, [])).1, x, C)]), k ≠ g := fun k hk e => by
    have := List.nodup_append.1 hos2.nd
    exact this.2.2 g (by rw [h1]; simp) k hk e.symm
  refine ⟨⟨pre, ?_, some ⟨g, o, none⟩, cap, ?_, ?_, .inr ⟨g, o, cur.setIfInBounds (o + i * 2 + 1) x, h1, rfl, h3, ?_, fun j hj => ?_, by rw [Array.size_setIfInBounds]; exact h6⟩⟩, ?_, ?_⟩
  · rw [htk]
    exact hos2.keep (fun k hk => ho k (hob k hk))
  · rw [hv, List.length_set]
  · rw [List.length_set]; exact hc
  · rw [Go.heap_setCell_same _ _ _ _ _ _ hw'g]
  · rw [List.length_set] at hj
    have hne0 : o + i * 2 + 1 ≠ o + j * 2 := by omega
    rw [Array.getElem?_setIfInBounds, if_neg hne0, Array.getElem?_setIfInBounds]
    have h5i := h5 j hj
    by_cases hij : j = i
    · subst hij
      have hsz : o + j * 2 + 1 < cur.size := (Array.getElem?_eq_some_iff.1 h5i.2).1
      rw [if_pos rfl, if_pos hsz]
      have : (fs.set j ((fs.getD j (0, undef, [])).1, x, C)).getD j (0, undef, []) = ((fs.getD j (0, undef, [])).1, x, C) := by simp [List.getD, hj]
      rw [this]
      exact ⟨h5i.1, rfl⟩
    · have hne1 : o + i * 2 + 1 ≠ o + j * 2 + 1 := by omega
      rw [if_neg hne1]
      have : (fs.set i ((fs.getD i (0, undef, [])).1, x, C)).getD j (0, undef, []) = fs.getD j (0, undef, []) := by
        simp only [List.getD, List.getElem?_set]
        rw [if_neg (fun e => hij e.symm)]
      rw [this]
      exact h5i
  · rw [cell_of_row _ _ _ _ _ _ hw'g, (h5 i hi).2]
  · exact frozen_of_row _ _ _ _ _ hw'g
end
end Go.Proofs.YtpfidohkohldaaaGreatDoor
