import Derived.Ground.Names2Prog
import Derived.Shelf.Spec.SlicesInsert
import Derived.Shelf.Spec.SlicesInsertGrow
import Derived.Ground.SlgnProg
import Derived.Shelf.SlicesE.Clone
import Derived.Ground.Names8Prog
import Derived.Shelf.Spec.SlicesGrow
import Derived.Test.YtjhleocpipmklaaDoorProg
import Derived.Test.YtjhleocpipmklaaDoorMhat
import Derived.Test.YtjhleocpipmklaaDoorMhao
import Derived.Test.YtjhleocpipmklaaDoorMhaw
import Derived.Test.YtjhleocpipmklaaDoorMhar
/- a pattern of the call's own: its lists lie in blocks of their own, beside blocks z that none of them is -/
namespace Go.Proofs.YtjhleocpipmklaaDoor
set_option linter.unusedSimpArgs false
set_option linter.unusedVariables false
set_option maxRecDepth 100000
open Go.ChangeShapes Go.WideShapes Go.ChangeAt Go.RowKit Go.Pin Go.Pat
theorem nodup_dl {P A B C : List Nat} (h : (P ++ (A ++ (B ++ C))).Nodup) : (P ++ (A ++ C)).Nodup :=
  List.Nodup.sublist ((List.Sublist.refl P).append ((List.Sublist.refl A).append (List.sublist_append_right B C))) h
theorem own_mn {w : World} {b b2 : Nat} {e : TypeId} {k n : Nat} {v : Value} {xs : List Value} (h : w.ownsRow b e k v n xs) (hb : b2 ≤ b) : w.ownsRow b2 e k v n xs := by
  refine ⟨h.1, ?_⟩
  rcases h.2 with h0 | ⟨g, cap, cur, rfl, h1, hg, hr⟩
  · exact .inl h0
  · exact .inr ⟨g, cap, cur, rfl, Nat.le_trans hb h1, hg, hr⟩
theorem obs_mid (A : List Lv) (y : Lv) (B : List Lv) : obs (A ++ y :: B) = obs A ++ (y.2.1.ownBlock.toList ++ obs B) := by
  rw [obs_app, show y :: B = [y] ++ B from rfl, obs_app [y] B, obs_one]
theorem OS.swp {base : Nat} {pre : List Nat} {A B : List Lv} {x y : Lv} {w w' : World} (h : OS base pre (A ++ y :: B) w) (hk : ∀ k ∈ obs A ++ obs B, w'.heap[k]? = w.heap[k]?) (hx : w'.ownsRow base 3 1 x.2.1 x.2.2.length (x.2.2.map (Value.int .i64))) (hn : ∀ k, x.2.1.ownBlock = some k → k ∉ pre ∧ k ∉ obs A ∧ k ∉ obs B) : OS base pre (A ++ x :: B) w' := by
  have hnd := h.nd
  rw [show A ++ y :: B = A ++ ([y] ++ B) from rfl, obs_app, obs_app, obs_one] at hnd
  refine ⟨fun f hf => ?_, ?_⟩
  · rcases List.mem_append.1 hf with hf | hf
    · refine own_keep (h.own f (List.mem_append_left _ hf)) (fun g hg => hk g (List.mem_append_left _ (obs_mem hf hg)))
    · rcases List.mem_cons.1 hf with rfl | hf
      · exact hx
      · refine own_keep (h.own f (List.mem_append_right _ (List.mem_cons_of_mem _ hf))) (fun g hg => hk g (List.mem_append_right _ (obs_mem hf hg)))
  · rw [show A ++ x :: B = A ++ ([x] ++ B) from rfl, obs_app, obs_app, obs_one]
    exact nodup_ins (nodup_dl hnd) hn
/-- the list of lines: where it lies, what its cells are -/
def LnY (base : Nat) (pre : List Nat) (vl : Value) (fs : List Lv) (w : World) : Prop :=
  ∃ a cap, vl = .slice a fs.length cap ∧ fs.length ≤ cap ∧ (fs = [] ∨ ∃ g o cur, pre = [g] ∧ a = some ⟨g, o, none⟩ ∧ base ≤ g ∧ w.heap[g]? = some (.cells cur 43 (0, 0)) ∧ (∀ j, j < fs.length → cur[o + j * 2]? = some (.int .i64 (fs.getD j (0, undef, [])).1) ∧ cur[o + j * 2 + 1]? = some (fs.getD j (0, undef, [])).2.1) ∧ cur.size = o + cap * 2)
/-- a pattern's lists, of one's own -/
def EX (base : Nat) (z : List Nat) (hd fs : List Lv) (vl : Value) (w : World) : Prop :=
  ∃ pre, OS base (z ++ pre) (hd ++ fs) w ∧ LnY base pre vl fs w
section
variable {base : Nat} {z : List Nat} {hd fs : List Lv} {vl : Value} {w wr w' : World}
theorem os_apart {pre : List Nat} (h : OS base (z ++ pre) (hd ++ fs) w) : (∀ k ∈ obs (hd ++ fs), k ∉ z ∧ k ∉ pre) ∧ (∀ k ∈ pre, k ∉ z) := by
  have h1 := List.nodup_append.1 h.nd
  have h2 := List.nodup_append.1 h1.1
  exact ⟨fun k hk => ⟨fun hz => h1.2.2 k (List.mem_append_left _ hz) k hk rfl, fun hz => h1.2.2 k (List.mem_append_right _ hz) k hk rfl⟩, fun k hk hz => h2.2.2 k hz k hk rfl⟩
/-- what is not of the blocks z stays: so do the lists -/
theorem EX.keep (h : EX base z hd fs vl w) (hb : ∀ b, base ≤ b → b < w.heap.size → b ∉ z → w'.heap[b]? = w.heap[b]?) : EX base z hd fs vl w' := by
  obtain ⟨pre, hos, a, cap, e, hc, hl⟩ := h
  have hap := os_apart hos
  refine ⟨pre, hos.keep (fun k hk => hb k (hos.lt k hk).1 (hos.lt k hk).2 (hap.1 k hk).1), a, cap, e, hc, ?_⟩
  rcases hl with hl | ⟨g, o, cur, h1, h2, h3, h4, h5, h6⟩
  · exact .inl hl
  · exact .inr ⟨g, o, cur, h1, h2, h3, (hb g h3 (Array.getElem?_eq_some_iff.1 h4).1 (hap.2 g (by rw [h1]; simp))).trans h4, h5, h6⟩
theorem EX.below (h : EX base z hd fs vl w) (hb : Below w.heap.size w w') : EX base z hd fs vl w' := h.keep fun b _ hl _ => hb.block b hl
theorem EX.own (h : EX base z hd fs vl w) {f : Lv} (hf : f ∈ hd ++ fs) : w.ownsRow base 3 1 f.2.1 f.2.2.length (f.2.2.map (Value.int .i64)) := by
  obtain ⟨pre, hos, _⟩ := h
  exact hos.own f hf
theorem EX.slice (h : EX base z hd fs vl w) : ∃ a cap, vl = .slice a fs.length cap ∧ fs.length ≤ cap := by
  obtain ⟨pre, hos, a, cap, e, hc, _⟩ := h
  exact ⟨a, cap, e, hc⟩
theorem EX.ftl (h : EX base z hd fs vl w) (hn : fs.length ≤ 1000) (hf : ∀ f ∈ fs, f.2.2.length ≤ 1000) : FtL (fun b => base ≤ b ∧ b < w.heap.size) w vl (lvl fs) := by
  obtain ⟨pre, hos, a, cap, rfl, hc, hl⟩ := h
  have hlen : (lvl fs).length = fs.length := by simp [lvl]
  refine ⟨a, cap, by rw [hlen], by rw [hlen]; exact hc, by rw [hlen]; omega, fun j hj => ?_⟩
  rw [hlen] at hj
  rcases hl with hl | ⟨g, o, cur, h1, h2, h3, h4, h5, h6⟩
  · subst hl; simp at hj
  · have hgd : (lvl fs).getD j (0, []) = ((fs.getD j (0, undef, [])).1, (fs.getD j (0, undef, [])).2.2) := by simp [lvl, List.getD, hj]
    have hm : fs.getD j (0, undef, []) ∈ fs := by simp [List.getD, hj]
    rw [hgd]
    exact ⟨g, o, _, ⟨h3, (Array.getElem?_eq_some_iff.1 h4).1⟩, h2, by rw [cell_of_row _ _ _ _ _ _ h4]; exact (h5 j hj).1, by rw [cell_of_row _ _ _ _ _ _ h4]; exact (h5 j hj).2, own_ft (hos.own _ (List.mem_append_right _ hm)) rfl (by have := hf _ hm; simp only; omega)⟩
/-- where a line's cells lie -/
theorem EX.at (h : EX base z hd fs vl w) {j : Nat} (hj : j < fs.length) : ∃ g o cap, vl = .slice (some ⟨g, o, none⟩) fs.length cap ∧ fs.length ≤ cap ∧ base ≤ g ∧ g < w.heap.size ∧ g ∉ z ∧ w.cell? ⟨g, o + j * 2, none⟩ = some (.int .i64 (fs.getD j (0, undef, [])).1) ∧ w.cell? ⟨g, o + j * 2 + 1, none⟩ = some (fs.getD j (0, undef, [])).2.1 ∧ w.frozen? ⟨g, o + j * 2 + 1, none⟩ = false ∧ w.ownsRow base 3 1 (fs.getD j (0, undef, [])).2.1 (fs.getD j (0, undef, [])).2.2.length ((fs.getD j (0, undef, [])).2.2.map (Value.int .i64)) ∧ ∀ k, (fs.getD j (0, undef, [])).2.1.ownBlock = some k → k ≠ g ∧ k ∉ z := by
  obtain ⟨pre, hos, a, cap, rfl, hc, hl⟩ := h
  have hap := os_apart hos
  rcases hl with hl | ⟨g, o, cur, h1, rfl, h3, h4, h5, h6⟩
  · subst hl; simp at hj
  · have hm : fs.getD j (0, undef, []) ∈ hd ++ fs := List.mem_append_right _ (by simp [List.getD, hj])
    exact ⟨g, o, cap, rfl, hc, h3, (Array.getElem?_eq_some_iff.1 h4).1, hap.2 g (by rw [h1]; simp), by rw [cell_of_row _ _ _ _ _ _ h4]; exact (h5 j hj).1, by rw [cell_of_row _ _ _ _ _ _ h4]; exact (h5 j hj).2, frozen_of_row _ _ _ _ _ h4, hos.own _ hm, fun k hk => ⟨fun e => (hap.1 k (obs_mem hm hk)).2 (by rw [h1, e]; simp), (hap.1 k (obs_mem hm hk)).1⟩⟩
/-- a line gets another list of tokens: w' is the world behind the list's making, then the line's cell is set -/
theorem EX.put (h : EX base z hd fs vl wr) (hz : ∀ k ∈ z, k < wr.heap.size) {g o cap j : Nat} (hv : vl = .slice (some ⟨g, o, none⟩) fs.length cap) (hj : j < fs.length) {row : Option Nat} (hg : wr.grownBy w' row) (hr : ∀ k, row = some k → wr.heap.size ≤ k ∨ (fs.getD j (0, undef, [])).2.1.ownBlock = some k) {x : Value} {C : List Int} (hx : w'.ownsRow base 3 1 x C.length (C.map (Value.int .i64))) (hxb : x.ownBlock = (fs.getD j (0, undef, [])).2.1.ownBlock ∨ ∀ k, x.ownBlock = some k → wr.heap.size ≤ k) :
    EX base z hd (fs.set j ((fs.getD j (0, undef, [])).1, x, C)) vl (w'.setCell ⟨g, o + j * 2 + 1, none⟩ x) ∧ w'.cell? ⟨g, o + j * 2 + 1, none⟩ = some (fs.getD j (0, undef, [])).2.1 ∧ w'.frozen? ⟨g, o + j * 2 + 1, none⟩ = false := by
  obtain ⟨pre, hos, a, cap', e, hc, hl⟩ := h
  rw [hv] at e
  injection e with e1 e2 e3
  subst e1 e3
  rcases hl with hl | ⟨g', o', cur, h1, h2, h3, h4, h5, h6⟩
  · subst hl; simp at hj
  injection h2 with h2
  injection h2 with h2 h2'
  subst h2 h2'
  obtain ⟨y, hy⟩ : ∃ y, fs.getD j (0, undef, []) = y := ⟨_, rfl⟩
  rw [hy] at hr hxb ⊢
  have hfs : fs = fs.take j ++ y :: fs.drop (j + 1) := by
    rw [← hy]
    have : fs.getD j (0, undef, []) = fs[j] := by simp [List.getD, hj]
    rw [this, List.getElem_cons_drop, List.take_append_drop]
  have hset : ∀ u, fs.set j u = fs.take j ++ u :: fs.drop (j + 1) := fun u => by rw [List.set_eq_take_append_cons_drop, if_pos hj]
  have hgs := (Array.getElem?_eq_some_iff.1 h4).1
  have hos' : OS base (z ++ pre) ((hd ++ fs.take j) ++ y :: fs.drop (j + 1)) wr := by
    have e : (hd ++ fs.take j) ++ y :: fs.drop (j + 1) = hd ++ fs := by rw [List.append_assoc, ← hfs]
    rw [e]; exact hos
  have hnd := hos'.nd
  rw [obs_mid] at hnd
  -- the old list's block is not among the others
  have hyn : ∀ k, y.2.1.ownBlock = some k → k ∉ z ++ pre ∧ k ∉ obs (hd ++ fs.take j) ∧ k ∉ obs (fs.drop (j + 1)) := fun k hk => by
    rw [hk] at hnd
    simp only [Option.toList] at hnd
    have hp := (List.nodup_append.1 hnd)
    have hq := (List.nodup_append.1 hp.2.1)
    have hz := (List.nodup_append.1 hq.2.1)
    refine ⟨fun hm => hp.2.2 k hm k (by simp) rfl, fun hm => hq.2.2 k hm k (by simp) rfl, fun hm => hz.2.2 k (by simp) k hm rfl⟩
  have hlt : ∀ k, k ∈ obs (hd ++ fs.take j) ++ obs (fs.drop (j + 1)) → base ≤ k ∧ k < wr.heap.size := fun k hk => by
    refine hos'.lt k ?_
    rw [obs_mid]
    rcases List.mem_append.1 hk with hk | hk
    · exact List.mem_append_left _ hk
    · exact List.mem_append_right _ (List.mem_append_right _ hk)
  have hgn : g ∉ obs (hd ++ fs.take j) ++ obs (fs.drop (j + 1)) ∧ y.2.1.ownBlock ≠ some g := by
    subst h1
    have hp := List.nodup_append.1 hnd
    refine ⟨fun hm => ?_, fun e => (hyn g e).1 (by simp)⟩
    refine hp.2.2 g (by simp) g ?_ rfl
    rcases List.mem_append.1 hm with hm | hm
    · exact List.mem_append_left _ hm
    · exact List.mem_append_right _ (List.mem_append_right _ hm)
  have hw'g : w'.heap[g]? = some (.cells cur 43 (0, 0)) := (hg.block g hgs (fun e => by
    rcases hr g e.symm with h | h
    · omega
    · exact hgn.2 h)).trans h4
  have hkeep : ∀ k ∈ obs (hd ++ fs.take j) ++ obs (fs.drop (j + 1)), w'.heap[k]? = wr.heap[k]? := fun k hk => hg.block k (hlt k hk).2 (fun e => by
    rcases hr k e.symm with h | h
    · have := (hlt k hk).2; omega
    · rcases List.mem_append.1 hk with hk | hk
      · exact (hyn k h).2.1 hk
      · exact (hyn k h).2.2 hk)
  have hxn : ∀ k, x.ownBlock = some k → k ∉ z ++ pre ∧ k ∉ obs (hd ++ fs.take j) ∧ k ∉ obs (fs.drop (j + 1)) := fun k hk => by
    rcases hxb with hxb | hxb
    · exact hyn k (by rw [← hxb]; exact hk)
    · have hk' := hxb k hk
      refine ⟨fun hm => ?_, fun hm => by have := (hlt k (List.mem_append_left _ hm)).2; omega, fun hm => by have := (hlt k (List.mem_append_right _ hm)).2; omega⟩
      subst h1
      rcases List.mem_append.1 hm with hm | hm
      · have := hz k hm; omega
      · simp at hm; omega
  have hxg : x.ownBlock ≠ some g := fun e => (hxn g e).1 (by rw [h1]; simp)
  have hos2 : OS base (z ++ pre) ((hd ++ fs.take j) ++ ((y.1, x, C) : Lv) :: fs.drop (j + 1)) w' := hos'.swp hkeep hx hxn
  have ho : ∀ b, b ≠ g → (w'.setCell ⟨g, o + j * 2 + 1, none⟩ x).heap[b]? = w'.heap[b]? := fun b hne => heap_setCell_other _ _ _ _ hne
  have hob : ∀ k ∈ obs ((hd ++ fs.take j) ++ ((y.1, x, C) : Lv) :: fs.drop (j + 1)), k ≠ g := fun k hk e => by
    subst e
    rw [obs_mid] at hk
    rcases List.mem_append.1 hk with hk | hk
    · exact hgn.1 (List.mem_append_left _ hk)
    · rcases List.mem_append.1 hk with hk | hk
      · cases hxo : x.ownBlock with
        | none => rw [hxo] at hk; simp at hk
        | some u => rw [hxo] at hk; simp at hk; exact hxg (by rw [hxo, hk])
      · exact hgn.1 (List.mem_append_right _ hk)
  refine ⟨⟨pre, ?_, some ⟨g, o, none⟩, cap, ?_, ?_, .inr ⟨g, o, cur.setIfInBounds (o + j * 2 + 1) x, h1, rfl, h3, ?_, fun i hi => ?_, by rw [Array.size_setIfInBounds]; exact h6⟩⟩, ?_, ?_⟩
  · rw [hset, ← List.append_assoc]
    exact hos2.keep (fun k hk => ho k (hob k hk))
  · rw [hv, List.length_set]
  · rw [List.length_set]; exact hc
  · rw [Go.heap_setCell_same _ _ _ _ _ _ hw'g]
  · rw [List.length_set] at hi
    have hne0 : o + j * 2 + 1 ≠ o + i * 2 := by omega
    rw [Array.getElem?_setIfInBounds, if_neg hne0, Array.getElem?_setIfInBounds]
    have h5i := h5 i hi
    by_cases hij : i = j
    · subst hij
      have hsz : o + i * 2 + 1 < cur.size := (Array.getElem?_eq_some_iff.1 h5i.2).1
      rw [if_pos rfl, if_pos hsz]
      have : (fs.set i (y.1, x, C)).getD i (0, undef, []) = (y.1, x, C) := by simp [List.getD, hi]
      rw [this]
      exact ⟨by rw [h5i.1, hy], rfl⟩
    · have hne1 : o + j * 2 + 1 ≠ o + i * 2 + 1 := by omega
      rw [if_neg hne1]
      have : (fs.set j (y.1, x, C)).getD i (0, undef, []) = fs.getD i (0, undef, []) := by
        simp only [List.getD, List.getElem?_set]
        rw [if_neg (fun e => hij e.symm)]
      rw [this]
      exact h5i
  · rw [cell_of_row _ _ _ _ _ _ hw'g, (h5 j hj).2, hy]
  · exact frozen_of_row _ _ _ _ _ hw'g
/-- the first line goes -/
theorem EX.tail {f : Lv} {g o cap : Nat} {a : Option Addr} (h : EX base z hd (f :: fs) (.slice (some ⟨g, o, none⟩) (fs.length + 1) (cap + 1)) w) (ha : fs.length = 0 ∨ a = some ⟨g, o + 2, none⟩) : EX base z hd fs (.slice a fs.length cap) w := by
  obtain ⟨pre, hos, a', cap', e, hc, hl⟩ := h
  injection e with e1 e2 e3
  subst e1 e3
  have hsub : OS base (z ++ pre) (hd ++ fs) w := ⟨fun x hx => hos.own x (by
    rcases List.mem_append.1 hx with hx | hx
    · exact List.mem_append_left _ hx
    · exact List.mem_append_right _ (List.mem_cons_of_mem _ hx)), by
    have := hos.nd
    rw [obs_mid] at this
    rw [obs_app]
    exact nodup_dl this⟩
  refine ⟨pre, hsub, a, cap, rfl, by simpa using hc, ?_⟩
  rcases ha with ha | ha
  · exact .inl (List.eq_nil_of_length_eq_zero ha)
  · rcases hl with hl | ⟨g', o', cur, h1, h2, h3, h4, h5, h6⟩
    · cases hl
    · injection h2 with h2
      injection h2 with h2 h2'
      subst h2 h2'
      refine .inr ⟨g, o + 2, cur, h1, ha, h3, h4, fun j hj => ?_, by omega⟩
      have := h5 (j + 1) (by simp; omega)
      rw [show o + (j + 1) * 2 = o + 2 + j * 2 by omega] at this
      exact this
/-- a list ahead of the lines is another one, which was made behind all these -/
theorem EX.hput {A B : List Lv} {x y : Lv} {w0 : World} (h : EX base z (A ++ y :: B) fs vl w0) (hz : ∀ k ∈ z, k < w0.heap.size) (hb : Below w0.heap.size w0 w) (hx : w.ownsRow base 3 1 x.2.1 x.2.2.length (x.2.2.map (Value.int .i64))) (hn : ∀ k, x.2.1.ownBlock = some k → w0.heap.size ≤ k) : EX base z (A ++ x :: B) fs vl w := by
  obtain ⟨pre, hos, a, cap, e, hc, hl⟩ := h
  have key : ∀ pr : List Nat, pr.Sublist pre → (∀ k ∈ pr, k < w0.heap.size) → OS base (z ++ pr) (A ++ x :: B ++ fs) w := fun pr hpr hlt0 => by
    have hos2 : OS base (z ++ pr) (A ++ y :: (B ++ fs)) w0 := by
      have : A ++ y :: B ++ fs = A ++ y :: (B ++ fs) := by simp
      rw [← this]
      exact ⟨hos.own, hos.nd.sublist (((List.Sublist.refl z).append hpr).append (List.Sublist.refl _))⟩
    have hlt : ∀ k ∈ obs A ++ obs (B ++ fs), k < w0.heap.size := fun k hk => by
      refine (hos2.lt k ?_).2
      rw [obs_mid]
      rcases List.mem_append.1 hk with hk | hk
      · exact List.mem_append_left _ hk
      · exact List.mem_append_right _ (List.mem_append_right _ hk)
    have : A ++ x :: B ++ fs = A ++ x :: (B ++ fs) := by simp
    rw [this]
    refine hos2.swp (fun k hk => hb.block k (hlt k hk)) hx (fun k hk => ?_)
    have hk' := hn k hk
    refine ⟨fun hm => ?_, fun hm => by have := hlt k (List.mem_append_left _ hm); omega, fun hm => by have := hlt k (List.mem_append_right _ hm); omega⟩
    rcases List.mem_append.1 hm with hm | hm
    · have := hz k hm; omega
    · have := hlt0 k hm; omega
  rcases hl with hl | ⟨g, o, cur, h1, h2, h3, h4, h5, h6⟩
  · exact ⟨[], key [] (List.nil_sublist _) (fun k hk => by simp at hk), a, cap, e, hc, .inl hl⟩
  · have hgs := (Array.getElem?_eq_some_iff.1 h4).1
    exact ⟨pre, key pre (List.Sublist.refl _) (fun k hk => by rw [h1] at hk; simp at hk; omega), a, cap, e, hc, .inr ⟨g, o, cur, h1, h2, h3, (hb.block g hgs).trans h4, h5, h6⟩⟩
theorem EX.mono {b2 : Nat} {z2 : List Nat} (h : EX base z hd fs vl w) (hb : b2 ≤ base) (hz : z2.Sublist z) : EX b2 z2 hd fs vl w := by
  obtain ⟨pre, hos, a, cap, e, hc, hl⟩ := h
  refine ⟨pre, ⟨fun f hf => own_mn (hos.own f hf) hb, hos.nd.sublist ((hz.append (List.Sublist.refl _)).append (List.Sublist.refl _))⟩, a, cap, e, hc, ?_⟩
  rcases hl with hl | ⟨g, o, cur, h1, h2, h3, h4, h5, h6⟩
  · exact .inl hl
  · exact .inr ⟨g, o, cur, h1, h2, Nat.le_trans hb h3, h4, h5, h6⟩
/-- blocks that were not there are beside them -/
theorem EX.beside {k : Nat} (h : EX base z hd fs vl w) (hk : w.heap.size ≤ k) (hz : k ∉ z) : EX base (k :: z) hd fs vl w := by
  obtain ⟨pre, hos, a, cap, e, hc, hl⟩ := h
  have key : ∀ pr : List Nat, pr.Sublist pre → (∀ j ∈ pr, j < w.heap.size) → OS base (k :: z ++ pr) (hd ++ fs) w := fun pr hpr hlt => by
    refine ⟨hos.own, ?_⟩
    have h2 : (z ++ pr ++ obs (hd ++ fs)).Nodup := hos.nd.sublist (((List.Sublist.refl z).append hpr).append (List.Sublist.refl _))
    show (k :: (z ++ pr ++ obs (hd ++ fs))).Nodup
    rw [List.nodup_cons]
    refine ⟨fun hm => ?_, h2⟩
    rcases List.mem_append.1 hm with hm | hm
    · rcases List.mem_append.1 hm with hm | hm
      · exact hz hm
      · have := hlt k hm; omega
    · have := (hos.lt k hm).2; omega
  rcases hl with hl | ⟨g, o, cur, h1, h2, h3, h4, h5, h6⟩
  · exact ⟨[], key [] (List.nil_sublist _) (fun j hj => by simp at hj), a, cap, e, hc, .inl hl⟩
  · have hgs := (Array.getElem?_eq_some_iff.1 h4).1
    exact ⟨pre, key pre (List.Sublist.refl _) (fun j hj => by rw [h1] at hj; simp at hj; omega), a, cap, e, hc, .inr ⟨g, o, cur, h1, h2, h3, h4, h5, h6⟩⟩
end
/-- the lines' lists up to the i-th are one's own -/
def EY (base : Nat) (hd fs : List Lv) (i : Nat) (vl : Value) (w : World) : Prop :=
  ∃ pre, OS base pre (hd ++ fs.take i) w ∧ LnY base pre vl fs w
section
variable {base : Nat} {hd fs : List Lv} {vl : Value} {w wr w' : World} {i : Nat}
theorem EY.all (h : EY base hd fs fs.length vl w) : EX base [] hd fs vl w := by
  obtain ⟨pre, hos, hl⟩ := h
  rw [List.take_length] at hos
  exact ⟨pre, hos, hl⟩
theorem EY.below (h : EY base hd fs i vl w) (hb : Below w.heap.size w w') : EY base hd fs i vl w' := by
  obtain ⟨pre, hos, a, cap, e, hc, hl⟩ := h
  refine ⟨pre, hos.below hb, a, cap, e, hc, ?_⟩
  rcases hl with hl | ⟨g, o, cur, h1, h2, h3, h4, h5, h6⟩
  · exact .inl hl
  · exact .inr ⟨g, o, cur, h1, h2, h3, (hb.block g (Array.getElem?_eq_some_iff.1 h4).1).trans h4, h5, h6⟩
theorem EY.keep (h : EY base hd fs i vl w) (hb : ∀ b, base ≤ b → b < w.heap.size → w'.heap[b]? = w.heap[b]?) : EY base hd fs i vl w' := by
  obtain ⟨pre, hos, a, cap, e, hc, hl⟩ := h
  refine ⟨pre, hos.keep (fun k hk => hb k (hos.lt k hk).1 (hos.lt k hk).2), a, cap, e, hc, ?_⟩
  rcases hl with hl | ⟨g, o, cur, h1, h2, h3, h4, h5, h6⟩
  · exact .inl hl
  · exact .inr ⟨g, o, cur, h1, h2, h3, (hb g h3 (Array.getElem?_eq_some_iff.1 h4).1).trans h4, h5, h6⟩
theorem EY.at (h : EY base hd fs i vl w) {j : Nat} (hj : j < fs.length) : ∃ g o cap, vl = .slice (some ⟨g, o, none⟩) fs.length cap ∧ fs.length ≤ cap ∧ base ≤ g ∧ g < w.heap.size ∧ w.cell? ⟨g, o + j * 2, none⟩ = some (.int .i64 (fs.getD j (0, undef, [])).1) ∧ w.cell? ⟨g, o + j * 2 + 1, none⟩ = some (fs.getD j (0, undef, [])).2.1 ∧ w.frozen? ⟨g, o + j * 2 + 1, none⟩ = false := by
  obtain ⟨pre, hos, a, cap, rfl, hc, hl⟩ := h
  rcases hl with hl | ⟨g, o, cur, h1, rfl, h3, h4, h5, h6⟩
  · subst hl; simp at hj
  · exact ⟨g, o, cap, rfl, hc, h3, (Array.getElem?_eq_some_iff.1 h4).1, by rw [cell_of_row _ _ _ _ _ _ h4]; exact (h5 j hj).1, by rw [cell_of_row _ _ _ _ _ _ h4]; exact (h5 j hj).2, frozen_of_row _ _ _ _ _ h4⟩
/-- the next line's list becomes one's own -/
theorem EY.step (h : EY base hd fs i vl wr) {g o cap : Nat} (hv : vl = .slice (some ⟨g, o, none⟩) fs.length cap) (hi : i < fs.length) (hg : Below wr.heap.size wr w') {x : Value} {C : List Int} (hx : w'.ownsRow base 3 1 x C.length (C.map (Value.int .i64))) (hxb : ∀ k, x.ownBlock = some k → wr.heap.size ≤ k) :
    EY base hd (fs.set i ((fs.getD i (0, undef, [])).1, x, C)) (i + 1) vl (w'.setCell ⟨g, o + i * 2 + 1, none⟩ x) ∧ w'.cell? ⟨g, o + i * 2 + 1, none⟩ = some (fs.getD i (0, undef, [])).2.1 ∧ w'.frozen? ⟨g, o + i * 2 + 1, none⟩ = false := by
  obtain ⟨pre, hos, a, cap', e, hc, hl⟩ := h
  rw [hv] at e
  injection e with e1 e2 e3
  subst e1 e3
  rcases hl with hl | ⟨g', o', cur, h1, h2, h3, h4, h5, h6⟩
  · subst hl; simp at hi
  injection h2 with h2
  injection h2 with h2 h2'
  subst h2 h2'
  have hgs := (Array.getElem?_eq_some_iff.1 h4).1
  have hw'g : w'.heap[g]? = some (.cells cur 43 (0, 0)) := (hg.block g hgs).trans h4
  have hn : ∀ k, x.ownBlock = some k → k ∉ pre ∧ k ∉ obs (hd ++ fs.take i) := fun k hk => ⟨fun hm => by
    rw [h1] at hm
    simp at hm
    have := hxb k hk
    omega, fun hm => by
    have := (hos.lt k hm).2
    have := hxb k hk
    omega⟩
  have hos2 := (hos.below hg).snoc (f := (fs.getD i (0, undef, [])).1) hx hn
  have ho : ∀ b, b ≠ g → (w'.setCell ⟨g, o + i * 2 + 1, none⟩ x).heap[b]? = w'.heap[b]? := fun b hne => heap_setCell_other _ _ _ _ hne
  have htk : hd ++ (fs.set i ((fs.getD i (0, undef, [])).1, x, C)).take (i + 1) = hd ++ fs.take i ++ [((fs.getD i (0, undef, [])).1, x, C)] := by
    rw [List.append_assoc]
    congr 1
    rw [List.set_eq_take_append_cons_drop, if_pos hi, List.take_append, List.length_take, Nat.min_eq_left (Nat.le_of_lt hi), show i + 1 - i = 1 by omega, List.take_succ_cons, List.take_zero, List.take_of_length_le (by rw [List.length_take]; omega)]
  have hob : ∀ k ∈ obs (hd ++ fs.take i ++ [((fs.getD i (0, undef, [])).1, x, C)]), k ≠ g := fun k hk e => by
    have := List.nodup_append.1 hos2.nd
    exact this.2.2 g (by rw [h1]; simp) k hk e.symm
  refine ⟨⟨pre, ?_, some ⟨g, o, none⟩, cap, ?_, ?_, .inr ⟨g, o, cur.setIfInBounds (o + i * 2 + 1) x, h1, rfl, h3, ?_, fun j hj => ?_, by rw [Array.size_setIfInBounds]; exact h6⟩⟩, ?_, ?_⟩
  · rw [htk]
    exact hos2.keep (fun k hk => ho k (hob k hk))
  · rw [hv, List.length_set]
  · rw [List.length_set]; exact hc
  · rw [Go.heap_setCell_same _ _ _ _ _ _ hw'g]
  · rw [List.length_set] at hj
    have hne0 : o + i * 2 + 1 ≠ o + j * 2 := by omega
    rw [Array.getElem?_setIfInBounds, if_neg hne0, Array.getElem?_setIfInBounds]
    have h5i := h5 j hj
    by_cases hij : j = i
    · subst hij
      have hsz : o + j * 2 + 1 < cur.size := (Array.getElem?_eq_some_iff.1 h5i.2).1
      rw [if_pos rfl, if_pos hsz]
      have : (fs.set j ((fs.getD j (0, undef, [])).1, x, C)).getD j (0, undef, []) = ((fs.getD j (0, undef, [])).1, x, C) := by simp [List.getD, hj]
      rw [this]
      exact ⟨h5i.1, rfl⟩
    · have hne1 : o + i * 2 + 1 ≠ o + j * 2 + 1 := by omega
      rw [if_neg hne1]
      have : (fs.set i ((fs.getD i (0, undef, [])).1, x, C)).getD j (0, undef, []) = fs.getD j (0, undef, []) := by
        simp only [List.getD, List.getElem?_set]
        rw [if_neg (fun e => hij e.symm)]
      rw [this]
      exact h5i
  · rw [cell_of_row _ _ _ _ _ _ hw'g, (h5 i hi).2]
  · exact frozen_of_row _ _ _ _ _ hw'g
end
end Go.Proofs.YtjhleocpipmklaaDoor
/- slices.Insert, slices.Clone of lines, laid at this program -/
namespace Go.Proofs
set_option linter.unusedVariables false
open Go.Shelf Go.RowKit
def Tryd.laysNm221_ren : Go.Shelf.Ren := ⟨fun | 21 => 64 | 27 => 77 | 28 => 78 | 35 => 95 | 39 => 111 | n => n, fun | 22 => 22 | 3 => 3 | 4 => 4 | 0 => 0 | n => n, fun | n => n⟩
theorem Tryd.laysNm221 : Go.Proofs.Lays2.n21 Tryd.prog Tryd.laysNm221_ren := {
  mixed := by kernel_rfl
  f21 := Tryd.func64.trans (congrArg some (by kernel_rfl))
  f27 := Tryd.func77.trans (congrArg some (by kernel_rfl))
  f28 := Tryd.func78.trans (congrArg some (by kernel_rfl))
  f35 := Tryd.func95.trans (congrArg some (by kernel_rfl))
  f39 := Tryd.func111.trans (congrArg some (by kernel_rfl))
  t0 := Tryd.underlying0
  a0 := Tryd.isAgg0
  z0 := Tryd.sizeOf0
  v0 := Tryd.zeroValue0
  t3 := Tryd.underlying3
  a3 := Tryd.isAgg3
  z3 := Tryd.sizeOf3
  v3 := Tryd.zeroValue3
  t4 := Tryd.underlying4
  a4 := Tryd.isAgg4
  z4 := Tryd.sizeOf4
  v4 := Tryd.zeroValue4
  t22 := Tryd.underlying22
  a22 := Tryd.isAgg22
  z22 := Tryd.sizeOf22
  v22 := Tryd.zeroValue22
  i3 := by kernel_rfl }
def Tryd.laysClL_ren : Go.Shelf.Ren := ⟨fun | 41 => 60 | n => n, fun | 22 => 24 | 23 => 43 | 4 => 4 | n => n, fun | n => n⟩
theorem Tryd.laysClL : Go.Proofs.SlLaysE0.n41 Tryd.prog Tryd.laysClL_ren := {
  mixed := by kernel_rfl
  f41 := ⟨Tryd.f60.name, by decide, Tryd.func60.trans (congrArg some (by kernel_rfl))⟩
  t4 := Tryd.underlying4
  a4 := Tryd.isAgg4
  z4 := Tryd.sizeOf4
  v4 := Tryd.zeroValue4
  t22 := Tryd.underlying24
  a22 := Tryd.isAgg24
  z22 := Tryd.sizeOf24
  v22 := Tryd.zeroValue24 }
def Tryd.laysGrw_ren : Go.Shelf.Ren := ⟨fun | 4 => 73 | n => n, fun | 22 => 22 | 25 => 3 | 3 => 3 | 4 => 4 | 9 => 9 | 20 => 20 | 0 => 0 | n => n, fun | n => n⟩
theorem Tryd.laysGrw : Go.Proofs.Lays8.n4 Tryd.prog Tryd.laysGrw_ren := {
  mixed := by kernel_rfl
  f4 := ⟨Tryd.f73.name, by decide, Tryd.func73.trans (congrArg some (by kernel_rfl))⟩
  t0 := Tryd.underlying0
  a0 := Tryd.isAgg0
  z0 := Tryd.sizeOf0
  v0 := Tryd.zeroValue0
  t3 := Tryd.underlying3
  a3 := Tryd.isAgg3
  z3 := Tryd.sizeOf3
  v3 := Tryd.zeroValue3
  t4 := Tryd.underlying4
  a4 := Tryd.isAgg4
  z4 := Tryd.sizeOf4
  v4 := Tryd.zeroValue4
  t9 := Tryd.underlying9
  a9 := Tryd.isAgg9
  z9 := Tryd.sizeOf9
  v9 := Tryd.zeroValue9
  t20 := Tryd.underlying20
  a20 := Tryd.isAgg20
  z20 := Tryd.sizeOf20
  v20 := Tryd.zeroValue20
  t22 := Tryd.underlying22
  a22 := Tryd.isAgg22
  z22 := Tryd.sizeOf22
  v22 := Tryd.zeroValue22 }
end Go.Proofs
/- a drawn region whose last operation writes what the region reads: S holds behind every operation but number m, which waits for what is read; of no dump -/
namespace Go.Pin
open Go.RowKit
section
variable {P : Program} {ops : Array Oper} {Q : Exit → Act → World → Prop} {S : World → Prop} {m : Nat}
def wpL (P : Program) (ops : Array Oper) (Q : Exit → Act → World → Prop) (S : World → Prop) (m : Nat) : Nat → Array Bool → Act → World → Prop
  | 0, l, a, w => Region.ready .any ops l = [] ∧ Q .normal a w
  | n + 1, l, a, w => (Region.ready .any ops l = [] → Q .normal a w) ∧ ∀ j ∈ Region.ready .any ops l, wpOp P ops Q j (fun a' w' => (j = m ∨ S w') ∧ wpL P ops Q S m n (l.setIfInBounds j true) a' w') a w
theorem wpL_any (n : Nat) : ∀ (l : Array Bool) (a : Act) (w : World), wpL P ops Q S m n l a w → wpAny P .any ops Q n l a w := by
  induction n with
  | zero => exact fun _ _ _ h => h
  | succ n ih => exact fun l a w h => ⟨h.1, fun j hj => wpOp_mono (fun a' w' k => ih _ _ _ k.2) (h.2 j hj)⟩
theorem wpL_first {i : Nat} {oi om : Oper} {v : Value} (hi : ops[i]? = some oi) (hsel : ∀ (j : Nat) (o : Oper) cs b, ops[j]? = some o → o.op ≠ .select cs b) (hQ : ∀ c a w, Q (.panic c) (a.put oi.dst v) w → Q (.panic c) a w)
    (hm : ops[m]? = some om) (hwait : ∃ e ∈ om.after, Region.binds .any e = true ∧ e.on = i) (n : Nat) : ∀ (l : Array Bool) (a : Act) (w : World),
      (∀ j oj, ops[j]? = some oj → j ≠ i → l.getD j true = false → (∀ e ∈ oj.after, Region.binds .any e = true → e.on ≠ i) → oi.apart ops oj = true) →
      i ∈ Region.ready .any ops l → YieldsIf P ops S oi v a → S w → wpL P ops Q S m n (l.setIfInBounds i true) (a.put oi.dst v) w → wpL P ops Q S m (n + 1) l a w := by
  induction n with
  | zero =>
    intro l a w _ hr hy hS H
    refine ⟨fun h => (by rw [h] at hr; cases hr), fun j hj => ?_⟩
    by_cases e : j = i
    · rw [e]; exact hy.wpOp hi hS ⟨.inr hS, H⟩
    · have := ready_mono hj e
      rw [H.1] at this
      cases this
  | succ n ih =>
    intro l a w hfree hr hy hS H
    refine ⟨fun h => (by rw [h] at hr; cases hr), fun j hj => ?_⟩
    by_cases e : j = i
    · rw [e]; exact hy.wpOp hi hS ⟨.inr hS, H⟩
    · obtain ⟨hun, oj, hoj, hall⟩ := mem_ready.1 hj
      have hno : ∀ x ∈ oj.after, Region.binds .any x = true → x.on ≠ i := fun x hx hb he => by
        have h1 := hall x hx hb
        have h0 := (mem_ready.1 hr).1
        rw [he] at h1
        by_cases hl : i < l.size
        · simp [hl] at h0 h1
          rw [h0] at h1
          cases h1
        · simp [Array.getElem?_eq_none (Nat.le_of_not_lt hl)] at h1
      have hjm : j ≠ m := fun hjm => by
        rw [hjm, hm] at hoj
        injection hoj with hoj
        obtain ⟨x, hx, hb, he⟩ := hwait
        exact hno x (hoj ▸ hx) hb he
      have h2 := wpOp_putIf hoj (hfree j oj hoj e hun hno) (fun cs b => hsel i oi cs b hi) (fun cs b => hsel j oj cs b hoj) hQ hy (H.2 j (ready_mono hj e))
      refine wpOp_mono (fun a' w' k => ?_) h2
      have hS' : S w' := k.2.1.resolve_left hjm
      refine ⟨.inr hS', ih (l.setIfInBounds j true) a' w' (fun t ot ht hti hut hnt => hfree t ot ht hti ?_ hnt) (ready_mono hr (Ne.symm e)) k.1 hS' ?_⟩
      · by_cases hjt : j = t
        · rw [← hjt]; exact hun
        · rw [getD_set_ne true hjt] at hut; exact hut
      · rw [Array.setIfInBounds_comm _ _ e]
        exact k.2.2
theorem wp_region_L (S : World → Prop) (m n : Nat) {id : Nat} {a : Act} {w : World} (hn : ops.size = n) (hm : P.follows .mixedOrders = true) (hC : S w.drew)
    (h : ∀ (X : Type) (f : X → World), Nonempty X → (∀ x, S (f x)) → Hid (∀ Y, S Y → ∃ x, Y = f x) → wpL P ops Q S m n (Array.replicate n false) a w.drew) : (Code.region id ops true).wp P Q a w := by
  have := h {w // S w} Subtype.val ⟨⟨_, hC⟩⟩ (fun x => x.2) (fun Y hY => ⟨⟨Y, hY⟩, rfl⟩)
  subst hn
  exact wp_region_any hm (wpL_any _ _ _ _ this)
variable {fuel : Nat} {listed : Array Bool} {a : Act} {w : World}
theorem takeL {X : Type} {f : X → World} (i : Nat) {o om : Oper} (hi : ops[i]? = some o) (hm : ops[m]? = some om) (hwt : (om.after.any fun e => Region.binds .any e && e.on == i) = true) (hs : Region.noSelect ops = true) (hf : Region.free .any ops listed i = true) (hr : (Region.ready .any ops listed).contains i = true)
    (hp : plainB o.op = true) (hQ : ∀ c (a : Act) d v w, Q (.panic c) (a.put d v) w → Q (.panic c) a w) (hS : S w) (hC : ∀ Y, S Y → ∃ x, Y = f x) (hw : Region.wanted o (yielded ops a.tmps) = true)
    (h : ∀ K : Act → Prop, (∀ a', wpL P ops Q S m fuel (listed.setIfInBounds i true) a' w → K a') → o.quiet P a (fun w' => ∃ x, w' = f x) K) : wpL P ops Q S m (fuel + 1) listed a w := by
  obtain ⟨v, h1, h2⟩ := h _ (fun _ h => h)
  have hwait : ∃ e ∈ om.after, Region.binds .any e = true ∧ e.on = i := by
    obtain ⟨k, hk, e⟩ := Array.any_eq_true.1 hwt
    rw [Bool.and_eq_true] at e
    exact ⟨_, Array.getElem_mem hk, e.1, by simpa using e.2⟩
  refine wpL_first hi (Region.noSelect_spec hs) (fun _ _ _ h => hQ _ _ _ _ _ h) hm hwait fuel listed a w (Region.free_spec hi hf) (by simpa using hr) (.inl ⟨hw, fun w hw => ?_⟩) hS h2
  have := h1 w (hC w hw)
  unfold Oper.quietAt at this
  cases e : (execOp a.eval o).run P w with
  | ok n w' =>
    obtain ⟨u, rfl⟩ := plain_ok hp e
    rw [e] at this
    obtain ⟨rfl, rfl⟩ := this
    rfl
  | halt x w' => rw [e] at this; exact this.elim
theorem skipL (i : Nat) {o om : Oper} (hi : ops[i]? = some o) (hm : ops[m]? = some om) (hwt : (om.after.any fun e => Region.binds .any e && e.on == i) = true) (hs : Region.noSelect ops = true) (hf : Region.free .any ops listed i = true) (hr : (Region.ready .any ops listed).contains i = true)
    (hQ : ∀ c (a : Act) d v w, Q (.panic c) (a.put d v) w → Q (.panic c) a w) (hS : S w) (hw : Region.wanted o (yielded ops a.tmps) = false)
    (h : wpL P ops Q S m fuel (listed.setIfInBounds i true) (a.put o.dst undef) w) : wpL P ops Q S m (fuel + 1) listed a w := by
  have hwait : ∃ e ∈ om.after, Region.binds .any e = true ∧ e.on = i := by
    obtain ⟨k, hk, e⟩ := Array.any_eq_true.1 hwt
    rw [Bool.and_eq_true] at e
    exact ⟨_, Array.getElem_mem hk, e.1, by simpa using e.2⟩
  exact wpL_first hi (Region.noSelect_spec hs) (fun _ _ _ h => hQ _ _ _ _ _ h) hm hwait fuel listed a w (Region.free_spec hi hf) (by simpa using hr) (.inr ⟨hw, rfl⟩) hS h
theorem readyL (i : Nat) {o : Oper} (hi : ops[i]? = some o) (hr : Region.ready .any ops listed = [i]) (hw : Region.wanted o (yielded ops a.tmps) = true)
    (h : ∀ K : Act → World → Prop, (∀ a' w', i = m ∨ S w' → wpL P ops Q S m fuel (listed.setIfInBounds i true) a' w' → K a' w') → Oper.wp P o a w K Q) : wpL P ops Q S m (fuel + 1) listed a w := by
  refine ⟨fun h0 => (by rw [hr] at h0; cases h0), fun j hj => ?_⟩
  rw [hr] at hj
  obtain rfl : j = i := by simpa using hj
  refine wpOp_step hi (fun K hK => ?_)
  rw [if_pos hw]
  exact h K (fun a' w' h1 h2 => hK a' w' ⟨h1, h2⟩)
theorem wpL_done (hr : Region.ready .any ops listed = []) (h : Q .normal a w) : wpL P ops Q S m fuel listed a w := by
  cases fuel with
  | zero => exact ⟨hr, h⟩
  | succ n => exact ⟨fun _ => h, by rw [hr]; simp⟩
end
end Go.Pin
namespace Go.Proofs.YtjhleocpipmklaaDoor
set_option linter.unusedSimpArgs false
set_option linter.unusedVariables false
set_option maxRecDepth 100000
open Go.ChangeShapes Go.WideShapes Go.ChangeAt Go.RowKit Go.Pin Go.Pat Go.Deep
/-- slices.Clone of numbers -/
theorem clone_ints (v : Value) (C : List Int) (w : World) (h : RdN w v C) (hC : C.length ≤ 1000) :
    Calls Tryd.prog 59 #[v] w fun e w' => ∃ v', e = .returned v' ∧ w'.ownsRow w.heap.size 3 1 v' C.length (C.map (Value.int .i64)) ∧ Below w.heap.size w w' := by
  obtain ⟨a, cap, rfl, ⟨hc1, hc2⟩, _, h3⟩ := h
  cases a with
  | none =>
    have h0 := hc2 rfl
    obtain rfl : C = [] := List.length_eq_zero_iff.1 (by omega)
    refine (Tryd.slices_Clone_int_nil _ _ w).mono ?_
    rintro e w' ⟨rfl, rfl⟩
    exact ⟨_, rfl, ⟨by simp, .inl ⟨rfl, rfl⟩⟩, Below.refl _ _⟩
  | some ad =>
    rcases h3 with h3 | ⟨b, o, e, hr⟩
    · subst h3
      refine (Tryd.slices_Clone_int_zero ad cap w).mono ?_
      rintro e w' ⟨v', rfl, h1, _, h2⟩
      exact ⟨v', rfl, h1, h2⟩
    · injection e with e
      subst e
      refine (Tryd.slices_Clone_int b o C.length cap C w (Nat.le_refl _) (by omega) (fun j hj => ?_)).mono ?_
      · refine hr j _ ?_
        simp [List.getD, hj]
      · rintro e w' ⟨v', rfl, h1, _, h2⟩
        rw [List.take_length] at h1
        exact ⟨v', rfl, h1, h2⟩
theorem lvc_get (l : List Lv) {j : Nat} {u : Value} (h : (lvc l)[j]? = some u) : j / 2 < l.length ∧ u = if j % 2 = 0 then .int .i64 (l.getD (j / 2) (0, undef, [])).1 else (l.getD (j / 2) (0, undef, [])).2.1 := by
  have hj : j < l.length * 2 := by
    have := (List.getElem?_eq_some_iff.1 h).1
    rwa [lvc_length] at this
  have h2 := lvc_at l (j / 2) (by omega)
  refine ⟨by omega, ?_⟩
  by_cases hm : j % 2 = 0
  · rw [if_pos hm]
    have : j / 2 * 2 = j := by omega
    rw [this] at h2
    rw [h2.1] at h
    injection h with h
    exact h.symm
  · rw [if_neg hm]
    have : j / 2 * 2 + 1 = j := by omega
    rw [this] at h2
    rw [h2.2] at h
    injection h with h
    exact h.symm
/-- slices.Clone of lines -/
theorem clone_lines (v : Value) (L : List Ln) (W w : World) (h : RdL W v L) (hB : Below W.heap.size W w) (h0 : 0 < L.length) (hL : L.length ≤ 1000) :
    Calls Tryd.prog 60 #[v] w fun e w' => ∃ (v' : Value) (fs : List Lv), e = .returned v' ∧ lvl fs = L ∧ (∀ f ∈ fs, RdN W f.2.1 f.2.2) ∧ EY w.heap.size [] fs 0 v' w' ∧ Below w.heap.size w w' := by
  obtain ⟨a, cap, rfl, hc, _, h3⟩ := h
  obtain ⟨b, o, _, rfl, hc0, _⟩ := h3 0 h0
  have hbk : w.heap[b]? = W.heap[b]? := hB.block b (World.block_lt_of_cell? W _ hc0)
  have h3' : ∀ j, j < L.length → ∃ u, W.cell? ⟨b, o + j * 2, none⟩ = some (.int .i64 (L.getD j (0, [])).1) ∧ W.cell? ⟨b, o + j * 2 + 1, none⟩ = some u ∧ RdN W u (L.getD j (0, [])).2 := fun j hj => by
    obtain ⟨b', o', u, e, g1, g2, g3⟩ := h3 j hj
    injection e with e
    injection e with e1 e2
    subst e1 e2
    exact ⟨u, g1, g2, g3⟩
  obtain ⟨fs, hfs⟩ : ∃ fs : List Lv, fs = (List.range L.length).map fun j => ((L.getD j (0, [])).1, (W.cell? ⟨b, o + j * 2 + 1, none⟩).getD undef, (L.getD j (0, [])).2) := ⟨_, rfl⟩
  have hlen : fs.length = L.length := by rw [hfs]; simp
  have hat : ∀ j, j < L.length → fs.getD j (0, undef, []) = ((L.getD j (0, [])).1, (W.cell? ⟨b, o + j * 2 + 1, none⟩).getD undef, (L.getD j (0, [])).2) := fun j hj => by
    rw [hfs]; simp [List.getD, hj]
  have hlv : lvl fs = L := by
    apply List.ext_getElem
    · simp [lvl, hlen]
    · intro j h1 h2
      simp [lvl, hfs, List.getD, h2]
  have hrd : ∀ f ∈ fs, RdN W f.2.1 f.2.2 := fun f hf => by
    rw [hfs] at hf
    obtain ⟨j, hj, rfl⟩ := List.mem_map.1 hf
    obtain ⟨u, _, g2, g3⟩ := h3' j (List.mem_range.1 hj)
    simp only [g2, Option.getD_some]
    exact g3
  have hcell : ∀ j u, (lvc fs)[j]? = some u → w.cell? ⟨b, o + j, none⟩ = some u := fun j u hu => by
    obtain ⟨hj, hv⟩ := lvc_get fs hu
    rw [hlen] at hj
    rw [hat _ hj] at hv
    rw [World.cell?_of_block (a := ⟨b, o + j, none⟩) hbk]
    obtain ⟨u', g1, g2, _⟩ := h3' _ hj
    by_cases hm : j % 2 = 0
    · rw [if_pos hm] at hv
      rw [hv, show o + j = o + j / 2 * 2 by omega]
      exact g1
    · rw [if_neg hm] at hv
      rw [hv, show o + j = o + j / 2 * 2 + 1 by omega]
      simp only [g2, Option.getD_some]
  obtain ⟨i0, hi, hz⟩ := Option.map_eq_some_iff.1 (show (Tryd.prog.info? 43).map (fun i => (i.zero, i.size, i.bytes)) = some (some (.agg #[.int .i64 0, .slice none 0 0]), 2, 32) by kernel_rfl)
  simp only [Prod.mk.injEq] at hz
  obtain ⟨z1, z2, z3⟩ := hz
  have key := AnyE.slices_Clone Tryd.laysClL i0 (.agg #[.int .i64 0, .slice none 0 0]) 2 32 hi z1 z2 z3 rfl (by decide) (fun w => by kernel_rfl) b o L.length cap (lvc fs) w (by rw [lvc_length, hlen]) (by unfold maxLen; omega) (by omega) hcell (fun u hu => by
    obtain ⟨j, hj⟩ := List.getElem?_of_mem hu
    obtain ⟨hj2, hv⟩ := lvc_get fs hj
    rw [hv]
    by_cases hm : j % 2 = 0
    · rw [if_pos hm]; rfl
    · rw [if_neg hm]
      have hmem : fs.getD (j / 2) (0, undef, []) ∈ fs := by simp [List.getD, hj2]
      obtain ⟨a', c', e', _⟩ := hrd _ hmem
      rw [e']; rfl)
  refine Calls.mono key ?_
  rintro e w' ⟨v', rfl, hown, hne, hb⟩
  refine ⟨v', fs, rfl, hlv, hrd, ?_, hb⟩
  rcases hown.2 with ⟨_, h⟩ | ⟨g, cp, cur, rfl, h1, h2, h4, h5, h6, h7⟩
  · omega
  · refine ⟨[g], ⟨fun f hf => by simp at hf, by simp [obs]⟩, _, cp, by rw [hlen], by rw [hlen]; exact h4, .inr ⟨g, 0, cur, rfl, rfl, h1, h2, fun j hj => ?_, by omega⟩⟩
    have hj2 := lvc_at fs j hj
    rw [← h7] at hj2
    rw [hlen] at hj
    rw [List.getElem?_take_of_lt (by omega), List.getElem?_take_of_lt (by omega)] at hj2
    simpa using hj2
end Go.Proofs.YtjhleocpipmklaaDoor
