import Derived.Deep.RegionHeld3
import Derived.Test.YtmlcgcmoioekpabGreatDoorMqac
import Derived.Test.YtmlcgcmoioekpabGreatDoorMqaa
import Derived.Test.YtmlcgcmoioekpabGreatDoorMqab
/- a pattern of the call's own: its lists lie in blocks of their own, beside blocks z that none of them is -/
namespace Go.Proofs.YtmlcgcmoioekpabGreatDoor
set_option linter.unusedSimpArgs false
set_option linter.unusedVariables false
set_option maxRecDepth 100000
open Go.ChangeShapes Go.WideShapes Go.ChangeAt Go.RowKit Go.Pin Go.Pat
theorem nodup_dl {P A B C : List Nat} (h : (P ++ (A ++ (B ++ C))).Nodup) : (P ++ (A ++ C)).Nodup :=
  List.Nodup.sublist ((List.Sublist.refl P).append ((List.Sublist.refl A).append (List.sublist_append_right B C))) h
theorem own_mn {w : World} {b b2 : Nat} {e : TypeId} {k n : Nat} {v : Value} {xs : List Value} (h : w.ownsRow b e k v n xs) (hb : b2 ≤ b) : w.ownsRow b2 e k v n xs := by
  refine ⟨h.1, ?_⟩
  rcases h.2 with h0 | ⟨g, cap, cur, rfl, h1, hg, hr⟩
  · exact .inl h0
  · exact .inr ⟨g, cap, cur, rfl, Nat.le_trans hb h1, hg, hr⟩
theorem obs_mid (A : List Lv) (y : Lv) (B : List Lv) : obs (A ++ y :: B) = obs A ++ (y.2.1.ownBlock.toList ++ obs B) := by
  rw [obs_app, show y :: B = [y] ++ B from rfl, obs_app [y] B, obs_one]
theorem OS.swp {base : Nat} {pre : List Nat} {A B : List Lv} {x y : Lv} {w w' : World} (h : OS base pre (A ++ y :: B) w) (hk : ∀ k ∈ obs A ++ obs B, w'.heap[k]? = w.heap[k]?) (hx : w'.ownsRow base 3 1 x.2.1 x.2.2.length (x.2.2.map (Value.int .i64))) (hn : ∀ k, x.2.1.ownBlock = some k → k ∉ pre ∧ k ∉ obs A ∧ k ∉ obs B) : OS base pre (A ++ x :: B) w' := by
  have hnd := h.nd
  rw [show A ++ y :: B = A ++ ([y] ++ B) from rfl, obs_app, obs_app, obs_one] at hnd
  refine ⟨fun f hf => ?_, ?_⟩
  · rcases List.mem_append.1 hf with hf | hf
    · refine own_keep (h.own f (List.mem_append_left _ hf)) (fun g hg => hk g (List.mem_append_left _ (obs_mem hf hg)))
    · rcases List.mem_cons.1 hf with rfl | hf
      · exact hx
      · refine own_keep (h.own f (List.mem_append_right _ (List.mem_cons_of_mem _ hf))) (fun g hg => hk g (List.mem_append_right _ (obs_mem hf hg)))
  · rw [show A ++ x :: B = A ++ ([x] ++ B) from rfl, obs_app, obs_app, obs_one]
    exact nodup_ins (nodup_dl hnd) hn
/-- the list of lines: where it lies, what its cells are -/
def LnY (base : Nat) (pre : List Nat) (vl : Value) (fs : List Lv) (w : World) : Prop :=
  ∃ a cap, vl = .slice a fs.length cap ∧ fs.length ≤ cap ∧ (fs = [] ∨ ∃ g o cur, pre = [g] ∧ a = some ⟨g, o, none⟩ ∧ base ≤ g ∧ w.heap[g]? = some (.cells cur 58 (0, 0)) ∧ ∀ j, j < fs.length → cur[o + j * 2]? = some (.int .i64 (fs.getD j (0, undef, [])).1) ∧ cur[o + j * 2 + 1]? = some (fs.getD j (0, undef, [])).2.1)
/-- a pattern's lists, of one's own -/
def EX (base : Nat) (z : List Nat) (hd fs : List Lv) (vl : Value) (w : World) : Prop :=
  ∃ pre, OS base (z ++ pre) (hd ++ fs) w ∧ LnY base pre vl fs w
section
variable {base : Nat} {z : List Nat} {hd fs : List Lv} {vl : Value} {w wr w' : World}
theorem os_apart {pre : List Nat} (h : OS base (z ++ pre) (hd ++ fs) w) : (∀ k ∈ obs (hd ++ fs), k ∉ z ∧ k ∉ pre) ∧ (∀ k ∈ pre, k ∉ z) := by
  have h1 := List.nodup_append.1 h.nd
  have h2 := List.nodup_append.1 h1.1
  exact ⟨fun k hk => ⟨fun hz => h1.2.2 k (List.mem_append_left _ hz) k hk rfl, fun hz => h1.2.2 k (List.mem_append_right _ hz) k hk rfl⟩, fun k hk hz => h2.2.2 k hz k hk rfl⟩
/-- what is not of the blocks z stays: so do the lists -/
theorem EX.keep (h : EX base z hd fs vl w) (hb : ∀ b, base ≤ b → b < w.heap.size → b ∉ z → w'.heap[b]? = w.heap[b]?) : EX base z hd fs vl w' := by
  obtain ⟨pre, hos, a, cap, e, hc, hl⟩ := h
  have hap := os_apart hos
  refine ⟨pre, hos.keep (fun k hk => hb k (hos.lt k hk).1 (hos.lt k hk).2 (hap.1 k hk).1), a, cap, e, hc, ?_⟩
  rcases hl with hl | ⟨g, o, cur, h1, h2, h3, h4, h5⟩
  · exact .inl hl
  · exact .inr ⟨g, o, cur, h1, h2, h3, (hb g h3 (Array.getElem?_eq_some_iff.1 h4).1 (hap.2 g (by rw [h1]; simp))).trans h4, h5⟩
theorem EX.below (h : EX base z hd fs vl w) (hb : Below w.heap.size w w') : EX base z hd fs vl w' := h.keep fun b _ hl _ => hb.block b hl
theorem EX.own (h : EX base z hd fs vl w) {f : Lv} (hf : f ∈ hd ++ fs) : w.ownsRow base 3 1 f.2.1 f.2.2.length (f.2.2.map (Value.int .i64)) := by
  obtain ⟨pre, hos, _⟩ := h
  exact hos.own f hf
theorem EX.slice (h : EX base z hd fs vl w) : ∃ a cap, vl = .slice a fs.length cap ∧ fs.length ≤ cap := by
  obtain ⟨pre, hos, a, cap, e, hc, _⟩ := h
  exact ⟨a, cap, e, hc⟩
theorem EX.ftl (h : EX base z hd fs vl w) (hn : fs.length ≤ 1000) (hf : ∀ f ∈ fs, f.2.2.length ≤ 1000) : FtL (fun b => base ≤ b ∧ b < w.heap.size) w vl (lvl fs) := by
  obtain ⟨pre, hos, a, cap, rfl, hc, hl⟩ := h
  have hlen : (lvl fs).length = fs.length := by simp [lvl]
  refine ⟨a, cap, by rw [hlen], by rw [hlen]; exact hc, by rw [hlen]; omega, fun j hj => ?_⟩
  rw [hlen] at hj
  rcases hl with hl | ⟨g, o, cur, h1, h2, h3, h4, h5⟩
  · subst hl; simp at hj
  · have hgd : (lvl fs).getD j (0, []) = ((fs.getD j (0, undef, [])).1, (fs.getD j (0, undef, [])).2.2) := by simp [lvl, List.getD, hj]
    have hm : fs.getD j (0, undef, []) ∈ fs := by simp [List.getD, hj]
    rw [hgd]
    exact ⟨g, o, _, ⟨h3, (Array.getElem?_eq_some_iff.1 h4).1⟩, h2, by rw [cell_of_row _ _ _ _ _ _ h4]; exact (h5 j hj).1, by rw [cell_of_row _ _ _ _ _ _ h4]; exact (h5 j hj).2, own_ft (hos.own _ (List.mem_append_right _ hm)) rfl (by have := hf _ hm; simp only; omega)⟩
/-- where a line's cells lie -/
theorem EX.at (h : EX base z hd fs vl w) {j : Nat} (hj : j < fs.length) : ∃ g o cap, vl = .slice (some ⟨g, o, none⟩) fs.length cap ∧ fs.length ≤ cap ∧ base ≤ g ∧ g < w.heap.size ∧ g ∉ z ∧ w.cell? ⟨g, o + j * 2, none⟩ = some (.int .i64 (fs.getD j (0, undef, [])).1) ∧ w.cell? ⟨g, o + j * 2 + 1, none⟩ = some (fs.getD j (0, undef, [])).2.1 ∧ w.frozen? ⟨g, o + j * 2 + 1, none⟩ = false ∧ w.ownsRow base 3 1 (fs.getD j (0, undef, [])).2.1 (fs.getD j (0, undef, [])).2.2.length ((fs.getD j (0, undef, [])).2.2.map (Value.int .i64)) ∧ ∀ k, (fs.getD j (0, undef, [])).2.1.ownBlock = some k → k ≠ g ∧ k ∉ z := by
  obtain ⟨pre, hos, a, cap, rfl, hc, hl⟩ := h
  have hap := os_apart hos
  rcases hl with hl | ⟨g, o, cur, h1, rfl, h3, h4, h5⟩
  · subst hl; simp at hj
  · have hm : fs.getD j (0, undef, []) ∈ hd ++ fs := List.mem_append_right _ (by simp [List.getD, hj])
    exact ⟨g, o, cap, rfl, hc, h3, (Array.getElem?_eq_some_iff.1 h4).1, hap.2 g (by rw [h1]; simp), by rw [cell_of_row _ _ _ _ _ _ h4]; exact (h5 j hj).1, by rw [cell_of_row _ _ _ _ _ _ h4]; exact (h5 j hj).2, frozen_of_row _ _ _ _ _ h4, hos.own _ hm, fun k hk => ⟨fun e => (hap.1 k (obs_mem hm hk)).2 (by rw [h1, e]; simp), (hap.1 k (obs_mem hm hk)).1⟩⟩
/-- a line gets another list of tokens: w' is the world behind the list's making, then the line's cell is set -/
theorem EX.put (h : EX base z hd fs vl wr) (hz : ∀ k ∈ z, k < wr.heap.size) {g o cap j : Nat} (hv : vl = .slice (some ⟨g, o, none⟩) fs.length cap) (hj : j < fs.length) {row : Option Nat} (hg : wr.grownBy w' row) (hr : ∀ k, row = some k → wr.heap.size ≤ k ∨ (fs.getD j (0, undef, [])).2.1.ownBlock = some k) {x : Value} {C : List Int} (hx : w'.ownsRow base 3 1 x C.length (C.map (Value.int .i64))) (hxb : x.ownBlock = (fs.getD j (0, undef, [])).2.1.ownBlock ∨ ∀ k, x.ownBlock = some k → wr.heap.size ≤ k) :
    EX base z hd (fs.set j ((fs.getD j (0, undef, [])).1, x, C)) vl (w'.setCell ⟨g, o + j * 2 + 1, none⟩ x) ∧ w'.cell? ⟨g, o + j * 2 + 1, none⟩ = some (fs.getD j (0, undef, [])).2.1 ∧ w'.frozen? ⟨g, o + j * 2 + 1, none⟩ = false := by
  obtain ⟨pre, hos, a, cap', e, hc, hl⟩ := h
  rw [hv] at e
  injection e with e1 e2 e3
  subst e1 e3
  rcases hl with hl | ⟨g', o', cur, h1, h2, h3, h4, h5⟩
  · subst hl; simp at hj
  injection h2 with h2
  injection h2 with h2 h2'
  subst h2 h2'
  obtain ⟨y, hy⟩ : ∃ y, fs.getD j (0, undef, []) = y := ⟨_, rfl⟩
  rw [hy] at hr hxb ⊢
  have hfs : fs = fs.take j ++ y :: fs.drop (j + 1) := by
    rw [← hy]
    have : fs.getD j (0, undef, []) = fs[j] := by simp [List.getD, hj]
    rw [this, List.getElem_cons_drop, List.take_append_drop]
  have hset : ∀ u, fs.set j u = fs.take j ++ u :: fs.drop (j + 1) := fun u => by rw [List.set_eq_take_append_cons_drop, if_pos hj]
  have hgs := (Array.getElem?_eq_some_iff.1 h4).1
  have hos' : OS base (z ++ pre) ((hd ++ fs.take j) ++ y :: fs.drop (j + 1)) wr := by
    have e : (hd ++ fs.take j) ++ y :: fs.drop (j + 1) = hd ++ fs := by rw [List.append_assoc, ← hfs]
    rw [e]; exact hos
  have hnd := hos'.nd
  rw [obs_mid] at hnd
  -- the old list's block is not among the others
  have hyn : ∀ k, y.2.1.ownBlock = some k → k ∉ z ++ pre ∧ k ∉ obs (hd ++ fs.take j) ∧ k ∉ obs (fs.drop (j + 1)) := fun k hk => by
    rw [hk] at hnd
    simp only [Option.toList] at hnd
    have hp := (List.nodup_append.1 hnd)
    have hq := (List.nodup_append.1 hp.2.1)
    have hz := (List.nodup_append.1 hq.2.1)
    refine ⟨fun hm => hp.2.2 k hm k (by simp) rfl, fun hm => hq.2.2 k hm k (by simp) rfl, fun hm => hz.2.2 k (by simp) k hm rfl⟩
  have hlt : ∀ k, k ∈ obs (hd ++ fs.take j) ++ obs (fs.drop (j + 1)) → base ≤ k ∧ k < wr.heap.size := fun k hk => by
    refine hos'.lt k ?_
    rw [obs_mid]
    rcases List.mem_append.1 hk with hk | hk
    · exact List.mem_append_left _ hk
    · exact List.mem_append_right _ (List.mem_append_right _ hk)
  have hgn : g ∉ obs (hd ++ fs.take j) ++ obs (fs.drop (j + 1)) ∧ y.2.1.ownBlock ≠ some g := by
    subst h1
    have hp := List.nodup_append.1 hnd
    refine ⟨fun hm => ?_, fun e => (hyn g e).1 (by simp)⟩
    refine hp.2.2 g (by simp) g ?_ rfl
    rcases List.mem_append.1 hm with hm | hm
    · exact List.mem_append_left _ hm
    · exact List.mem_append_right _ (List.mem_append_right _ hm)
  have hw'g : w'.heap[g]? = some (.cells cur 58 (0, 0)) := (hg.block g hgs (fun e => by
    rcases hr g e.symm with h | h
    · omega
    · exact hgn.2 h)).trans h4
  have hkeep : ∀ k ∈ obs (hd ++ fs.take j) ++ obs (fs.drop (j + 1)), w'.heap[k]? = wr.heap[k]? := fun k hk => hg.block k (hlt k hk).2 (fun e => by
    rcases hr k e.symm with h | h
    · have := (hlt k hk).2; omega
    · rcases List.mem_append.1 hk with hk | hk
      · exact (hyn k h).2.1 hk
      · exact (hyn k h).2.2 hk)
  have hxn : ∀ k, x.ownBlock = some k → k ∉ z ++ pre ∧ k ∉ obs (hd ++ fs.take j) ∧ k ∉ obs (fs.drop (j + 1)) := fun k hk => by
    rcases hxb with hxb | hxb
    · exact hyn k (by rw [← hxb]; exact hk)
    · have hk' := hxb k hk
      refine ⟨fun hm => ?_, fun hm => by have := (hlt k (List.mem_append_left _ hm)).2; omega, fun hm => by have := (hlt k (List.mem_append_right _ hm)).2; omega⟩
      subst h1
      rcases List.mem_append.1 hm with hm | hm
      · have := hz k hm; omega
      · simp at hm; omega
  have hxg : x.ownBlock ≠ some g := fun e => (hxn g e).1 (by rw [h1]; simp)
  have hos2 : OS base (z ++ pre) ((hd ++ fs.take j) ++ ((y.1, x, C) : Lv) :: fs.drop (j + 1)) w' := hos'.swp hkeep hx hxn
  have ho : ∀ b, b ≠ g → (w'.setCell ⟨g, o + j * 2 + 1, none⟩ x).heap[b]? = w'.heap[b]? := fun b hne => heap_setCell_other _ _ _ _ hne
  have hob : ∀ k ∈ obs ((hd ++ fs.take j) ++ ((y.1, x, C) : Lv) :: fs.drop (j + 1)), k ≠ g := fun k hk e => by
    subst e
    rw [obs_mid] at hk
    rcases List.mem_append.1 hk with hk | hk
    · exact hgn.1 (List.mem_append_left _ hk)
    · rcases List.mem_append.1 hk with hk | hk
      · cases hxo : x.ownBlock with
        | none => rw [hxo] at hk; simp at hk
        | some u => rw [hxo] at hk; simp at hk; exact hxg (by rw [hxo, hk])
      · exact hgn.1 (List.mem_append_right _ hk)
  refine ⟨⟨pre, ?_, some ⟨g, o, none⟩, cap, ?_, ?_, .inr ⟨g, o, cur.setIfInBounds (o + j * 2 + 1) x, h1, rfl, h3, ?_, fun i hi => ?_⟩⟩, ?_, ?_⟩
  · rw [hset, ← List.append_assoc]
    exact hos2.keep (fun k hk => ho k (hob k hk))
  · rw [hv, List.length_set]
  · rw [List.length_set]; exact hc
  · rw [Go.heap_setCell_same _ _ _ _ _ _ hw'g]
  · rw [List.length_set] at hi
    have hne0 : o + j * 2 + 1 ≠ o + i * 2 := by omega
    rw [Array.getElem?_setIfInBounds, if_neg hne0, Array.getElem?_setIfInBounds]
    have h5i := h5 i hi
    by_cases hij : i = j
    · subst hij
      have hsz : o + i * 2 + 1 < cur.size := (Array.getElem?_eq_some_iff.1 h5i.2).1
      rw [if_pos rfl, if_pos hsz]
      have : (fs.set i (y.1, x, C)).getD i (0, undef, []) = (y.1, x, C) := by simp [List.getD, hi]
      rw [this]
      exact ⟨by rw [h5i.1, hy], rfl⟩
    · have hne1 : o + j * 2 + 1 ≠ o + i * 2 + 1 := by omega
      rw [if_neg hne1]
      have : (fs.set j (y.1, x, C)).getD i (0, undef, []) = fs.getD i (0, undef, []) := by
        simp only [List.getD, List.getElem?_set]
        rw [if_neg (fun e => hij e.symm)]
      rw [this]
      exact h5i
  · rw [cell_of_row _ _ _ _ _ _ hw'g, (h5 j hj).2, hy]
  · exact frozen_of_row _ _ _ _ _ hw'g
/-- the first line goes -/
theorem EX.tail {f : Lv} {g o cap : Nat} {a : Option Addr} (h : EX base z hd (f :: fs) (.slice (some ⟨g, o, none⟩) (fs.length + 1) (cap + 1)) w) (ha : fs.length = 0 ∨ a = some ⟨g, o + 2, none⟩) : EX base z hd fs (.slice a fs.length cap) w := by
  obtain ⟨pre, hos, a', cap', e, hc, hl⟩ := h
  injection e with e1 e2 e3
  subst e1 e3
  have hsub : OS base (z ++ pre) (hd ++ fs) w := ⟨fun x hx => hos.own x (by
    rcases List.mem_append.1 hx with hx | hx
    · exact List.mem_append_left _ hx
    · exact List.mem_append_right _ (List.mem_cons_of_mem _ hx)), by
    have := hos.nd
    rw [obs_mid] at this
    rw [obs_app]
    exact nodup_dl this⟩
  refine ⟨pre, hsub, a, cap, rfl, by simpa using hc, ?_⟩
  rcases ha with ha | ha
  · exact .inl (List.eq_nil_of_length_eq_zero ha)
  · rcases hl with hl | ⟨g', o', cur, h1, h2, h3, h4, h5⟩
    · cases hl
    · injection h2 with h2
      injection h2 with h2 h2'
      subst h2 h2'
      refine .inr ⟨g, o + 2, cur, h1, ha, h3, h4, fun j hj => ?_⟩
      have := h5 (j + 1) (by simp; omega)
      rw [show o + (j + 1) * 2 = o + 2 + j * 2 by omega] at this
      exact this
/-- a list ahead of the lines is another one, which was made behind all these -/
theorem EX.hput {A B : List Lv} {x y : Lv} {w0 : World} (h : EX base z (A ++ y :: B) fs vl w0) (hz : ∀ k ∈ z, k < w0.heap.size) (hb : Below w0.heap.size w0 w) (hx : w.ownsRow base 3 1 x.2.1 x.2.2.length (x.2.2.map (Value.int .i64))) (hn : ∀ k, x.2.1.ownBlock = some k → w0.heap.size ≤ k) : EX base z (A ++ x :: B) fs vl w := by
  obtain ⟨pre, hos, a, cap, e, hc, hl⟩ := h
  have key : ∀ pr : List Nat, pr.Sublist pre → (∀ k ∈ pr, k < w0.heap.size) → OS base (z ++ pr) (A ++ x :: B ++ fs) w := fun pr hpr hlt0 => by
    have hos2 : OS base (z ++ pr) (A ++ y :: (B ++ fs)) w0 := by
      have : A ++ y :: B ++ fs = A ++ y :: (B ++ fs) := by simp
      rw [← this]
      exact ⟨hos.own, hos.nd.sublist (((List.Sublist.refl z).append hpr).append (List.Sublist.refl _))⟩
    have hlt : ∀ k ∈ obs A ++ obs (B ++ fs), k < w0.heap.size := fun k hk => by
      refine (hos2.lt k ?_).2
      rw [obs_mid]
      rcases List.mem_append.1 hk with hk | hk
      · exact List.mem_append_left _ hk
      · exact List.mem_append_right _ (List.mem_append_right _ hk)
    have : A ++ x :: B ++ fs = A ++ x :: (B ++ fs) := by simp
    rw [this]
    refine hos2.swp (fun k hk => hb.block k (hlt k hk)) hx (fun k hk => ?_)
    have hk' := hn k hk
    refine ⟨fun hm => ?_, fun hm => by have := hlt k (List.mem_append_left _ hm); omega, fun hm => by have := hlt k (List.mem_append_right _ hm); omega⟩
    rcases List.mem_append.1 hm with hm | hm
    · have := hz k hm; omega
    · have := hlt0 k hm; omega
  rcases hl with hl | ⟨g, o, cur, h1, h2, h3, h4, h5⟩
  · exact ⟨[], key [] (List.nil_sublist _) (fun k hk => by simp at hk), a, cap, e, hc, .inl hl⟩
  · have hgs := (Array.getElem?_eq_some_iff.1 h4).1
    exact ⟨pre, key pre (List.Sublist.refl _) (fun k hk => by rw [h1] at hk; simp at hk; omega), a, cap, e, hc, .inr ⟨g, o, cur, h1, h2, h3, (hb.block g hgs).trans h4, h5⟩⟩
theorem EX.mono {b2 : Nat} {z2 : List Nat} (h : EX base z hd fs vl w) (hb : b2 ≤ base) (hz : z2.Sublist z) : EX b2 z2 hd fs vl w := by
  obtain ⟨pre, hos, a, cap, e, hc, hl⟩ := h
  refine ⟨pre, ⟨fun f hf => own_mn (hos.own f hf) hb, hos.nd.sublist ((hz.append (List.Sublist.refl _)).append (List.Sublist.refl _))⟩, a, cap, e, hc, ?_⟩
  rcases hl with hl | ⟨g, o, cur, h1, h2, h3, h4, h5⟩
  · exact .inl hl
  · exact .inr ⟨g, o, cur, h1, h2, Nat.le_trans hb h3, h4, h5⟩
/-- blocks that were not there are beside them -/
theorem EX.beside {k : Nat} (h : EX base z hd fs vl w) (hk : w.heap.size ≤ k) (hz : k ∉ z) : EX base (k :: z) hd fs vl w := by
  obtain ⟨pre, hos, a, cap, e, hc, hl⟩ := h
  have key : ∀ pr : List Nat, pr.Sublist pre → (∀ j ∈ pr, j < w.heap.size) → OS base (k :: z ++ pr) (hd ++ fs) w := fun pr hpr hlt => by
    refine ⟨hos.own, ?_⟩
    have h2 : (z ++ pr ++ obs (hd ++ fs)).Nodup := hos.nd.sublist (((List.Sublist.refl z).append hpr).append (List.Sublist.refl _))
    show (k :: (z ++ pr ++ obs (hd ++ fs))).Nodup
    rw [List.nodup_cons]
    refine ⟨fun hm => ?_, h2⟩
    rcases List.mem_append.1 hm with hm | hm
    · rcases List.mem_append.1 hm with hm | hm
      · exact hz hm
      · have := hlt k hm; omega
    · have := (hos.lt k hm).2; omega
  rcases hl with hl | ⟨g, o, cur, h1, h2, h3, h4, h5⟩
  · exact ⟨[], key [] (List.nil_sublist _) (fun j hj => by simp at hj), a, cap, e, hc, .inl hl⟩
  · have hgs := (Array.getElem?_eq_some_iff.1 h4).1
    exact ⟨pre, key pre (List.Sublist.refl _) (fun j hj => by rw [h1] at hj; simp at hj; omega), a, cap, e, hc, .inr ⟨g, o, cur, h1, h2, h3, h4, h5⟩⟩
end
/-- the lines' lists up to the i-th are one's own -/
def EY (base : Nat) (hd fs : List Lv) (i : Nat) (vl : Value) (w : World) : Prop :=
  ∃ pre, OS base pre (hd ++ fs.take i) w ∧ LnY base pre vl fs w
section
variable {base : Nat} {hd fs : List Lv} {vl : Value} {w wr w' : World} {i : Nat}
theorem EY.all (h : EY base hd fs fs.length vl w) : EX base [] hd fs vl w := by
  obtain ⟨pre, hos, hl⟩ := h
  rw [List.take_length] at hos
  exact ⟨pre, hos, hl⟩
theorem EY.below (h : EY base hd fs i vl w) (hb : Below w.heap.size w w') : EY base hd fs i vl w' := by
  obtain ⟨pre, hos, a, cap, e, hc, hl⟩ := h
  refine ⟨pre, hos.below hb, a, cap, e, hc, ?_⟩
  rcases hl with hl | ⟨g, o, cur, h1, h2, h3, h4, h5⟩
  · exact .inl hl
  · exact .inr ⟨g, o, cur, h1, h2, h3, (hb.block g (Array.getElem?_eq_some_iff.1 h4).1).trans h4, h5⟩
theorem EY.keep (h : EY base hd fs i vl w) (hb : ∀ b, base ≤ b → b < w.heap.size → w'.heap[b]? = w.heap[b]?) : EY base hd fs i vl w' := by
  obtain ⟨pre, hos, a, cap, e, hc, hl⟩ := h
  refine ⟨pre, hos.keep (fun k hk => hb k (hos.lt k hk).1 (hos.lt k hk).2), a, cap, e, hc, ?_⟩
  rcases hl with hl | ⟨g, o, cur, h1, h2, h3, h4, h5⟩
  · exact .inl hl
  · exact .inr ⟨g, o, cur, h1, h2, h3, (hb g h3 (Array.getElem?_eq_some_iff.1 h4).1).trans h4, h5⟩
theorem EY.at (h : EY base hd fs i vl w) {j : Nat} (hj : j < fs.length) : ∃ g o cap, vl = .slice (some ⟨g, o, none⟩) fs.length cap ∧ fs.length ≤ cap ∧ base ≤ g ∧ g < w.heap.size ∧ w.cell? ⟨g, o + j * 2, none⟩ = some (.int .i64 (fs.getD j (0, undef, [])).1) ∧ w.cell? ⟨g, o + j * 2 + 1, none⟩ = some (fs.getD j (0, undef, [])).2.1 ∧ w.frozen? ⟨g, o + j * 2 + 1, none⟩ = false := by
  obtain ⟨pre, hos, a, cap, rfl, hc, hl⟩ := h
  rcases hl with hl | ⟨g, o, cur, h1, rfl, h3, h4, h5⟩
  · subst hl; simp at hj
  · exact ⟨g, o, cap, rfl, hc, h3, (Array.getElem?_eq_some_iff.1 h4).1, by rw [cell_of_row _ _ _ _ _ _ h4]; exact (h5 j hj).1, by rw [cell_of_row _ _ _ _ _ _ h4]; exact (h5 j hj).2, frozen_of_row _ _ _ _ _ h4⟩
/-- the next line's list becomes one's own -/
theorem EY.step (h : EY base hd fs i vl wr) {g o cap : Nat} (hv : vl = .slice (some ⟨g, o, none⟩) fs.length cap) (hi : i < fs.length) (hg : Below wr.heap.size wr w') {x : Value} {C : List Int} (hx : w'.ownsRow base 3 1 x C.length (C.map (Value.int .i64))) (hxb : ∀ k, x.ownBlock = some k → wr.heap.size ≤ k) :
    EY base hd (fs.set i ((fs.getD i (0, undef, [])).1, x, C)) (i + 1) vl (w'.setCell ⟨g, o + i * 2 + 1, none⟩ x) ∧ w'.cell? ⟨g, o + i * 2 + 1, none⟩ = some (fs.getD i (0, undef, [])).2.1 ∧ w'.frozen? ⟨g, o + i * 2 + 1, none⟩ = false := by
  obtain ⟨pre, hos, a, cap', e, hc, hl⟩ := h
  rw [hv] at e
  injection e with e1 e2 e3
  subst e1 e3
  rcases hl with hl | ⟨g', o', cur, h1, h2, h3, h4, h5⟩
  · subst hl; simp at hi
  injection h2 with h2
  injection h2 with h2 h2'
  subst h2 h2'
  have hgs := (Array.getElem?_eq_some_iff.1 h4).1
  have hw'g : w'.heap[g]? = some (.cells cur 58 (0, 0)) := (hg.block g hgs).trans h4
  have hn : ∀ k, x.ownBlock = some k → k ∉ pre ∧ k ∉ obs (hd ++ fs.take i) := fun k hk => ⟨fun hm => by
    rw [h1] at hm
    simp at hm
    have := hxb k hk
    omega, fun hm => by
    have := (hos.lt k hm).2
    have := hxb k hk
    omega⟩
  have hos2 := (hos.below hg).snoc (f := (fs.getD i (0, undef, [])).1) hx hn
  have ho : ∀ b, b ≠ g → (w'.setCell ⟨g, o + i * 2 + 1, none⟩ x).heap[b]? = w'.heap[b]? := fun b hne => heap_setCell_other _ _ _ _ hne
  have htk : hd ++ (fs.set i ((fs.getD i (0, undef, [])).1, x, C)).take (i + 1) = hd ++ fs.take i ++ [((fs.getD i (0, undef, [])).1, x, C)] := by
    rw [List.append_assoc]
    congr 1
    rw [List.set_eq_take_append_cons_drop, if_pos hi, List.take_append, List.length_take, Nat.min_eq_left (Nat.le_of_lt hi), show i + 1 - i = 1 by omega, List.take_succ_cons, List.take_zero, List.take_of_length_le (by rw [List.length_take]; omega)]
  have hob : ∀ k ∈ obs (hd ++ fs.take i ++ [((fs.getD i (0, undef, [])).1, x, C)]), k ≠ g := fun k hk e => by
    have := List.nodup_append.1 hos2.nd
    exact this.2.2 g (by rw [h1]; simp) k hk e.symm
  refine ⟨⟨pre, ?_, some ⟨g, o, none⟩, cap, ?_, ?_, .inr ⟨g, o, cur.setIfInBounds (o + i * 2 + 1) x, h1, rfl, h3, ?_, fun j hj => ?_⟩⟩, ?_, ?_⟩
  · rw [htk]
    exact hos2.keep (fun k hk => ho k (hob k hk))
  · rw [hv, List.length_set]
  · rw [List.length_set]; exact hc
  · rw [Go.heap_setCell_same _ _ _ _ _ _ hw'g]
  · rw [List.length_set] at hj
    have hne0 : o + i * 2 + 1 ≠ o + j * 2 := by omega
    rw [Array.getElem?_setIfInBounds, if_neg hne0, Array.getElem?_setIfInBounds]
    have h5i := h5 j hj
    by_cases hij : j = i
    · subst hij
      have hsz : o + j * 2 + 1 < cur.size := (Array.getElem?_eq_some_iff.1 h5i.2).1
      rw [if_pos rfl, if_pos hsz]
      have : (fs.set j ((fs.getD j (0, undef, [])).1, x, C)).getD j (0, undef, []) = ((fs.getD j (0, undef, [])).1, x, C) := by simp [List.getD, hj]
      rw [this]
      exact ⟨h5i.1, rfl⟩
    · have hne1 : o + i * 2 + 1 ≠ o + j * 2 + 1 := by omega
      rw [if_neg hne1]
      have : (fs.set i ((fs.getD i (0, undef, [])).1, x, C)).getD j (0, undef, []) = fs.getD j (0, undef, []) := by
        simp only [List.getD, List.getElem?_set]
        rw [if_neg (fun e => hij e.symm)]
      rw [this]
      exact h5i
  · rw [cell_of_row _ _ _ _ _ _ hw'g, (h5 i hi).2]
  · exact frozen_of_row _ _ _ _ _ hw'g
end
end Go.Proofs.YtmlcgcmoioekpabGreatDoor
namespace Go.Proofs.YtmlcgcmoioekpabGreatDoor
set_option linter.unusedSimpArgs false
set_option linter.unusedVariables false
open Go.ChangeShapes Go.WideShapes Go.ChangeAt Go.RowKit Go.Pin Go.Pat
/-- what is seen, as a value -/
def SV (x : Sn) : Value := .agg (x.map Value.bool).toArray
theorem twelve {x : Sn} (h : x.length = 12) : ∃ a b c d e f g i j k l m, x = [a, b, c, d, e, f, g, i, j, k, l, m] := by
  match x, h with
  | [a, b, c, d, e, f, g, i, j, k, l, m], _ => exact ⟨a, b, c, d, e, f, g, i, j, k, l, m, rfl⟩
end Go.Proofs.YtmlcgcmoioekpabGreatDoor
namespace Go.Proofs.YtmlcgcmoioekpabGreatDoor
set_option linter.unusedSimpArgs false
set_option linter.unusedVariables false
open Go.ChangeShapes Go.WideShapes Go.ChangeAt Go.RowKit Go.Pin Go.Pat
abbrev BV (x : Sn) : Array Value := (x.map Value.bool).toArray
theorem BV_one (x : Sn) : (BV x).all (·.oneCell') = true := by
  simp [Array.all_eq_true, BV, Value.oneCell']
theorem results_row_tmp {P : Program} {fn : Func} {p u : Tmp} {ty : TypeId} (h : fn.results = #[.cell p ty, .tmp u]) (tmps : Array Value) (w : World) (g : Nat) (t : TypeId) (cs : Array Value) (fr : Nat × Nat) (d : TypeDesc) (v : Value)
    (hp : tmps.getD p undef = .pointer (some ⟨g, 0, none⟩)) (hg : w.heap[g]? = some (.cells cs t fr))
    (hu : P.underlying ty = some d) (hd : (match d with | .struct _ | .array _ _ => true | _ => false) = true) (hi : (P.info? ty).map (·.size) = some cs.size) (hv : tmps.getD u undef = v) :
    (results fn tmps).run P w = .ok (.tuple #[.agg cs, v]) w := by
  rw [results_cell_tmp h, hp, hv]
  simp [asAddr, run_loadVar_row w g t ty cs fr d hg hu hd hi]
end Go.Proofs.YtmlcgcmoioekpabGreatDoor
namespace Go.Proofs.YtmlcgcmoioekpabGreatDoor
set_option linter.unusedSimpArgs false
set_option linter.unusedVariables false
open Go.ChangeShapes Go.WideShapes Go.ChangeAt Go.RowKit Go.Pin Go.Pat
/-- a line's box beside the pattern's -/
structure LB (q m : Nat) (w : World) (nm : ByteArray) (v0 v1 vl : Value) (f : Int) (vt : Value) (wr : World) : Prop where
  pb : PB q w nm v0 v1 vl wr
  ne : q < m
  lt : m < wr.heap.size
  row : wr.heap[m]? = some (.cells #[.int .i64 f, vt] 58)
section
variable {q m : Nat} {w wr w' : World} {nm : ByteArray} {v0 v1 vl : Value} {f : Int} {vt : Value}
theorem LB.c0 (h : LB q m w nm v0 v1 vl f vt wr) : wr.cell? ⟨m, 0, none⟩ = some (.int .i64 f) := by rw [cell_of_row _ _ _ _ _ _ h.row]; rfl
theorem LB.c1 (h : LB q m w nm v0 v1 vl f vt wr) : wr.cell? ⟨m, 1, none⟩ = some vt := by rw [cell_of_row _ _ _ _ _ _ h.row]; rfl
theorem LB.drewN (h : LB q m w nm v0 v1 vl f vt wr) (n : Nat) : LB q m w nm v0 v1 vl f vt (wr.drewN n) := ⟨⟨drewN_below h.pb.old n, h.pb.lt, h.pb.row⟩, h.ne, h.lt, h.row⟩
theorem lb_start (h : PB q w nm v0 v1 vl wr) (f : Int) (vt : Value) : LB q wr.heap.size w nm v0 v1 vl f vt (wr.alloc (.cells #[.int .i64 f, vt] 58)) :=
  ⟨h.below ((Below.refl _ _).alloc (Nat.le_refl _) _), h.lt, by simp [size_alloc], heap_alloc_new _ _⟩
end
def badL (L : List Ln) (k : Nat) (f : Int) (n2 : Nat) : Bool := decide (¬ (f = 0 ∨ f = 1)) || decide (pv L k = some f) || decide (n2 = 0)
end Go.Proofs.YtmlcgcmoioekpabGreatDoor
namespace Go.Proofs.YtmlcgcmoioekpabGreatDoor
set_option linter.unusedSimpArgs false
set_option linter.unusedVariables false
open Go.ChangeShapes Go.WideShapes Go.ChangeAt Go.RowKit Go.Pin Go.Pat
section
variable {q : Nat} {w wr w' : World} {nm : ByteArray} {v0 v1 vl : Value} {x : Sn}
end
theorem bg_snoc (s : Nat) (X : Sn) (C : List Int) (j : Nat) (h : j < C.length) : bg s X (C.take (j + 1)) = (if C.getD j 0 = 1 then (bg s X (C.take j)).set s true else (bg s X (C.take j)).set (2 + s) true) := by
  unfold bg
  rw [List.take_add_one, List.getElem?_eq_getElem h, List.foldl_append]
  simp [List.getD, h]
theorem szS {x : Sn} (h : x.length = 12) : (BV Sn0).size = (BV x).size := by rw [show (BV Sn0).size = 12 from by simp [Sn0]]; simp [h]
end Go.Proofs.YtmlcgcmoioekpabGreatDoor
namespace Go.Proofs.YtmlcgcmoioekpabGreatDoor
set_option linter.unusedSimpArgs false
set_option linter.unusedVariables false
open Go.ChangeShapes Go.WideShapes Go.ChangeAt Go.RowKit Go.Pin
/-! regions whose operations are a constant, frames that are a letter -/
def opsOf : Code → Array Oper
  | .region _ ops _ => ops
  | _ => #[]
def opIs (ops : Array Oper) (i : Nat) (op : Op) (d : Option Nat) : Prop := (ops[i]?).map (fun o => (o.guard, o.op, o.dst)) = some (none, op, d)
theorem opIs.get {ops : Array Oper} {i : Nat} {op : Op} {d : Option Nat} (h : opIs ops i op d) : ∃ o, ops[i]? = some o ∧ o.guard = none ∧ o.op = op ∧ o.dst = d := by
  obtain ⟨o, h1, h5⟩ := Option.map_eq_some_iff.1 h
  simp only [Prod.mk.injEq] at h5
  exact ⟨o, h1, h5.1, h5.2.1, h5.2.2⟩
theorem wanted_none {o : Oper} (h : o.guard = none) (y : Nat → Option Bool) : Region.wanted o y = true := by simp [Region.wanted, h]
section
variable {P : Program} {ops : Array Oper} {Q : Exit → Act → World → Prop} {S : World → Prop} {fuel : Nat} {listed : Array Bool} {a : Act} {w : World}
theorem takeH {i : Nat} {op : Op} {d : Nat} {v : Value} (hc : opIs ops i op (some d)) (hs : Region.noSelect ops = true) (hf : Region.free .any ops listed i = true) (hr : (Region.ready .any ops listed).contains i = true)
    (hQ : ∀ c (a : Act) d v w, Q (.panic c) (a.put d v) w → Q (.panic c) a w) (hrun : ∀ w, S w → ∀ o : Oper, o.op = op → (execOp a.eval o).run P w = .ok (.value v) w) (hS : S w)
    (h : wpAnyH P .any ops Q S fuel (listed.setIfInBounds i true) (a.put (some d) v) w) : wpAnyH P .any ops Q S (fuel + 1) listed a w := by
  obtain ⟨o, h1, h2, h3, h4⟩ := hc.get
  exact wpAnyH_take h1 hs hf hr (fun _ _ _ h => hQ _ _ _ _ _ h) (.inl ⟨wanted_none h2 _, fun w hw => hrun w hw o h3⟩) hS (by rw [h4]; exact h)
theorem wpAnyH_as {l l' : Array Bool} (hl : l = l') (h : wpAnyH P .any ops Q S fuel l' a w) : wpAnyH P .any ops Q S fuel l a w := by rw [hl]; exact h
/-- one operation alone may come up -/
theorem readyH {i : Nat} {op : Op} {d : Option Nat} (hc : opIs ops i op d) (hr : Region.ready .any ops listed = [i])
    (h : ∀ o : Oper, o.op = op → o.dst = d → Oper.wp P o a w (fun a' w' => S w' ∧ wpAnyH P .any ops Q S fuel (listed.setIfInBounds i true) a' w') Q) : wpAnyH P .any ops Q S (fuel + 1) listed a w := by
  obtain ⟨o, h1, h2, h3, h4⟩ := hc.get
  refine wpAnyH_all hr (by simp) (fun j hj => ?_)
  obtain rfl : j = i := by simpa using hj
  unfold wpOp
  simp only [h1]
  rw [if_pos (wanted_none h2 _)]
  exact .inl (h o h3 h4)
end
theorem eval_put_ne (a : Act) (d s : Nat) (v : Value) (h : d ≠ s) : (a.put (some d) v).eval (.tmp s) = a.eval (.tmp s) := by
  simp [Act.put, Act.eval, Array.getElem?_setIfInBounds_ne h]
theorem eval_put_eq (a : Act) (d : Nat) (v : Value) (h : d < a.tmps.size) : (a.put (some d) v).eval (.tmp d) = v := by
  simp [Act.put, Act.eval, h]
theorem size_put (a : Act) (d : Nat) (v : Value) : (a.put (some d) v).tmps.size = a.tmps.size := by simp [Act.put]
theorem run_move {P : Program} {a : Act} {o : Oper} {x : Operand} {v : Value} (ho : o.op = .move x) (he : a.eval x = v) (w : World) : (execOp a.eval o).run P w = .ok (.value v) w := by
  unfold execOp
  simp only [ho, he]
  rfl
theorem run_nilCheck {P : Program} {a : Act} {o : Oper} {x : Operand} {p : Addr} (ho : o.op = .nilCheck x) (he : a.eval x = .pointer (some p)) (w : World) : (execOp a.eval o).run P w = .ok (.value (.pointer (some p))) w := by
  unfold execOp
  simp only [ho, he]
  go_simp
end Go.Proofs.YtmlcgcmoioekpabGreatDoor
namespace Go.Proofs.YtmlcgcmoioekpabGreatDoor
set_option linter.unusedSimpArgs false
set_option linter.unusedVariables false
open Go.ChangeShapes Go.WideShapes Go.ChangeAt Go.RowKit Go.Pin
section
variable {P : Program} {ops : Array Oper} {Q : Exit → Act → World → Prop} {S : World → Prop} {fuel : Nat} {listed : Array Bool} {a : Act} {w : World}
theorem wp_of_run {o : Oper} {v : Value} {K : Act → World → Prop} (hrun : (execOp a.eval o).run P w = .ok (.value v) w) (h : K (a.put o.dst v) w) : Oper.wp P o a w K Q := by
  unfold Oper.wp
  rw [hrun]
  exact h
/-- one operation that yields a value alone may come up -/
theorem readyLd1 {i : Nat} {op : Op} {d : Nat} {v : Value} (hc : opIs ops i op (some d)) (hr : Region.ready .any ops listed = [i]) (hS : S w)
    (hrun : ∀ o : Oper, o.op = op → (execOp a.eval o).run P w = .ok (.value v) w) (h : wpAnyH P .any ops Q S fuel (listed.setIfInBounds i true) (a.put (some d) v) w) : wpAnyH P .any ops Q S (fuel + 1) listed a w :=
  readyH hc hr (fun o h1 h2 => wp_of_run (hrun o h1) ⟨hS, by rw [h2]; exact h⟩)
/-- two of them, in either order -/
theorem readyLd2 {i j : Nat} {op oq : Op} {d e : Nat} {v u : Value} (hi : opIs ops i op (some d)) (hj : opIs ops j oq (some e)) (hde : d ≠ e) (hij : i ≠ j) (hr : Region.ready .any ops listed = [i, j])
    (hr1 : Region.ready .any ops (listed.setIfInBounds i true) = [j]) (hr2 : Region.ready .any ops (listed.setIfInBounds j true) = [i]) (hS : S w)
    (run1 : ∀ o : Oper, o.op = op → (execOp a.eval o).run P w = .ok (.value v) w) (run2 : ∀ o : Oper, o.op = oq → (execOp a.eval o).run P w = .ok (.value u) w)
    (run1' : ∀ o : Oper, o.op = op → (execOp (a.put (some e) u).eval o).run P w = .ok (.value v) w) (run2' : ∀ o : Oper, o.op = oq → (execOp (a.put (some d) v).eval o).run P w = .ok (.value u) w)
    (h : wpAnyH P .any ops Q S fuel ((listed.setIfInBounds i true).setIfInBounds j true) ((a.put (some d) v).put (some e) u) w) : wpAnyH P .any ops Q S (fuel + 2) listed a w := by
  obtain ⟨o1, h1, g1, p1, q1⟩ := hi.get
  obtain ⟨o2, h2, g2, p2, q2⟩ := hj.get
  refine wpAnyH_all hr (by simp) (fun k hk => ?_)
  simp only [List.mem_cons, List.not_mem_nil, or_false] at hk
  rcases hk with rfl | rfl
  · unfold wpOp
    simp only [h1]
    rw [if_pos (wanted_none g1 _)]
    refine .inl (wp_of_run (run1 o1 p1) ⟨hS, ?_⟩)
    rw [q1]
    exact readyLd1 hj hr1 hS run2' h
  · unfold wpOp
    simp only [h2]
    rw [if_pos (wanted_none g2 _)]
    refine .inl (wp_of_run (run2 o2 p2) ⟨hS, ?_⟩)
    rw [q2]
    refine readyLd1 hi hr2 hS run1' ?_
    have e1 : (a.put (some e) u).put (some d) v = (a.put (some d) v).put (some e) u := by
      simp only [Act.put]
      rw [Array.setIfInBounds_comm _ _ (fun e' => hde e'.symm)]
    rw [e1, Array.setIfInBounds_comm _ _ (fun e' => hij e'.symm)]
    exact h
end
end Go.Proofs.YtmlcgcmoioekpabGreatDoor
