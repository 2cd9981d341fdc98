import Derived.Test.YtchnkpgkckadmaaGreatDoorMmbj
import Derived.Test.YtchnkpgkckadmaaGreatDoorMmbg
/- a pattern whose lists are one's own, in a box, while words turn it -/
namespace Go.Proofs.YtchnkpgkckadmaaGreatDoor
set_option linter.unusedSimpArgs false
set_option linter.unusedVariables false
set_option maxRecDepth 100000
open Go.ChangeShapes Go.WideShapes Go.ChangeAt Go.RowKit Go.Pin Go.Pat
theorem nodup_del {P A B C : List Nat} (h : (P ++ (A ++ (B ++ C))).Nodup) : (P ++ (A ++ C)).Nodup := by
  refine List.Nodup.sublist ?_ h
  exact (List.Sublist.refl P).append ((List.Sublist.refl A).append (List.sublist_append_right B C))
theorem OS.swap {base : Nat} {pre : List Nat} {A B : List Lv} {x y : Lv} {w w' : World} (h : OS base pre (A ++ y :: B) w) (hk : ∀ k ∈ obs A ++ obs B, w'.heap[k]? = w.heap[k]?) (hx : w'.ownsRow base 3 1 x.2.1 x.2.2.length (x.2.2.map (Value.int .i64))) (hn : ∀ k, x.2.1.ownBlock = some k → k ∉ pre ∧ k ∉ obs A ∧ k ∉ obs B) : OS base pre (A ++ x :: B) w' := by
  have hnd := h.nd
  rw [show A ++ y :: B = A ++ ([y] ++ B) from rfl, obs_app, obs_app, obs_one] at hnd
  refine ⟨fun f hf => ?_, ?_⟩
  · rcases List.mem_append.1 hf with hf | hf
    · refine own_keep (h.own f (List.mem_append_left _ hf)) (fun g hg => hk g (List.mem_append_left _ (obs_mem hf hg)))
    · rcases List.mem_cons.1 hf with rfl | hf
      · exact hx
      · refine own_keep (h.own f (List.mem_append_right _ (List.mem_cons_of_mem _ hf))) (fun g hg => hk g (List.mem_append_right _ (obs_mem hf hg)))
  · rw [show A ++ x :: B = A ++ ([x] ++ B) from rfl, obs_app, obs_app, obs_one]
    exact nodup_ins (nodup_del hnd) hn
/-- the list of lines: where it lies, what its cells are -/
def LnX (base : Nat) (pre : List Nat) (vl : Value) (fs : List Lv) (w : World) : Prop :=
  ∃ a cap, vl = .slice a fs.length cap ∧ fs.length ≤ cap ∧ (fs = [] ∨ ∃ g o cur, pre = [g] ∧ a = some ⟨g, o, none⟩ ∧ base ≤ g ∧ w.heap[g]? = some (.cells cur 55 (0, 0)) ∧ ∀ j, j < fs.length → cur[o + j * 2]? = some (.int .i64 (fs.getD j (0, undef, [])).1) ∧ cur[o + j * 2 + 1]? = some (fs.getD j (0, undef, [])).2.1)
structure MS (q : Nat) (W : World) (nm : ByteArray) (v0 v1 vl : Value) (b0 b1 : List Int) (fs : List Lv) (wr : World) : Prop where
  p2 : P2 q W nm v0 v1 vl wr
  ex : ∃ pre, OS (q + 2) pre ((0, v0, b0) :: (1, v1, b1) :: fs) wr ∧ LnX (q + 2) pre vl fs wr
section
variable {q : Nat} {W wr w' : World} {nm : ByteArray} {v0 v1 vl : Value} {b0 b1 : List Int} {fs : List Lv}
/-- what lies in blocks of the list and its lists stays -/
theorem MS.keep (h : MS q W nm v0 v1 vl b0 b1 fs wr) {nm' : ByteArray} (hp : P2 q W nm' v0 v1 vl w') (hb : ∀ b, q + 2 ≤ b → b < wr.heap.size → w'.heap[b]? = wr.heap[b]?) : MS q W nm' v0 v1 vl b0 b1 fs w' := by
  obtain ⟨pre, hos, a, cap, e, hc, hl⟩ := h.ex
  refine ⟨hp, pre, hos.keep (fun k hk => hb k (hos.lt k hk).1 (hos.lt k hk).2), a, cap, e, hc, ?_⟩
  rcases hl with hl | ⟨g, o, cur, h1, h2, h3, h4, h5⟩
  · exact .inl hl
  · exact .inr ⟨g, o, cur, h1, h2, h3, (hb g h3 (Array.getElem?_eq_some_iff.1 h4).1).trans h4, h5⟩
theorem MS.below (h : MS q W nm v0 v1 vl b0 b1 fs wr) (hb : Below wr.heap.size wr w') : MS q W nm v0 v1 vl b0 b1 fs w' := h.keep (h.p2.below hb) (fun b _ hl => hb.block b hl)
theorem MS.o0 (h : MS q W nm v0 v1 vl b0 b1 fs wr) : wr.ownsRow (q + 2) 3 1 v0 b0.length (b0.map (Value.int .i64)) := by
  obtain ⟨pre, hos, _⟩ := h.ex
  exact hos.own (0, v0, b0) (by simp)
theorem MS.o1 (h : MS q W nm v0 v1 vl b0 b1 fs wr) : wr.ownsRow (q + 2) 3 1 v1 b1.length (b1.map (Value.int .i64)) := by
  obtain ⟨pre, hos, _⟩ := h.ex
  exact hos.own (1, v1, b1) (by simp)
theorem MS.rl (h : MS q W nm v0 v1 vl b0 b1 fs wr) (hn : fs.length ≤ 1000) (hf : ∀ f ∈ fs, f.2.2.length ≤ 1000) : RdL wr vl (lvl fs) := by
  obtain ⟨pre, hos, a, cap, rfl, hc, hl⟩ := h.ex
  have hlen : (lvl fs).length = fs.length := by simp [lvl]
  refine ⟨a, cap, by rw [hlen], by rw [hlen]; exact hc, by rw [hlen]; omega, fun j hj => ?_⟩
  rw [hlen] at hj
  rcases hl with hl | ⟨g, o, cur, h1, h2, h3, h4, h5⟩
  · subst hl; simp at hj
  · have hgd : (lvl fs).getD j (0, []) = ((fs.getD j (0, undef, [])).1, (fs.getD j (0, undef, [])).2.2) := by simp [lvl, List.getD, hj]
    have hm : fs.getD j (0, undef, []) ∈ fs := by simp [List.getD, hj]
    rw [hgd]
    exact ⟨g, o, _, h2, by rw [cell_of_row _ _ _ _ _ _ h4]; exact (h5 j hj).1, by rw [cell_of_row _ _ _ _ _ _ h4]; exact (h5 j hj).2, own_ints (hos.own _ (List.mem_cons_of_mem _ (List.mem_cons_of_mem _ hm))) (by have := hf _ hm; simp only; omega)⟩
theorem MS.rd (h : MS q W nm v0 v1 vl b0 b1 fs wr) (hb0 : b0.length ≤ 1000) (hb1 : b1.length ≤ 1000) (hn : fs.length ≤ 1000) (hf : ∀ f ∈ fs, f.2.2.length ≤ 1000) : RdP wr (.agg #[.string nm, v0, v1, vl]) ⟨nm, b0, b1, lvl fs⟩ :=
  ⟨v0, v1, vl, rfl, own_ints h.o0 (by simp only; omega), own_ints h.o1 (by simp only; omega), h.rl hn hf⟩
/-- where a line's cells lie -/
theorem MS.at (h : MS q W nm v0 v1 vl b0 b1 fs wr) {j : Nat} (hj : j < fs.length) : ∃ g o cap, vl = .slice (some ⟨g, o, none⟩) fs.length cap ∧ fs.length ≤ cap ∧ q + 2 ≤ g ∧ g < wr.heap.size ∧ wr.cell? ⟨g, o + j * 2, none⟩ = some (.int .i64 (fs.getD j (0, undef, [])).1) ∧ wr.cell? ⟨g, o + j * 2 + 1, none⟩ = some (fs.getD j (0, undef, [])).2.1 ∧ wr.frozen? ⟨g, o + j * 2 + 1, none⟩ = false ∧ wr.ownsRow (q + 2) 3 1 (fs.getD j (0, undef, [])).2.1 (fs.getD j (0, undef, [])).2.2.length ((fs.getD j (0, undef, [])).2.2.map (Value.int .i64)) := by
  obtain ⟨pre, hos, a, cap, rfl, hc, hl⟩ := h.ex
  rcases hl with hl | ⟨g, o, cur, h1, rfl, h3, h4, h5⟩
  · subst hl; simp at hj
  · have hm : fs.getD j (0, undef, []) ∈ fs := by simp [List.getD, hj]
    exact ⟨g, o, cap, rfl, hc, h3, (Array.getElem?_eq_some_iff.1 h4).1, by rw [cell_of_row _ _ _ _ _ _ h4]; exact (h5 j hj).1, by rw [cell_of_row _ _ _ _ _ _ h4]; exact (h5 j hj).2, frozen_of_row _ _ _ _ _ h4, hos.own _ (List.mem_cons_of_mem _ (List.mem_cons_of_mem _ hm))⟩
/-- a line gets another list of tokens: w' is the world behind the list's making, then the line's cell is set -/
theorem MS.put (h : MS q W nm v0 v1 vl b0 b1 fs wr) {g o cap j : Nat} (hv : vl = .slice (some ⟨g, o, none⟩) fs.length cap) (hj : j < fs.length) {row : Option Nat} (hg : wr.grownBy w' row) (hr : ∀ k, row = some k → q + 2 ≤ k ∧ (k = wr.heap.size ∨ wr.heap.size < k ∨ (fs.getD j (0, undef, [])).2.1.ownBlock = some k)) {x : Value} {C : List Int} (hx : w'.ownsRow (q + 2) 3 1 x C.length (C.map (Value.int .i64))) (hxb : x.ownBlock = (fs.getD j (0, undef, [])).2.1.ownBlock ∨ ∀ k, x.ownBlock = some k → wr.heap.size ≤ k) :
    MS q W nm v0 v1 vl b0 b1 (fs.set j ((fs.getD j (0, undef, [])).1, x, C)) (w'.setCell ⟨g, o + j * 2 + 1, none⟩ x) ∧ w'.cell? ⟨g, o + j * 2 + 1, none⟩ = some (fs.getD j (0, undef, [])).2.1 ∧ w'.frozen? ⟨g, o + j * 2 + 1, none⟩ = false := by
  obtain ⟨pre, hos, a, cap', e, hc, hl⟩ := h.ex
  rw [hv] at e
  injection e with e1 e2 e3
  subst e1 e3
  rcases hl with hl | ⟨g', o', cur, h1, h2, h3, h4, h5⟩
  · subst hl; simp at hj
  injection h2 with h2
  injection h2 with h2 h2'
  subst h2 h2'
  obtain ⟨y, hy⟩ : ∃ y, fs.getD j (0, undef, []) = y := ⟨_, rfl⟩
  rw [hy] at hr hxb ⊢
  have hfs : fs = fs.take j ++ y :: fs.drop (j + 1) := by
    rw [← hy]
    have : fs.getD j (0, undef, []) = fs[j] := by simp [List.getD, hj]
    rw [this, List.getElem_cons_drop, List.take_append_drop]
  have hset : ∀ z, fs.set j z = fs.take j ++ z :: fs.drop (j + 1) := fun z => by rw [List.set_eq_take_append_cons_drop, if_pos hj]
  have hgs := (Array.getElem?_eq_some_iff.1 h4).1
  have hos' : OS (q + 2) pre (((0, v0, b0) :: (1, v1, b1) :: fs.take j) ++ y :: fs.drop (j + 1)) wr := by
    have e : ((0, v0, b0) :: (1, v1, b1) :: fs.take j) ++ y :: fs.drop (j + 1) = (0, v0, b0) :: (1, v1, b1) :: fs := by rw [List.cons_append, List.cons_append, ← hfs]
    rw [e]; exact hos
  have hnd := hos'.nd
  rw [show ∀ A B : List Lv, A ++ y :: B = A ++ ([y] ++ B) from fun _ _ => rfl, obs_app, obs_app, obs_one] at hnd
  -- the old list's block is not among the others
  have hyn : ∀ k, y.2.1.ownBlock = some k → k ∉ pre ∧ k ∉ obs ((0, v0, b0) :: (1, v1, b1) :: fs.take j) ∧ k ∉ obs (fs.drop (j + 1)) := fun k hk => by
    rw [hk] at hnd
    simp only [Option.toList] at hnd
    have hp := (List.nodup_append.1 hnd)
    have hq := (List.nodup_append.1 hp.2.1)
    have hz := (List.nodup_append.1 hq.2.1)
    refine ⟨fun hm => hp.2.2 k hm k (by simp) rfl, fun hm => hq.2.2 k hm k (by simp) rfl, fun hm => hz.2.2 k (by simp) k hm rfl⟩
  have hlt : ∀ k, k ∈ obs ((0, v0, b0) :: (1, v1, b1) :: fs.take j) ++ obs (fs.drop (j + 1)) → q + 2 ≤ k ∧ k < wr.heap.size := fun k hk => by
    refine hos'.lt k ?_
    rw [show ∀ A B : List Lv, A ++ y :: B = A ++ ([y] ++ B) from fun _ _ => rfl, obs_app, obs_app]
    rcases List.mem_append.1 hk with hk | hk
    · exact List.mem_append_left _ hk
    · exact List.mem_append_right _ (List.mem_append_right _ hk)
  have hgn : g ∉ obs ((0, v0, b0) :: (1, v1, b1) :: fs.take j) ++ obs (fs.drop (j + 1)) ∧ y.2.1.ownBlock ≠ some g := by
    subst h1
    have hp := List.nodup_append.1 hnd
    refine ⟨fun hm => ?_, fun e => (hyn g e).1 (by simp)⟩
    refine hp.2.2 g (by simp) g ?_ rfl
    rcases List.mem_append.1 hm with hm | hm
    · exact List.mem_append_left _ hm
    · exact List.mem_append_right _ (List.mem_append_right _ hm)
  have hw'g : w'.heap[g]? = some (.cells cur 55 (0, 0)) := (hg.block g hgs (fun e => by
    rcases (hr g e.symm).2 with h | h | h
    · omega
    · omega
    · exact hgn.2 h)).trans h4
  have hkeep : ∀ k ∈ obs ((0, v0, b0) :: (1, v1, b1) :: fs.take j) ++ obs (fs.drop (j + 1)), w'.heap[k]? = wr.heap[k]? := fun k hk => hg.block k (hlt k hk).2 (fun e => by
    rcases (hr k e.symm).2 with h | h | h
    · have := (hlt k hk).2; omega
    · have := (hlt k hk).2; omega
    · rcases List.mem_append.1 hk with hk | hk
      · exact (hyn k h).2.1 hk
      · exact (hyn k h).2.2 hk)
  have hxn : ∀ k, x.ownBlock = some k → k ∉ pre ∧ k ∉ obs ((0, v0, b0) :: (1, v1, b1) :: fs.take j) ∧ k ∉ obs (fs.drop (j + 1)) := fun k hk => by
    rcases hxb with hxb | hxb
    · exact hyn k (by rw [← hxb]; exact hk)
    · have hk' := hxb k hk
      refine ⟨fun hm => ?_, fun hm => by have := (hlt k (List.mem_append_left _ hm)).2; omega, fun hm => by have := (hlt k (List.mem_append_right _ hm)).2; omega⟩
      subst h1
      simp at hm
      omega
  have hxg : x.ownBlock ≠ some g := fun e => (hxn g e).1 (by rw [h1]; simp)
  have hos2 : OS (q + 2) pre (((0, v0, b0) :: (1, v1, b1) :: fs.take j) ++ ((y.1, x, C) : Lv) :: fs.drop (j + 1)) w' := hos'.swap hkeep hx hxn
  have ho : ∀ b, b ≠ g → (w'.setCell ⟨g, o + j * 2 + 1, none⟩ x).heap[b]? = w'.heap[b]? := fun b hne => heap_setCell_other _ _ _ _ hne
  have hob : ∀ k ∈ obs (((0, v0, b0) :: (1, v1, b1) :: fs.take j) ++ ((y.1, x, C) : Lv) :: fs.drop (j + 1)), k ≠ g := fun k hk e => by
    subst e
    rw [show ∀ (A B : List Lv) (z : Lv), A ++ z :: B = A ++ ([z] ++ B) from fun _ _ _ => rfl, obs_app, obs_app, obs_one] at hk
    rcases List.mem_append.1 hk with hk | hk
    · exact hgn.1 (List.mem_append_left _ hk)
    · rcases List.mem_append.1 hk with hk | hk
      · cases ex : x.ownBlock with
        | none => simp only [ex, Option.toList] at hk; simp at hk
        | some z => simp only [ex, Option.toList] at hk; simp at hk; exact hxg (by rw [ex, hk])
      · exact hgn.1 (List.mem_append_right _ hk)
  have hbut := (But.refl (fun k => k = g) w').setCell (p := ⟨g, o + j * 2 + 1, none⟩) rfl x
  have hp2' : P2 q W nm v0 v1 (.slice (some ⟨g, o, none⟩) fs.length cap) w' := by
    have hp := h.p2
    rw [hv] at hp
    exact hp.grownO hg (fun k hk => (hr k hk).1)
  refine ⟨⟨⟨⟨hbut.os.trans hp2'.old.os, hbut.tape.trans hp2'.old.tape, hbut.output.trans hp2'.old.output, Nat.le_trans hp2'.old.size (Nat.le_of_eq hbut.size.symm), fun k hk => ?_⟩, ?_, ?_, ?_⟩, pre, ?_, some ⟨g, o, none⟩, cap, ?_, ?_, .inr ⟨g, o, cur.setIfInBounds (o + j * 2 + 1) x, h1, rfl, h3, ?_, fun i hi => ?_⟩⟩, ?_, ?_⟩
  · rw [ho k (by omega)]; exact hp2'.old.block k hk
  · rw [hbut.size]; exact hp2'.lt
  · rw [ho q (by omega), hv]; exact hp2'.row
  · rw [ho (q + 1) (by omega)]; exact hp2'.row2
  · rw [hset]
    exact hos2.keep (fun k hk => ho k (hob k hk))
  · rw [hv, List.length_set]
  · rw [List.length_set]; exact hc
  · rw [heap_setCell_same _ _ _ _ _ _ hw'g]
  · rw [List.length_set] at hi
    have hne0 : o + j * 2 + 1 ≠ o + i * 2 := by omega
    rw [Array.getElem?_setIfInBounds, if_neg hne0, Array.getElem?_setIfInBounds]
    have h5i := h5 i hi
    by_cases hij : i = j
    · subst hij
      have hsz : o + i * 2 + 1 < cur.size := (Array.getElem?_eq_some_iff.1 h5i.2).1
      rw [if_pos rfl, if_pos hsz]
      have : (fs.set i (y.1, x, C)).getD i (0, undef, []) = (y.1, x, C) := by simp [List.getD, hi]
      rw [this]
      exact ⟨by rw [h5i.1, hy], rfl⟩
    · have hne1 : o + j * 2 + 1 ≠ o + i * 2 + 1 := by omega
      rw [if_neg hne1]
      have : (fs.set j (y.1, x, C)).getD i (0, undef, []) = fs.getD i (0, undef, []) := by
        simp only [List.getD, List.getElem?_set]
        rw [if_neg (fun e => hij e.symm)]
      rw [this]
      exact h5i
  · rw [cell_of_row _ _ _ _ _ _ hw'g]
    rw [(h5 j hj).2, hy]
  · exact frozen_of_row _ _ _ _ _ hw'g
theorem OS.sub {base : Nat} {pre : List Nat} {fs gs : List Lv} {w : World} (h : OS base pre fs w) (hs : gs.Sublist fs) : OS base pre gs w :=
  ⟨fun f hf => h.own f (hs.subset hf), h.nd.sublist ((List.Sublist.refl pre).append (hs.filterMap _))⟩
theorem OS.base {base b2 : Nat} {pre : List Nat} {fs : List Lv} {w : World} (h : OS base pre fs w) (hb : b2 ≤ base) : OS b2 pre fs w := ⟨fun f hf => own_mono (h.own f hf) hb, h.nd⟩
theorem P2.setRow (h : P2 q W nm v0 v1 vl wr) (nm' : ByteArray) (u0 u1 ul : Value) : P2 q W nm' u0 u1 ul (wr.setRow q #[.string nm', u0, u1, ul]) := by
  refine ⟨below_setRow h.old _ (Nat.le_refl _) _, ?_, setRow_heap _ _ _ _ 26 _ h.row, ?_⟩
  · have h2 : (wr.setRow q #[.string nm', u0, u1, ul]).heap[q + 1]? = some (.cells zPat 26) := by rw [setRow_other _ _ _ _ (by omega)]; exact h.row2
    exact (Array.getElem?_eq_some_iff.1 h2).1
  · rw [setRow_other _ _ _ _ (by omega)]; exact h.row2
/-- what Copy answered is laid into the box -/
theorem ms_copy {p : Pt} {q1 : Nat} {w1 w2 : World} (h : P2 q W nm v0 v1 vl w2) {u0 u1 l : Value} (hq : q + 2 ≤ q1) (hl : lvl fs = p.ln) (ho : w2.ownsRow (q1 + 2) 55 2 l fs.length (lvc fs)) (hos : OS (q1 + 2) l.ownBlock.toList ((0, u0, p.b0) :: (1, u1, p.b1) :: fs) w2) :
    MS q W p.nm u0 u1 l p.b0 p.b1 fs (w2.setRow q #[.string p.nm, u0, u1, l]) := by
  have hot : ∀ b, q + 2 ≤ b → (w2.setRow q #[.string p.nm, u0, u1, l]).heap[b]? = w2.heap[b]? := fun b hb => setRow_other _ _ _ _ (by omega)
  refine ⟨h.setRow _ _ _ _, l.ownBlock.toList, (hos.base (by omega)).keep (fun k hk => hot k (by have := (hos.lt k hk).1; omega)), ?_⟩
  rcases ho.2 with ⟨rfl, e2⟩ | ⟨g, cap, cur, rfl, hb, hg, h1, h2, h3, h4⟩
  · exact ⟨none, 0, by rw [e2], by rw [e2]; exact Nat.le_refl _, .inl (List.length_eq_zero_iff.1 e2)⟩
  · refine ⟨some ⟨g, 0, none⟩, cap, rfl, h1, .inr ⟨g, 0, cur, rfl, rfl, by omega, (hot g (by omega)).trans hg, fun j hj => ?_⟩⟩
    obtain ⟨a1, a2⟩ := lvc_at fs j hj
    have hh : ∀ i u, (lvc fs)[i]? = some u → cur[i]? = some u := fun i u hu => by
      have hi := (List.getElem?_eq_some_iff.1 hu).1
      rw [ho.1] at hi
      rw [← h4, List.getElem?_take_of_lt hi] at hu
      simpa using hu
    rw [Nat.zero_add]
    exact ⟨hh _ _ a1, hh _ _ a2⟩
/-- the first line is taken out, one of the lists known ahead is another -/
theorem MS.fb (h : MS q W nm v0 v1 vl b0 b1 fs wr) (hb : Below wr.heap.size wr w') {x : Value} {C : List Int} (hx : w'.ownsRow (wr.heap.size + 3) 3 1 x C.length (C.map (Value.int .i64))) {a : Option Addr} {n cap g o : Nat} (hv : vl = .slice (some ⟨g, o, none⟩) (n + 1) (cap + 1)) (hf : fs.length = n + 1) (ha : n = 0 ∨ a = some ⟨g, o + 2, none⟩) :
    (∃ pre, OS (q + 2) pre ((0, x, C) :: (1, v1, b1) :: fs.tail) w' ∧ LnX (q + 2) pre (.slice a n cap) fs.tail w') ∧ (∃ pre, OS (q + 2) pre ((0, v0, b0) :: (1, x, C) :: fs.tail) w' ∧ LnX (q + 2) pre (.slice a n cap) fs.tail w') := by
  have hm := h.below hb
  obtain ⟨pre, hos, a', cap', e, hc, hl⟩ := hm.ex
  obtain ⟨pre0, hos0, _⟩ := h.ex
  rw [hv] at e
  injection e with e1 e2 e3
  subst e1
  have hq := h.p2.lt
  have hx2 : w'.ownsRow (q + 2) 3 1 x C.length (C.map (Value.int .i64)) := own_mono hx (by omega)
  have hxk : ∀ k, x.ownBlock = some k → wr.heap.size < k := fun k hk => by have := (hx.lt k hk).1; omega
  have hobs : ∀ k ∈ obs ((0, v0, b0) :: (1, v1, b1) :: fs), k < wr.heap.size := fun k hk => (hos0.lt k hk).2
  obtain ⟨y, hy⟩ : ∃ y, fs = y :: fs.tail := by
    cases hfs : fs with
    | nil => rw [hfs] at hf; simp at hf
    | cons y r => exact ⟨y, rfl⟩
  have hln : LnX (q + 2) pre (.slice a n cap) fs.tail w' ∧ ∀ k ∈ pre, fs ≠ [] → k < wr.heap.size := by
    rcases hl with hl | ⟨g', o', cur, h1, h2, h3, h4, h5⟩
    · rw [hl] at hf; simp at hf
    injection h2 with h2
    injection h2 with h2 h2'
    subst h2 h2'
    have hg0 : g < wr.heap.size := by
      obtain ⟨g2, o2, c2, e2', _, _, hlt, _⟩ := h.at (j := 0) (by omega)
      rw [hv] at e2'
      injection e2' with e2'
      injection e2' with e2'
      injection e2' with e2'
      subst e2'
      exact hlt
    refine ⟨⟨a, cap, by rw [List.length_tail, hf]; rfl, by rw [List.length_tail]; omega, ?_⟩, fun k hk _ => by rw [h1] at hk; simp at hk; omega⟩
    by_cases hn0 : n = 0
    · left
      exact List.length_eq_zero_iff.1 (by rw [List.length_tail, hf, hn0])
    · right
      refine ⟨g, o + 2, cur, h1, ha.resolve_left hn0, h3, h4, fun j hj => ?_⟩
      rw [List.length_tail] at hj
      have := h5 (j + 1) (by omega)
      have hgd : fs.tail.getD j (0, undef, []) = fs.getD (j + 1) (0, undef, []) := by rw [hy]; simp [List.getD]
      rw [hgd, show o + 2 + j * 2 = o + (j + 1) * 2 by omega]
      exact this
  have hfs0 : fs ≠ [] := fun e => by rw [e] at hf; simp at hf
  have hpre : ∀ k, x.ownBlock = some k → k ∉ pre := fun k hk hm' => by have := hln.2 k hm' hfs0; have := hxk k hk; omega
  refine ⟨⟨pre, ?_, hln.1⟩, ⟨pre, ?_, hln.1⟩⟩
  · have h1 : OS (q + 2) pre ([] ++ ((0, x, C) : Lv) :: (1, v1, b1) :: fs) w' := OS.swap (y := (0, v0, b0)) hos (fun k _ => rfl) hx2 (fun k hk => ⟨hpre k hk, by simp [obs], fun hm' => by
      have := hobs k (by rw [show ((0, v0, b0) :: (1, v1, b1) :: fs : List Lv) = [(0, v0, b0)] ++ ((1, v1, b1) :: fs) from rfl, obs_app]; exact List.mem_append_right _ hm')
      have := hxk k hk
      omega⟩)
    exact h1.sub (((List.tail_sublist fs).cons_cons _).cons_cons _)
  · have h1 : OS (q + 2) pre ([(0, v0, b0)] ++ ((1, x, C) : Lv) :: fs) w' := OS.swap (y := (1, v1, b1)) hos (fun k _ => rfl) hx2 (fun k hk => ⟨hpre k hk, fun hm' => by
      have := hobs k (by rw [show ((0, v0, b0) :: (1, v1, b1) :: fs : List Lv) = [(0, v0, b0)] ++ ((1, v1, b1) :: fs) from rfl, obs_app]; exact List.mem_append_left _ hm')
      have := hxk k hk
      omega, fun hm' => by
      have := hobs k (by rw [show ((0, v0, b0) :: (1, v1, b1) :: fs : List Lv) = [(0, v0, b0), (1, v1, b1)] ++ fs from rfl, obs_app]; exact List.mem_append_right _ hm')
      have := hxk k hk
      omega⟩)
    exact h1.sub (((List.tail_sublist fs).cons_cons _).cons_cons _)
end
end Go.Proofs.YtchnkpgkckadmaaGreatDoor
