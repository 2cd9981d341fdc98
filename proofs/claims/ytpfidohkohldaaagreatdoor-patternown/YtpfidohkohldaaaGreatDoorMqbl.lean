import Derived.Test.YtpfidohkohldaaaGreatDoorMqbk
import Derived.Test.YtpfidohkohldaaaGreatDoorMqbi
namespace Go.Proofs.YtpfidohkohldaaaGreatDoor
set_option linter.unusedSimpArgs false
set_option linter.unusedVariables false
set_option maxRecDepth 100000
open Go.ChangeShapes Go.WideShapes Go.ChangeAt Go.RowKit Go.Pin Go.Pat Go.Deep
/-- what grow has answered: its lists, and from where to where its memory lies -/
structure ZG where
  vT : Value
  vL : Value
  lo2 : Nat
  hi2 : Nat
/-- patterns in a row, the first of them gone on from: each beside what goes on from it -/
structure SG (q E : Nat) (vo : Value) (A : List AP) (m : Nat → Int) (Z : List ZG) (w : World) : Prop where
  ro : w.ownsRow q 26 4 vo A.length (pcs A)
  ok : ∀ (j : Nat) (a : AP), A[j]? = some a → Z.length ≤ j → a.ok w
  gr : ∀ (j : Nat) (a : AP) (z : ZG), A[j]? = some a → Z[j]? = some z → ∃ Y, GR a.lo a.hi z.lo2 z.hi2 a.v0 a.v1 a.vl a.p a.fs (m j) z.vT z.vL Y w
  ds : ∀ (i j : Nat) (a b : AP), A[i]? = some a → A[j]? = some b → i ≠ j → a.hi ≤ b.lo ∨ b.hi ≤ a.lo
  ge : ∀ a ∈ A, q ≤ a.lo
  ou : ∀ g, vo.ownBlock = some g → g < E ∧ ∀ a ∈ A, g < a.lo ∨ a.hi ≤ g
  he : ∀ a ∈ A, a.hi ≤ E
  hz : ∀ z ∈ Z, E ≤ z.lo2 ∧ z.hi2 ≤ w.heap.size
  hs : E ≤ w.heap.size
theorem AL.sg {q : Nat} {vo : Value} {A : List AP} {w : World} {m : Nat → Int} {E : Nat} (h : AL q vo A w) (hE : ∀ a ∈ A, a.hi ≤ E) (hv : ∀ g, vo.ownBlock = some g → g < E) (hs : E ≤ w.heap.size) : SG q E vo A m [] w :=
  ⟨h.ro, fun j a ha _ => h.ok a (List.mem_of_getElem? ha), fun j a z _ hz => by simp at hz, fun i j a b ha hb hne => h.dj ha hb hne, h.ge, fun g hg => ⟨hv g hg, h.ou g hg⟩, hE, fun z hz => (by cases hz), hs⟩
section
variable {q E : Nat} {vo : Value} {A : List AP} {m : Nat → Int} {Z : List ZG} {w w' : World}
/-- what else is written touches none of it -/
theorem SG.keep (h : SG q E vo A m Z w) (hk : ∀ k, k < w.heap.size → (∀ g, vo.ownBlock = some g → True) → ((∃ a ∈ A, a.lo ≤ k ∧ k < a.hi) ∨ vo.ownBlock = some k ∨ ∃ z ∈ Z, z.lo2 ≤ k ∧ k < z.hi2) → w'.heap[k]? = w.heap[k]?) (hz : w.heap.size ≤ w'.heap.size) : SG q E vo A m Z w' := by
  have hEs := h.hs
  refine ⟨own_keep h.ro (fun g hg => hk g (h.ro.lt g hg).2 (fun _ _ => trivial) (.inr (.inl hg))), fun j a ha hj => ?_, fun j a z ha hzj => ?_, h.ds, h.ge, h.ou, h.he, fun z hz' => ⟨(h.hz z hz').1, Nat.le_trans (h.hz z hz').2 hz⟩, Nat.le_trans h.hs hz⟩
  · have hm := List.mem_of_getElem? ha
    refine (h.ok j a ha hj).keep (fun k k1 k2 => hk k (by have := h.he a hm; omega) (fun _ _ => trivial) (.inl ⟨a, hm, k1, k2⟩)) hz
  · have hm := List.mem_of_getElem? ha
    have hmz := List.mem_of_getElem? hzj
    obtain ⟨Y, hY⟩ := h.gr j a z ha hzj
    refine ⟨Y, hY.keep (fun k hk' => ?_) hz⟩
    rcases hk' with ⟨k1, k2⟩ | ⟨k1, k2⟩
    · exact hk k (by have := h.he a hm; omega) (fun _ _ => trivial) (.inl ⟨a, hm, k1, k2⟩)
    · exact hk k (by have := (h.hz z hmz).2; omega) (fun _ _ => trivial) (.inr (.inr ⟨z, hmz, k1, k2⟩))
theorem SG.below (h : SG q E vo A m Z w) (hb : Below w.heap.size w w') : SG q E vo A m Z w' := h.keep (fun k hk _ _ => hb.block k hk) hb.size
/-- something between lo and hi has changed that is none of it -/
theorem SG.apart (h : SG q E vo A m Z w) {lo hi : Nat} (hc : Ch lo hi w w') (ha : ∀ a ∈ A, a.hi ≤ lo ∨ hi ≤ a.lo) (hv : ∀ g, vo.ownBlock = some g → g < lo ∨ hi ≤ g) (hz : ∀ z ∈ Z, z.hi2 ≤ lo ∨ hi ≤ z.lo2) : SG q E vo A m Z w' := by
  refine h.keep (fun k hk _ h3 => hc.at ?_ hk) hc.1.size
  rcases h3 with ⟨a, hm, k1, k2⟩ | h3 | ⟨z, hm, k1, k2⟩
  · rcases ha a hm with h4 | h4 <;> omega
  · exact hv k h3
  · rcases hz z hm with h4 | h4 <;> omega
/-- the next one is gone on from -/
theorem SG.grow (h : SG q E vo A m Z w) {i : Nat} {a : AP} (ha : A[i]? = some a) (hi : Z.length = i) {vT vL : Value} (hg : ∃ Y, GR a.lo a.hi w.heap.size w'.heap.size a.v0 a.v1 a.vl a.p a.fs (m i) vT vL Y w') (hc : Ch a.lo a.hi w w') : SG q E vo A m (Z ++ [⟨vT, vL, w.heap.size, w'.heap.size⟩]) w' := by
  have hEs := h.hs
  have hm := List.mem_of_getElem? ha
  have haE := h.he a hm
  have hk : ∀ (j : Nat) (b : AP), A[j]? = some b → j ≠ i → ∀ k, b.lo ≤ k → k < b.hi → w'.heap[k]? = w.heap[k]? := fun j b hb hne k k1 k2 => hc.at (by rcases h.ds j i b a hb ha hne with h4 | h4 <;> omega) (by have := h.he b (List.mem_of_getElem? hb); omega)
  refine ⟨own_keep h.ro (fun g hg => hc.at ((h.ou g hg).2 a hm) (h.ro.lt g hg).2), fun j b hb hj => ?_, fun j b z hb hz => ?_, h.ds, h.ge, h.ou, h.he, fun z hz => ?_, Nat.le_trans hEs hc.1.size⟩
  · rw [List.length_append] at hj
    simp only [List.length_cons, List.length_nil] at hj
    exact (h.ok j b hb (by omega)).keep (hk j b hb (by omega)) hc.1.size
  · rw [List.getElem?_append] at hz
    split at hz
    · rename_i hlt
      obtain ⟨Y, hY⟩ := h.gr j b z hb hz
      have hmz := List.mem_of_getElem? hz
      refine ⟨Y, hY.keep (fun k hk' => ?_) hc.1.size⟩
      rcases hk' with ⟨k1, k2⟩ | ⟨k1, k2⟩
      · exact hk j b hb (by omega) k k1 k2
      · exact hc.at (by have := (h.hz z hmz).1; omega) (by have := (h.hz z hmz).2; omega)
    · rename_i hlt
      have hji : j - Z.length = 0 := by
        have := (List.getElem?_eq_some_iff.1 hz).1
        simpa using this
      rw [hji] at hz
      simp only [List.getElem?_cons_zero, Option.some.injEq] at hz
      obtain rfl : j = i := by omega
      rw [ha] at hb
      injection hb with hb
      subst hb hz
      exact hg
  · rcases List.mem_append.1 hz with hz | hz
    · exact ⟨(h.hz z hz).1, Nat.le_trans (h.hz z hz).2 hc.1.size⟩
    · obtain rfl := List.mem_singleton.1 hz
      exact ⟨hEs, Nat.le_refl _⟩
end
/-- the cells of what was answered, by turns -/
def gcs (Z1 Z2 : List ZG) : List Value := (List.zip Z1 Z2).flatMap fun z => [z.1.vT, z.1.vL, z.2.vT, z.2.vL]
theorem gcs_snoc {Z1 Z2 : List ZG} (h : Z1.length = Z2.length) (a b : ZG) : gcs (Z1 ++ [a]) (Z2 ++ [b]) = gcs Z1 Z2 ++ [a.vT, a.vL, b.vT, b.vL] := by
  unfold gcs
  rw [List.zip_append h]
  simp
theorem gcs_at : ∀ (Z1 Z2 : List ZG) (i : Nat) (a b : ZG), Z1[i]? = some a → Z2[i]? = some b → (gcs Z1 Z2)[i * 4]? = some a.vT ∧ (gcs Z1 Z2)[i * 4 + 1]? = some a.vL ∧ (gcs Z1 Z2)[i * 4 + 2]? = some b.vT ∧ (gcs Z1 Z2)[i * 4 + 3]? = some b.vL
  | [], _, i, a, b, h1, _ => by simp at h1
  | _ :: _, [], i, a, b, _, h2 => by simp at h2
  | x :: Z1, y :: Z2, 0, a, b, h1, h2 => by
    simp only [List.getElem?_cons_zero, Option.some.injEq] at h1 h2
    subst h1 h2
    simp [gcs]
  | x :: Z1, y :: Z2, i + 1, a, b, h1, h2 => by
    have := gcs_at Z1 Z2 i a b (by simpa using h1) (by simpa using h2)
    have e : gcs (x :: Z1) (y :: Z2) = x.vT :: x.vL :: y.vT :: y.vL :: gcs Z1 Z2 := by simp [gcs]
    rw [e, show (i + 1) * 4 = i * 4 + 1 + 1 + 1 + 1 by omega]
    simpa [List.getElem?_cons_succ] using this
theorem parts_gr : (Tryz.prog.info? 38).map (fun i => (i.zero, i.size, i.bytes)) = some (some (.agg #[.slice none 0 0, .slice none 0 0]), 2, 48) := by kernel_rfl
/-- both rows, and the row of what was answered, n of each -/
structure GG (q1 E1 q2 E2 q4 n : Nat) (vo1 vo2 : Value) (A1 A2 : List AP) (m1 m2 : Nat → Int) (Z1 Z2 : List ZG) (vg : Value) (w : World) : Prop where
  s1 : SG q1 E1 vo1 A1 m1 Z1 w
  s2 : SG q2 E2 vo2 A2 m2 Z2 w
  ro : w.ownsRow q4 38 2 vg (2 * n) (gcs (Z1.take n) (Z2.take n))
  og : ∀ g, vg.ownBlock = some g → ∀ z ∈ Z1 ++ Z2, g < z.lo2 ∨ z.hi2 ≤ g
  zq : ∀ z ∈ Z1 ++ Z2, q4 ≤ z.lo2
  e1 : E1 ≤ q2
  e2 : E2 ≤ q4
  e3 : q2 ≤ q4
  e4 : q4 ≤ w.heap.size
  n1 : n ≤ Z1.length
  n2 : n ≤ Z2.length
section
variable {q1 E1 q2 E2 q4 n : Nat} {vo1 vo2 : Value} {A1 A2 : List AP} {m1 m2 : Nat → Int} {Z1 Z2 : List ZG} {vg : Value} {w w' : World}
theorem GG.below (h : GG q1 E1 q2 E2 q4 n vo1 vo2 A1 A2 m1 m2 Z1 Z2 vg w) (hb : Below w.heap.size w w') : GG q1 E1 q2 E2 q4 n vo1 vo2 A1 A2 m1 m2 Z1 Z2 vg w' :=
  ⟨h.s1.below hb, h.s2.below hb, owns_below hb h.ro, h.og, h.zq, h.e1, h.e2, h.e3, Nat.le_trans h.e4 hb.size, h.n1, h.n2⟩
theorem GG.grow1 (h : GG q1 E1 q2 E2 q4 n vo1 vo2 A1 A2 m1 m2 Z1 Z2 vg w) {i : Nat} (hz0 : Z1.length = i) {a : AP} (ha : A1[i]? = some a) {vT vL : Value} (hg : ∃ Y, GR a.lo a.hi w.heap.size w'.heap.size a.v0 a.v1 a.vl a.p a.fs (m1 i) vT vL Y w') (hc : Ch a.lo a.hi w w') : GG q1 E1 q2 E2 q4 n vo1 vo2 A1 A2 m1 m2 (Z1 ++ [⟨vT, vL, w.heap.size, w'.heap.size⟩]) Z2 vg w' := by
  subst hz0
  have hm := List.mem_of_getElem? ha
  have haE := h.s1.he a hm
  have e1 := h.e1
  have e2 := h.e2
  have e3 := h.e3
  have e4 := h.e4
  refine ⟨h.s1.grow ha rfl hg hc, h.s2.apart hc (fun b hb => .inr (by have := h.s2.ge b hb; omega)) (fun g hg => .inr (by have := (h.s2.ro.lt g hg).1; omega)) (fun z hz => .inr (by have := h.zq z (List.mem_append_right _ hz); omega)), ?_, fun g hg z hz => ?_, fun z hz => ?_, e1, e2, e3, Nat.le_trans h.e4 hc.1.size, by rw [List.length_append]; have := h.n1; omega, h.n2⟩
  · rw [List.take_append_of_le_length h.n1]
    exact own_keep h.ro (fun g hg => hc.at (.inr (by have := (h.ro.lt g hg).1; omega)) (h.ro.lt g hg).2)
  · simp only [List.append_assoc, List.mem_append, List.mem_singleton] at hz
    rcases hz with hz | hz | hz
    · exact h.og g hg z (List.mem_append_left _ hz)
    · subst hz
      exact .inl (h.ro.lt g hg).2
    · exact h.og g hg z (List.mem_append_right _ hz)
  · simp only [List.append_assoc, List.mem_append, List.mem_singleton] at hz
    rcases hz with hz | hz | hz
    · exact h.zq z (List.mem_append_left _ hz)
    · subst hz
      exact e4
    · exact h.zq z (List.mem_append_right _ hz)
theorem GG.grow2 (h : GG q1 E1 q2 E2 q4 n vo1 vo2 A1 A2 m1 m2 Z1 Z2 vg w) {i : Nat} (hz0 : Z2.length = i) {a : AP} (ha : A2[i]? = some a) {vT vL : Value} (hg : ∃ Y, GR a.lo a.hi w.heap.size w'.heap.size a.v0 a.v1 a.vl a.p a.fs (m2 i) vT vL Y w') (hc : Ch a.lo a.hi w w') : GG q1 E1 q2 E2 q4 n vo1 vo2 A1 A2 m1 m2 Z1 (Z2 ++ [⟨vT, vL, w.heap.size, w'.heap.size⟩]) vg w' := by
  subst hz0
  have hm := List.mem_of_getElem? ha
  have haE := h.s2.he a hm
  have haq := h.s2.ge a hm
  have e1 := h.e1
  have e2 := h.e2
  have e3 := h.e3
  have e4 := h.e4
  refine ⟨h.s1.apart hc (fun b hb => .inl (by have := h.s1.he b hb; omega)) (fun g hg => .inl (by have := (h.s1.ou g hg).1; omega)) (fun z hz => .inr (by have := h.zq z (List.mem_append_left _ hz); omega)), h.s2.grow ha rfl hg hc, ?_, fun g hg z hz => ?_, fun z hz => ?_, e1, e2, e3, Nat.le_trans h.e4 hc.1.size, h.n1, by rw [List.length_append]; have := h.n2; omega⟩
  · rw [List.take_append_of_le_length h.n2]
    exact own_keep h.ro (fun g hg => hc.at (.inr (by have := (h.ro.lt g hg).1; omega)) (h.ro.lt g hg).2)
  · simp only [List.mem_append, List.mem_singleton] at hz
    rcases hz with hz | hz | hz
    · exact h.og g hg z (List.mem_append_left _ hz)
    · exact h.og g hg z (List.mem_append_right _ hz)
    · subst hz
      exact .inl (h.ro.lt g hg).2
  · simp only [List.mem_append, List.mem_singleton] at hz
    rcases hz with hz | hz | hz
    · exact h.zq z (List.mem_append_left _ hz)
    · exact h.zq z (List.mem_append_right _ hz)
    · subst hz
      exact e4
/-- both are appended -/
theorem GG.app (h : GG q1 E1 q2 E2 q4 n vo1 vo2 A1 A2 m1 m2 Z1 Z2 vg w) {z1 z2 : ZG} (h1 : Z1[n]? = some z1) (h2 : Z2[n]? = some z2) (hn : n ≤ 1000) (hv : ∀ u ∈ [z1.vT, z1.vL, z2.vT, z2.vL], u.oneCell' = true) :
    ∀ ty, ∃ v' w', (Builtin.append_ #[35, 35] ty #[vg, .slice (some ⟨w.heap.size, 0, none⟩) 2 2]).run Tryz.prog (w.alloc (.cells #[z1.vT, z1.vL, z2.vT, z2.vL] 38)) = .ok v' w' ∧ (GG q1 E1 q2 E2 q4 (n + 1) vo1 vo2 A1 A2 m1 m2 Z1 Z2 v' w' ∧ (∃ a c, v' = .slice a (2 * n + 2) c) ∧ Below q4 w w') := fun ty => by
  have hb : Below w.heap.size w (w.alloc (.cells #[z1.vT, z1.vL, z2.vT, z2.vL] 38)) := (Below.refl _ _).alloc (Nat.le_refl _) _
  have h0 := h.below hb
  obtain ⟨i9, i1, hz'⟩ := Option.map_eq_some_iff.1 parts_gr
  simp only [Prod.mk.injEq] at hz'
  obtain ⟨i2, i3, i4⟩ := hz'
  obtain ⟨v', w', hr, k2, k3, _, k5⟩ := run_append_own_at (P := Tryz.prog) _ q4 35 ty 38 i9 _ 2 48 Tryz.underlying35 i1 i2 i3 i4 rfl (by decide) _ (2 * n) _ h0.ro ⟨w.heap.size, 0, none⟩ 2 2 [z1.vT, z1.vL, z2.vT, z2.vL] rfl (fun j u hu => by
    rw [add_mid, Nat.zero_add, cell_of_row _ _ _ _ _ _ (heap_alloc_new w _), ← hu]; simp) hv (by unfold maxLen; omega) (by omega) h0.e4
  have hz := k3.size
  have hbz := hb.size
  have hblk : ∀ g, vg.ownBlock = some g → q4 ≤ g := fun g hg => (h.ro.lt g hg).1
  have hnew : ∀ g, v'.ownBlock = some g → vg.ownBlock = some g ∨ w.heap.size ≤ g := fun g hg => by
    rcases k5 with k5 | k5
    · exact .inl (by rw [← k5]; exact hg)
    · rw [k5] at hg
      injection hg with hg
      exact .inr (by omega)
  have e1 := h.e1
  have e2 := h.e2
  have e3 := h.e3
  have hk1 : SG q1 E1 vo1 A1 m1 Z1 w' := h0.s1.keep (fun k hk _ h3 => k3.block k hk (fun e => by
    have hq := hblk k e.symm
    rcases h3 with ⟨a, hm, g1, g2⟩ | h3 | ⟨z, hm, g1, g2⟩
    · have := h.s1.he a hm; have := h.s2.hs; omega
    · have := (h.s1.ou k h3).1; omega
    · rcases h.og k e.symm z (List.mem_append_left _ hm) with h4 | h4 <;> omega)) hz
  have hk2 : SG q2 E2 vo2 A2 m2 Z2 w' := h0.s2.keep (fun k hk _ h3 => k3.block k hk (fun e => by
    have hq := hblk k e.symm
    rcases h3 with ⟨a, hm, g1, g2⟩ | h3 | ⟨z, hm, g1, g2⟩
    · have := h.s2.he a hm; omega
    · have := (h.s2.ou k h3).1; omega
    · rcases h.og k e.symm z (List.mem_append_right _ hm) with h4 | h4 <;> omega)) hz
  have hl1 := (List.getElem?_eq_some_iff.1 h1).1
  have hl2 := (List.getElem?_eq_some_iff.1 h2).1
  refine ⟨v', w', hr, ⟨hk1, hk2, ?_, fun g hg z hz' => ?_, h.zq, h.e1, h.e2, h.e3, Nat.le_trans h0.e4 hz, hl1, hl2⟩, ?_, (hb.mono h.e4).grown k3 h0.e4 hblk⟩
  · rw [List.take_add_one, List.take_add_one, h1, h2, Option.toList_some, Option.toList_some, gcs_snoc (by rw [List.length_take, List.length_take]; omega), show 2 * (n + 1) = 2 * n + 2 by omega]
    exact k2
  · rcases hnew g hg with h4 | h4
    · exact h.og g h4 z hz'
    · refine .inr ?_
      rcases List.mem_append.1 hz' with hm | hm
      · have := (h.s1.hz z hm).2; omega
      · have := (h.s2.hz z hm).2; omega
  · exact own_slice' k2
end
end Go.Proofs.YtpfidohkohldaaaGreatDoor
namespace Go.Proofs.YtpfidohkohldaaaGreatDoor
set_option linter.unusedSimpArgs false
set_option linter.unusedVariables false
open Go.ChangeShapes Go.WideShapes Go.ChangeAt Go.RowKit Go.Pin Go.Pat
/-- a pattern that a statement looks at -/
def Sml (p : Pt) : Prop := p.b0.length ≤ 2000 ∧ p.b1.length ≤ 2000 ∧ p.ln.length ≤ 2000 ∧ p.nm.size ≤ 8000 ∧ ∀ j, j < p.ln.length → (p.ln.getD j (0, [])).2.length ≤ 2000
/-- what much answers -/
def MuP (p : Pt) (q : Nat) (W : World) (e : Ending) (w' : World) : Prop := ∃ b, e = .returned (.bool b) ∧ (b = false → Sml p) ∧ Below q W w'
set_option maxRecDepth 100000 in
set_option maxHeartbeats 4000000 in
theorem much_any (v : Value) (p : Pt) (W : World) (hR : RdP W v p) :
    Calls Tryz.prog 4 #[v] W fun e w' => MuP p W.heap.size W e w' := by
  obtain ⟨v0, v1, vl, rfl, h0, h1, hl⟩ := hR
  obtain ⟨a0, p0, rfl, -, z0, -⟩ := id h0
  obtain ⟨a1, p1, rfl, -, z1, -⟩ := id h1
  obtain ⟨al, cl, rfl, -, zl, -⟩ := id hl
  have hst := pb_start W p.nm (.slice a0 p.b0.length p0) (.slice a1 p.b1.length p1) (.slice al p.ln.length cl)
  have hHL := fun Y (hY : Below W.heap.size W Y) => hl.below hY
  obtain ⟨q, hq⟩ : ∃ q, W.heap.size = q := ⟨_, rfl⟩
  obtain ⟨nm, hnm⟩ : ∃ nm, p.nm = nm := ⟨_, rfl⟩
  obtain ⟨n0, hn0⟩ : ∃ n0, p.b0.length = n0 := ⟨_, rfl⟩
  obtain ⟨n1, hn1⟩ : ∃ n1, p.b1.length = n1 := ⟨_, rfl⟩
  obtain ⟨L, hLn⟩ : ∃ L, p.ln.length = L := ⟨_, rfl⟩
  simp only [hq, hnm, hn0, hn1, hLn] at hst hHL z0 z1 zl ⊢
  obtain ⟨W1, hW1⟩ : ∃ W1, W.alloc (.cells #[.string nm, .slice a0 n0 p0, .slice a1 n1 p1, .slice al L cl] 26) = W1 := ⟨_, rfl⟩
  rw [hW1] at hst
  have HP : Hid (PB q W nm (.slice a0 n0 p0) (.slice a1 n1 p1) (.slice al L cl) W1) := hst
  have HHL : Hid _ := hHL
  have HEQ : Hid (p.nm = nm ∧ p.b0.length = n0 ∧ p.b1.length = n1 ∧ p.ln.length = L) := ⟨hnm, hn0, hn1, hLn⟩
  have c0 := hst.c0
  have c1 := hst.c1
  have c2 := hst.c2
  have c3 := hst.c3
  clear hst hHL h0 h1 hl hnm hn0 hn1 hLn
  by_cases s0 : n0 ≤ 2000
  case neg =>
    have t0 : (2000 : Int) < (n0 : Int) := by omega
    go_enter Tryz.func4, Tryz.ntmps4
    go_wp2
    go_ret
    exact ⟨true, rfl, fun h => (by cases h), HP.out.old⟩
  by_cases s1 : n1 ≤ 2000
  case neg =>
    have t0 : decide ((2000 : Int) < (n0 : Int)) = false := decide_eq_false (by omega)
    have t1 : (2000 : Int) < (n1 : Int) := by omega
    go_enter Tryz.func4, Tryz.ntmps4
    go_wp2
    go_ret
    exact ⟨true, rfl, fun h => (by cases h), HP.out.old⟩
  by_cases s2 : L ≤ 2000
  case neg =>
    have t0 : decide ((2000 : Int) < (n0 : Int)) = false := decide_eq_false (by omega)
    have t1 : decide ((2000 : Int) < (n1 : Int)) = false := decide_eq_false (by omega)
    have t2 : (2000 : Int) < (L : Int) := by omega
    go_enter Tryz.func4, Tryz.ntmps4
    go_wp2
    go_ret
    exact ⟨true, rfl, fun h => (by cases h), HP.out.old⟩
  by_cases s3 : nm.size ≤ 8000
  case neg =>
    have t0 : decide ((2000 : Int) < (n0 : Int)) = false := decide_eq_false (by omega)
    have t1 : decide ((2000 : Int) < (n1 : Int)) = false := decide_eq_false (by omega)
    have t2 : decide ((2000 : Int) < (L : Int)) = false := decide_eq_false (by omega)
    have t3 : (8000 : Int) < (nm.size : Int) := by omega
    go_enter Tryz.func4, Tryz.ntmps4
    go_wp2
    go_ret
    exact ⟨true, rfl, fun h => (by cases h), HP.out.old⟩
  have t0 : decide ((2000 : Int) < (n0 : Int)) = false := decide_eq_false (by omega)
  have t1 : decide ((2000 : Int) < (n1 : Int)) = false := decide_eq_false (by omega)
  have t2 : decide ((2000 : Int) < (L : Int)) = false := decide_eq_false (by omega)
  have t3 : decide ((8000 : Int) < (nm.size : Int)) = false := decide_eq_false (by omega)
  have HS : Hid (n0 ≤ 2000 ∧ n1 ≤ 2000 ∧ L ≤ 2000 ∧ nm.size ≤ 8000) := ⟨s0, s1, s2, s3⟩
  have hw1 : wrap64 ((n0 : Int) + (n1 : Int)) = (n0 : Int) + n1 := IntWalk.wrap64_in _ ⟨by omega, by omega⟩
  have hw2 : wrap64 ((n0 : Int) + (n1 : Int) + (L : Int)) = (n0 : Int) + n1 + L := IntWalk.wrap64_in _ ⟨by omega, by omega⟩
  go_enter Tryz.func4, Tryz.ntmps4
  go_wp2
  clear hw1 hw2 t0 t1 t2 t3 c0 c1 c2 c3
  go_loopw [3, 4] (fun v3 v4 wr => ∃ (i m : Nat), i ≤ L ∧ m ≤ 6000 ∧ v3 = .int .i64 m ∧ v4 = .int .i64 i ∧ (∀ j, j < i → (p.ln.getD j (0, [])).2.length ≤ 2000) ∧ PB q W nm (.slice a0 n0 p0) (.slice a1 n1 p1) (.slice al L cl) wr) (fun _ v _ => L - (intOf v).toNat)
  case atStart => exact ⟨0, n0 + n1 + L, Nat.zero_le _, by have := HS.out; omega, by simp, rfl, fun j hj => absurd hj (Nat.not_lt_zero _), HP.out⟩
  case round =>
    obtain ⟨i, m, hi, hm, rfl, rfl, ha, hp⟩ := hrel
    have HPR : Hid _ := hp
    have HA : Hid _ := ha
    have c3 := hp.c3
    by_cases hlt : i < L
    · have b1 : (i : Int) < (L : Int) := by omega
      obtain ⟨b, o, a2, n2, c2, rfl, hc, hn, hn2⟩ := (HHL.out wr hp.old).at hlt
      have k1 := (hc wr (Below.refl _ _)).2
      have HN2 : Hid (n2 = (p.ln.getD i (0, [])).2.length) := hn2
      have HM : Hid (m ≤ 6000) := hm
      clear hc hn hn2 hp ha
      by_cases hg : n2 ≤ 2000
      · have t0 : ¬ (2000 : Int) < (n2 : Int) := by omega
        by_cases hg2 : m + n2 ≤ 2000
        · have t2 : ¬ (2000 : Int) < (m : Int) + (n2 : Int) := by omega
          have t1 : wrap64 ((m : Int) + (n2 : Int)) = (m : Int) + (n2 : Int) := IntWalk.wrap64_in _ ⟨by omega, by omega⟩
          go_wp2
          refine ⟨⟨i + 1, m + n2, hlt, by omega, by simp, congrArg (Value.int .i64) (by omega), fun j hj => ?_, HPR.out⟩, by show L - ((i : Int) + 1).toNat < L - ((i : Int)).toNat; omega⟩
          by_cases hji : j = i
          · rw [hji, ← HN2.out]; exact hg
          · exact HA.out j (by omega)
        · have t2 : (2000 : Int) < (m : Int) + (n2 : Int) := by omega
          have t1 : wrap64 ((m : Int) + (n2 : Int)) = (m : Int) + (n2 : Int) := IntWalk.wrap64_in _ ⟨by omega, by omega⟩
          go_wp2
          go_ret
          exact ⟨true, rfl, fun h => (by cases h), HPR.out.old⟩
      · have t0 : (2000 : Int) < (n2 : Int) := by omega
        go_wp2
        go_ret
        exact ⟨true, rfl, fun h => (by cases h), HPR.out.old⟩
    · have b1 : ¬ (i : Int) < (L : Int) := by omega
      have HIL : Hid (L ≤ i) := by show L ≤ i; omega
      clear hp ha
      go_wp2
      go_ret
      refine ⟨_, rfl, fun _ => ?_, HPR.out.old⟩
      have e := HEQ.out
      have s := HS.out
      refine ⟨by omega, by omega, by omega, by rw [e.1]; omega, fun j hj => HA.out j ?_⟩
      have := HIL.out
      omega
end Go.Proofs.YtpfidohkohldaaaGreatDoor
