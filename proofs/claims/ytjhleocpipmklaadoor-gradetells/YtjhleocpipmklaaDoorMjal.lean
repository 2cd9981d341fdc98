import Derived.OwnWalk
import Derived.Test.YtjhleocpipmklaaDoorMjag
import Derived.Test.YtjhleocpipmklaaDoorMjac
import Derived.Test.YtjhleocpipmklaaDoorMjaf
/- a pattern that is being built in a box of one's own: its lists lie in blocks behind the box, none of them the list of lines' own -/
namespace Go.Proofs.YtjhleocpipmklaaDoor
set_option linter.unusedSimpArgs false
set_option linter.unusedVariables false
open Go.ChangeShapes Go.WideShapes Go.ChangeAt Go.RowKit Go.Pin Go.Pat
/-- numbers that are read, in blocks of S -/
def FtN (S : Nat → Prop) (w : World) (v : Value) (C : List Int) : Prop :=
  ∃ a cap, v = .slice a C.length cap ∧ (C.length ≤ cap ∧ (a = none → cap = 0)) ∧ C.length ≤ 140737488355328 ∧ (C = [] ∨ ∃ b o, S b ∧ a = some ⟨b, o, none⟩ ∧ w.rangeAt b o (C.map (Value.int .i64)))
section
variable {S T : Nat → Prop} {w w' W : World} {v : Value} {C : List Int}
theorem FtN.rd (h : FtN S w v C) : RdN w v C := by
  obtain ⟨a, c, e, h1, h2, h3⟩ := h
  refine ⟨a, c, e, h1, h2, ?_⟩
  rcases h3 with h3 | ⟨b, o, _, h4, h5⟩
  · exact .inl h3
  · exact .inr ⟨b, o, h4, h5⟩
theorem FtN.mono (h : FtN S w v C) (hs : ∀ b, S b → T b) : FtN T w v C := by
  obtain ⟨a, c, e, h1, h2, h3⟩ := h
  refine ⟨a, c, e, h1, h2, ?_⟩
  rcases h3 with h3 | ⟨b, o, h0, h4, h5⟩
  · exact .inl h3
  · exact .inr ⟨b, o, hs b h0, h4, h5⟩
theorem FtN.keep (h : FtN S w v C) (hk : ∀ b, S b → w'.heap[b]? = w.heap[b]?) : FtN S w' v C := by
  obtain ⟨a, c, e, h1, h2, h3⟩ := h
  refine ⟨a, c, e, h1, h2, ?_⟩
  rcases h3 with h3 | ⟨b, o, h0, h4, h5⟩
  · exact .inl h3
  · exact .inr ⟨b, o, h0, h4, fun j x hx => by rw [World.cell?_of_block (a := ⟨b, o + j, none⟩) (hk b h0)]; exact h5 j x hx⟩
theorem FtN.one (h : FtN S w v C) : v.oneCell' = true := by
  obtain ⟨a, c, rfl, _⟩ := h
  rfl
theorem ft_nil (S : Nat → Prop) (w : World) : FtN S w (.slice none 0 0) [] := ⟨none, 0, rfl, ⟨Nat.le_refl _, fun _ => rfl⟩, by simp, .inl rfl⟩
theorem own_ft {b n : Nat} (h : w.ownsRow b 3 1 v n (C.map (Value.int .i64))) (hn : n = C.length) (hC : C.length ≤ 140737488355328) : FtN (fun k => b ≤ k ∧ k < w.heap.size) w v C := by
  subst hn
  obtain ⟨a, c, e, h1, h2, h3⟩ := own_ints h hC
  refine ⟨a, c, e, h1, h2, ?_⟩
  rcases h3 with h3 | ⟨b', o, h4, h5⟩
  · exact .inl h3
  · by_cases h0 : C = []
    · exact .inl h0
    · refine .inr ⟨b', o, ?_, h4, h5⟩
      have hb : v.ownBlock = some b' := by rw [e, h4]; rfl
      exact h.lt b' hb
end
/-- a line in the making: who, the tokens' value, the tokens -/
abbrev Lv := Int × Value × List Int
def lvc (fs : List Lv) : List Value := fs.flatMap fun g => [.int .i64 g.1, g.2.1]
def lvl (fs : List Lv) : List Ln := fs.map fun g => (g.1, g.2.2)
theorem lvc_length (l : List Lv) : (lvc l).length = l.length * 2 := by
  induction l with
  | nil => rfl
  | cons g r ih => simp [lvc] at ih ⊢; omega
theorem lvc_snoc (l : List Lv) (g : Lv) : lvc (l ++ [g]) = lvc l ++ [.int .i64 g.1, g.2.1] := by simp [lvc]
theorem lvl_snoc (l : List Lv) (g : Lv) : lvl (l ++ [g]) = lvl l ++ [(g.1, g.2.2)] := by simp [lvl]
theorem lvc_at (l : List Lv) : ∀ (j : Nat), j < l.length → (lvc l)[j * 2]? = some (.int .i64 (l.getD j (0, undef, [])).1) ∧ (lvc l)[j * 2 + 1]? = some (l.getD j (0, undef, [])).2.1 := by
  induction l with
  | nil => intro j hj; simp at hj
  | cons g r ih =>
    intro j hj
    cases j with
    | zero => simp [lvc]
    | succ j =>
      have := ih j (by simpa using hj)
      have e : lvc (g :: r) = .int .i64 g.1 :: g.2.1 :: lvc r := by simp [lvc]
      rw [e, show (j + 1) * 2 = j * 2 + 1 + 1 by omega]
      simpa using this
def Fr (gp : Nat) (vl : Value) (w : World) (b : Nat) : Prop := gp < b ∧ b < w.heap.size ∧ some b ≠ vl.ownBlock
structure PS (gp : Nat) (w0 : World) (nm : ByteArray) (v0 v1 vl : Value) (b0 b1 : List Int) (fs : List Lv) (wr : World) : Prop where
  old : Below gp w0 wr
  lt : gp < wr.heap.size
  row : wr.heap[gp]? = some (.cells #[.string nm, v0, v1, vl] 26)
  f0 : FtN (Fr gp vl wr) wr v0 b0
  f1 : FtN (Fr gp vl wr) wr v1 b1
  own : wr.ownsRow (gp + 1) 43 2 vl fs.length (lvc fs)
  ft : ∀ f ∈ fs, FtN (Fr gp vl wr) wr f.2.1 f.2.2
section
variable {gp : Nat} {w0 wr w' : World} {nm : ByteArray} {v0 v1 vl : Value} {b0 b1 : List Int} {fs : List Lv}
/-- free blocks stay free, and as they were -/
def Kp (gp : Nat) (vl : Value) (wr : World) (vn : Value) (w' : World) : Prop := ∀ b, Fr gp vl wr b → Fr gp vn w' b ∧ w'.heap[b]? = wr.heap[b]?
theorem Kp.trans {gp : Nat} {a b c : Value} {w1 w2 w3 : World} (h : Kp gp a w1 b w2) (k : Kp gp b w2 c w3) : Kp gp a w1 c w3 := fun x hx => ⟨(k x (h x hx).1).1, (k x (h x hx).1).2.trans (h x hx).2⟩
theorem FtN.kp {gp : Nat} {a b v : Value} {w1 w2 : World} {C : List Int} (h : FtN (Fr gp a w1) w1 v C) (k : Kp gp a w1 b w2) : FtN (Fr gp b w2) w2 v C := (h.keep fun x hx => (k x hx).2).mono fun x hx => (k x hx).1
/-- texts that are read, in blocks of S -/
def FtS (S : Nat → Prop) (w : World) (v : Value) (L : List ByteArray) : Prop :=
  ∃ a cap, v = .slice a L.length cap ∧ ∀ j, j < L.length → ∃ b o, S b ∧ a = some ⟨b, o, none⟩ ∧ w.cell? ⟨b, o + j, none⟩ = some (.string (L.getD j ⟨#[]⟩))
theorem FtS.kp {gp : Nat} {a b v : Value} {w1 w2 : World} {L : List ByteArray} (h : FtS (Fr gp a w1) w1 v L) (k : Kp gp a w1 b w2) : FtS (Fr gp b w2) w2 v L := by
  obtain ⟨ad, c, e, h3⟩ := h
  refine ⟨ad, c, e, fun j hj => ?_⟩
  obtain ⟨x, o, g0, g1, g2⟩ := h3 j hj
  exact ⟨x, o, (k x g0).1, g1, by rw [World.cell?_of_block (a := ⟨x, o + j, none⟩) (k x g0).2]; exact g2⟩
theorem FtS.mono {S T : Nat → Prop} {w : World} {v : Value} {L : List ByteArray} (h : FtS S w v L) (hs : ∀ b, S b → T b) : FtS T w v L := by
  obtain ⟨ad, c, e, h3⟩ := h
  refine ⟨ad, c, e, fun j hj => ?_⟩
  obtain ⟨x, o, g0, g1, g2⟩ := h3 j hj
  exact ⟨x, o, hs x g0, g1, g2⟩
theorem FtS.at {S : Nat → Prop} {w : World} {a : Option Addr} {n cap : Nat} {L : List ByteArray} (h : FtS S w (.slice a n cap) L) {j : Nat} (hj : j < n) : n = L.length ∧ ∃ b o, S b ∧ a = some ⟨b, o, none⟩ ∧ w.cell? ⟨b, o + j, none⟩ = some (.string (L.getD j ⟨#[]⟩)) := by
  obtain ⟨a', c', e, h3⟩ := h
  injection e with e1 e2 e3
  subst e1 e2 e3
  exact ⟨rfl, h3 j hj⟩
theorem own_fts {w : World} {b n : Nat} {v : Value} {L : List ByteArray} (h : w.ownsRow b 9 1 v n (L.map Value.string)) (hn : n = L.length) : FtS (fun k => b ≤ k ∧ k < w.heap.size) w v L := by
  subst hn
  obtain ⟨a, cap, e, h3⟩ := own_strs h
  refine ⟨a, cap, e, fun j hj => ?_⟩
  obtain ⟨x, o, g1, g2⟩ := h3 j hj
  have hb : v.ownBlock = some x := by rw [e, g1]; rfl
  exact ⟨x, o, h.lt x hb, g1, g2⟩
theorem PS.c0 (h : PS gp w0 nm v0 v1 vl b0 b1 fs wr) : wr.cell? ⟨gp, 0, none⟩ = some (.string nm) := by rw [cell_of_row _ _ _ _ _ _ h.row]; rfl
theorem PS.c1 (h : PS gp w0 nm v0 v1 vl b0 b1 fs wr) : wr.cell? ⟨gp, 1, none⟩ = some v0 := by rw [cell_of_row _ _ _ _ _ _ h.row]; rfl
theorem PS.c2 (h : PS gp w0 nm v0 v1 vl b0 b1 fs wr) : wr.cell? ⟨gp, 2, none⟩ = some v1 := by rw [cell_of_row _ _ _ _ _ _ h.row]; rfl
theorem PS.c3 (h : PS gp w0 nm v0 v1 vl b0 b1 fs wr) : wr.cell? ⟨gp, 3, none⟩ = some vl := by rw [cell_of_row _ _ _ _ _ _ h.row]; rfl
theorem PS.fz (h : PS gp w0 nm v0 v1 vl b0 b1 fs wr) (j : Nat) : wr.frozen? ⟨gp, j, none⟩ = false := frozen_of_row _ _ _ _ _ h.row
theorem PS.one (h : PS gp w0 nm v0 v1 vl b0 b1 fs wr) : vl.oneCell' = true := by obtain ⟨a, c, rfl⟩ := own_slice' h.own; rfl
/-- the blocks that a built pattern reads stay: then it stays -/
theorem PS.keeps (h : PS gp w0 nm v0 v1 vl b0 b1 fs wr) (hb : ∀ b, gp ≤ b → b < wr.heap.size → w'.heap[b]? = wr.heap[b]?) (hs : wr.heap.size ≤ w'.heap.size) (hold : Below gp w0 w') : PS gp w0 nm v0 v1 vl b0 b1 fs w' := by
  have hS : ∀ b, Fr gp vl wr b → Fr gp vl w' b := fun b hb => ⟨hb.1, Nat.lt_of_lt_of_le hb.2.1 hs, hb.2.2⟩
  have hk : ∀ b, Fr gp vl wr b → w'.heap[b]? = wr.heap[b]? := fun b hq => hb b (Nat.le_of_lt hq.1) hq.2.1
  refine ⟨hold, Nat.lt_of_lt_of_le h.lt hs, (hb gp (Nat.le_refl _) h.lt).trans h.row, (h.f0.keep hk).mono hS, (h.f1.keep hk).mono hS, ⟨h.own.1, ?_⟩, fun f hf => ((h.ft f hf).keep hk).mono hS⟩
  rcases h.own.2 with h0 | ⟨g, cap, cur, rfl, h1, hg, hr⟩
  · exact .inl h0
  · exact .inr ⟨g, cap, cur, rfl, h1, (hb g (by omega) (Array.getElem?_eq_some_iff.1 hg).1).trans hg, hr⟩
theorem PS.below (h : PS gp w0 nm v0 v1 vl b0 b1 fs wr) (hb : Below wr.heap.size wr w') : PS gp w0 nm v0 v1 vl b0 b1 fs w' :=
  h.keeps (fun b _ hl => hb.block b hl) hb.size (h.old.trans (hb.mono (Nat.le_of_lt h.lt)))
theorem PS.kb (h : PS gp w0 nm v0 v1 vl b0 b1 fs wr) (hb : Below wr.heap.size wr w') : Kp gp vl wr vl w' := fun b hq => ⟨⟨hq.1, Nat.lt_of_lt_of_le hq.2.1 hb.size, hq.2.2⟩, hb.block b hq.2.1⟩
theorem PS.newS (h : PS gp w0 nm v0 v1 vl b0 b1 fs wr) {v : Value} {L : List ByteArray} {q : Nat} (hq : wr.heap.size ≤ q) (hf : FtS (fun k => q ≤ k ∧ k < w'.heap.size) w' v L) : FtS (Fr gp vl w') w' v L :=
  hf.mono fun b hb => ⟨by have := h.lt; omega, hb.2, fun e => by have := (h.own.lt b e.symm).2; omega⟩
/-- new memory lies in blocks that are free -/
theorem PS.new (h : PS gp w0 nm v0 v1 vl b0 b1 fs wr) (hs : wr.heap.size ≤ w'.heap.size) {v : Value} {C : List Int} {q : Nat} (hq : wr.heap.size ≤ q) (hf : FtN (fun k => q ≤ k ∧ k < w'.heap.size) w' v C) : FtN (Fr gp vl w') w' v C :=
  hf.mono fun b hb => ⟨by have := h.lt; omega, hb.2, fun e => by have := (h.own.lt b e.symm).2; omega⟩
/-- a cell of the box is set -/
theorem ps_set (h : PS gp w0 nm v0 v1 vl b0 b1 fs wr) (j : Nat) (u : Value) : Below gp w0 (wr.setCell ⟨gp, j, none⟩ u) ∧ (wr.setCell ⟨gp, j, none⟩ u).heap.size = wr.heap.size ∧ ∀ b, b ≠ gp → (wr.setCell ⟨gp, j, none⟩ u).heap[b]? = wr.heap[b]? := by
  have hb := (But.refl (fun k => k = gp) wr).setCell (p := ⟨gp, j, none⟩) rfl u
  have ho : ∀ b, b ≠ gp → (wr.setCell ⟨gp, j, none⟩ u).heap[b]? = wr.heap[b]? := fun b hne => heap_setCell_other _ _ _ _ hne
  refine ⟨⟨hb.os.trans h.old.os, hb.tape.trans h.old.tape, hb.output.trans h.old.output, Nat.le_trans h.old.size (Nat.le_of_eq hb.size.symm), fun k hk => ?_⟩, hb.size, ho⟩
  rw [ho k (by omega)]; exact h.old.block k hk
theorem ps_box {w1 : World} {u0 u1 : Value} {d0 d1 : List Int} (h : PS gp w0 nm v0 v1 vl b0 b1 fs wr) (hold : Below gp w0 w1) (hsz : w1.heap.size = wr.heap.size) (ho : ∀ b, b ≠ gp → w1.heap[b]? = wr.heap[b]?)
    (hrow : w1.heap[gp]? = some (.cells #[.string nm, u0, u1, vl] 26)) (g0 : FtN (Fr gp vl wr) wr u0 d0) (g1 : FtN (Fr gp vl wr) wr u1 d1) : PS gp w0 nm u0 u1 vl d0 d1 fs w1 := by
  have hS : ∀ b, Fr gp vl wr b → Fr gp vl w1 b := fun b hb => ⟨hb.1, by rw [hsz]; exact hb.2.1, hb.2.2⟩
  have hk : ∀ b, Fr gp vl wr b → w1.heap[b]? = wr.heap[b]? := fun b hq => ho b (by have := hq.1; omega)
  refine ⟨hold, by rw [hsz]; exact h.lt, hrow, (g0.keep hk).mono hS, (g1.keep hk).mono hS, ⟨h.own.1, ?_⟩, fun f hf => ((h.ft f hf).keep hk).mono hS⟩
  rcases h.own.2 with h0 | ⟨g, cap, cur, e, h1, hg, hr⟩
  · exact .inl h0
  · exact .inr ⟨g, cap, cur, e, h1, (ho g (by omega)).trans hg, hr⟩
theorem PS.set1 (h : PS gp w0 nm v0 v1 vl b0 b1 fs wr) {u : Value} {C : List Int} (hf : FtN (Fr gp vl wr) wr u C) : PS gp w0 nm u v1 vl C b1 fs (wr.setCell ⟨gp, 1, none⟩ u) := by
  obtain ⟨h1, h2, h3⟩ := ps_set h 1 u
  exact ps_box h h1 h2 h3 (by rw [heap_setCell_same _ _ _ _ _ _ h.row]; rfl) hf h.f1
theorem PS.set2 (h : PS gp w0 nm v0 v1 vl b0 b1 fs wr) {u : Value} {C : List Int} (hf : FtN (Fr gp vl wr) wr u C) : PS gp w0 nm v0 u vl b0 C fs (wr.setCell ⟨gp, 2, none⟩ u) := by
  obtain ⟨h1, h2, h3⟩ := ps_set h 2 u
  exact ps_box h h1 h2 h3 (by rw [heap_setCell_same _ _ _ _ _ _ h.row]; rfl) h.f0 hf
theorem parts_line : (Tryd.prog.info? 43).map (fun i => (i.zero, i.size, i.bytes)) = some (some (.agg #[.int .i64 0, .slice none 0 0]), 2, 32) := by kernel_rfl
/-- a line is appended; the box has the elder list still -/
structure PT (gp : Nat) (w0 : World) (nm : ByteArray) (v0 v1 vl vn : Value) (b0 b1 : List Int) (fs : List Lv) (wr : World) : Prop where
  old : Below gp w0 wr
  lt : gp < wr.heap.size
  row : wr.heap[gp]? = some (.cells #[.string nm, v0, v1, vl] 26)
  f0 : FtN (Fr gp vn wr) wr v0 b0
  f1 : FtN (Fr gp vn wr) wr v1 b1
  own : wr.ownsRow (gp + 1) 43 2 vn fs.length (lvc fs)
  ft : ∀ f ∈ fs, FtN (Fr gp vn wr) wr f.2.1 f.2.2
theorem PS.app (h : PS gp w0 nm v0 v1 vl b0 b1 fs wr) (hn : fs.length ≤ 1000000) {a : Nat} {f : Int} {u : Value} {C : List Int} (hf : FtN (Fr gp vl wr) wr u C) (hc : wr.heap[a]? = some (.cells #[.int .i64 f, u] 43)) :
    ∀ ty, ∃ v' w', (Builtin.append_ #[24, 24] ty #[vl, .slice (some ⟨a, 0, none⟩) 1 1]).run Tryd.prog wr = .ok v' w' ∧ (PT gp w0 nm v0 v1 vl v' b0 b1 (fs ++ [(f, u, C)]) w' ∧ Kp gp vl wr v' w') := fun ty => by
  obtain ⟨v', w', hr, h2, h3, h4⟩ := own_app Tryd.underlying24 parts_line rfl (by decide) h.own (news := [.int .i64 f, u]) hc rfl (fun x hx => by simp at hx; rcases hx with rfl | rfl; rfl; exact hf.one) (by omega) (by omega) h.lt ty
  have hS : ∀ b, Fr gp vl wr b → Fr gp v' w' b := fun b hb => ⟨hb.1, Nat.lt_of_lt_of_le hb.2.1 h3.size, fun e => by
    rcases h4 with h4 | h4
    · rw [h4] at e; exact hb.2.2 e
    · rw [h4] at e; injection e with e; have := hb.2.1; omega⟩
  have hk : ∀ b, Fr gp vl wr b → w'.heap[b]? = wr.heap[b]? := fun b hb => h3.block b hb.2.1 hb.2.2
  have hgp : some gp ≠ vl.ownBlock := fun e => by have := (h.own.lt gp e.symm).1; omega
  refine ⟨v', w', hr, ⟨?_, Nat.lt_of_lt_of_le h.lt h3.size, (h3.block gp h.lt hgp).trans h.row, (h.f0.keep hk).mono hS, (h.f1.keep hk).mono hS, ?_, fun g hg => ?_⟩, fun b hb => ⟨hS b hb, hk b hb⟩⟩
  · exact h.old.grown h3 (Nat.le_of_lt h.lt) (fun k hk => by have := (h.own.lt k hk).1; omega)
  · rw [lvc_snoc, List.length_append]; exact h2
  · rcases List.mem_append.1 hg with hg | hg
    · exact ((h.ft g hg).keep hk).mono hS
    · obtain rfl : g = (f, u, C) := by simpa using hg
      exact (hf.keep hk).mono hS
theorem PT.c3 {vn : Value} (h : PT gp w0 nm v0 v1 vl vn b0 b1 fs wr) : wr.cell? ⟨gp, 3, none⟩ = some vl := by rw [cell_of_row _ _ _ _ _ _ h.row]; rfl
theorem PT.fz {vn : Value} (h : PT gp w0 nm v0 v1 vl vn b0 b1 fs wr) (j : Nat) : wr.frozen? ⟨gp, j, none⟩ = false := frozen_of_row _ _ _ _ _ h.row
/-- the box takes the new list -/
theorem PT.set {vn : Value} (h : PT gp w0 nm v0 v1 vl vn b0 b1 fs wr) : PS gp w0 nm v0 v1 vn b0 b1 fs (wr.setCell ⟨gp, 3, none⟩ vn) := by
  have hb := (But.refl (fun k => k = gp) wr).setCell (p := ⟨gp, 3, none⟩) rfl vn
  have ho : ∀ b, b ≠ gp → (wr.setCell ⟨gp, 3, none⟩ vn).heap[b]? = wr.heap[b]? := fun b hne => heap_setCell_other _ _ _ _ hne
  have hS : ∀ b, Fr gp vn wr b → Fr gp vn (wr.setCell ⟨gp, 3, none⟩ vn) b := fun b hq => ⟨hq.1, by rw [hb.size]; exact hq.2.1, hq.2.2⟩
  have hk : ∀ b, Fr gp vn wr b → (wr.setCell ⟨gp, 3, none⟩ vn).heap[b]? = wr.heap[b]? := fun b hq => ho b (by have := hq.1; omega)
  refine ⟨⟨hb.os.trans h.old.os, hb.tape.trans h.old.tape, hb.output.trans h.old.output, Nat.le_trans h.old.size (Nat.le_of_eq hb.size.symm), fun k hk => ?_⟩, by rw [hb.size]; exact h.lt, by rw [heap_setCell_same _ _ _ _ _ _ h.row]; rfl, (h.f0.keep hk).mono hS, (h.f1.keep hk).mono hS, ⟨h.own.1, ?_⟩, fun f hf => ((h.ft f hf).keep hk).mono hS⟩
  · rw [ho k (by omega)]; exact h.old.block k hk
  · rcases h.own.2 with h0 | ⟨g, cap, cur, e, h1, hg, hr⟩
    · exact .inl h0
    · exact .inr ⟨g, cap, cur, e, h1, (ho g (by omega)).trans hg, hr⟩
theorem PT.kp {vn : Value} (h : PT gp w0 nm v0 v1 vl vn b0 b1 fs wr) : Kp gp vn wr vn (wr.setCell ⟨gp, 3, none⟩ vn) := fun b hq => by
  have hb := (But.refl (fun k => k = gp) wr).setCell (p := ⟨gp, 3, none⟩) rfl vn
  exact ⟨⟨hq.1, by rw [hb.size]; exact hq.2.1, hq.2.2⟩, heap_setCell_other _ _ _ _ (by have := hq.1; show b ≠ gp; omega)⟩
/-- it is the pattern that it says -/
theorem PS.rd (h : PS gp w0 nm v0 v1 vl b0 b1 fs wr) (hn : fs.length ≤ 140737488355328) : RdP wr (.agg #[.string nm, v0, v1, vl]) ⟨nm, b0, b1, lvl fs⟩ := by
  refine ⟨v0, v1, vl, rfl, h.f0.rd, h.f1.rd, ?_⟩
  have hl : (lvl fs).length = fs.length := by simp [lvl]
  rcases h.own.2 with ⟨e, e2⟩ | ⟨g, cap', cur, e, hb, hg, h1, h2, h3, h4⟩
  · subst e
    exact ⟨none, 0, by rw [hl, e2], by rw [hl, e2]; exact Nat.le_refl _, by rw [hl]; exact hn, fun j hj => by rw [hl, e2] at hj; omega⟩
  · subst e
    refine ⟨some ⟨g, 0, none⟩, cap', by rw [hl], by rw [hl]; exact h1, by rw [hl]; exact hn, fun j hj => ?_⟩
    rw [hl] at hj
    obtain ⟨a1, a2⟩ := lvc_at fs j hj
    obtain ⟨g', e1, _, k1⟩ := (own_cell h.own).2 _ _ a1
    obtain ⟨g'', e2, _, k2⟩ := (own_cell h.own).2 _ _ a2
    injection e1 with e1
    injection e1 with e1
    injection e2 with e2
    injection e2 with e2
    subst e1 e2
    have hgd : (lvl fs).getD j (0, []) = ((fs.getD j (0, undef, [])).1, (fs.getD j (0, undef, [])).2.2) := by simp [lvl, List.getD, hj]
    have hm : fs.getD j (0, undef, []) ∈ fs := by simp [List.getD, hj]
    rw [hgd]
    exact ⟨g, 0, _, rfl, by rw [Nat.zero_add]; exact k1, by rw [Nat.zero_add]; exact k2, (h.ft _ hm).rd⟩
/-- a new box with a name alone -/
theorem ps_start (W : World) (nm : ByteArray) : PS W.heap.size W nm (.slice none 0 0) (.slice none 0 0) (.slice none 0 0) [] [] [] (W.alloc (.cells #[.string nm, .slice none 0 0, .slice none 0 0, .slice none 0 0] 26)) :=
  ⟨(Below.refl _ _).alloc (Nat.le_refl _) _, by simp [size_alloc], heap_alloc_new _ _, ft_nil _ _, ft_nil _ _, own_nil0 _ _ _ _, fun f hf => by simp at hf⟩
end
end Go.Proofs.YtjhleocpipmklaaDoor
/- a list of patterns of one's own that grows -/
namespace Go.Proofs.YtjhleocpipmklaaDoor
set_option linter.unusedSimpArgs false
set_option linter.unusedVariables false
open Go.ChangeShapes Go.WideShapes Go.ChangeAt Go.RowKit Go.Pin Go.Pat
def FtL (S : Nat → Prop) (w : World) (v : Value) (L : List Ln) : Prop :=
  ∃ a cap, v = .slice a L.length cap ∧ L.length ≤ cap ∧ L.length ≤ 140737488355328 ∧ ∀ j, j < L.length → ∃ b o u, S b ∧ a = some ⟨b, o, none⟩ ∧ w.cell? ⟨b, o + j * 2, none⟩ = some (.int .i64 (L.getD j (0, [])).1) ∧ w.cell? ⟨b, o + j * 2 + 1, none⟩ = some u ∧ FtN S w u (L.getD j (0, [])).2
def FtP (S : Nat → Prop) (w : World) (v0 v1 vl : Value) (p : Pt) : Prop := FtN S w v0 p.b0 ∧ FtN S w v1 p.b1 ∧ FtL S w vl p.ln
section
variable {S T : Nat → Prop} {w w' W : World} {v v0 v1 vl : Value} {L : List Ln} {p : Pt}
theorem FtL.rd (h : FtL S w v L) : RdL w v L := by
  obtain ⟨a, c, e, h1, h2, h3⟩ := h
  refine ⟨a, c, e, h1, h2, fun j hj => ?_⟩
  obtain ⟨b, o, u, _, g1, g2, g3, g4⟩ := h3 j hj
  exact ⟨b, o, u, g1, g2, g3, g4.rd⟩
theorem FtL.mono (h : FtL S w v L) (hs : ∀ b, S b → T b) : FtL T w v L := by
  obtain ⟨a, c, e, h1, h2, h3⟩ := h
  refine ⟨a, c, e, h1, h2, fun j hj => ?_⟩
  obtain ⟨b, o, u, g0, g1, g2, g3, g4⟩ := h3 j hj
  exact ⟨b, o, u, hs b g0, g1, g2, g3, g4.mono hs⟩
theorem FtL.keep (h : FtL S w v L) (hk : ∀ b, S b → w'.heap[b]? = w.heap[b]?) : FtL S w' v L := by
  obtain ⟨a, c, e, h1, h2, h3⟩ := h
  refine ⟨a, c, e, h1, h2, fun j hj => ?_⟩
  obtain ⟨b, o, u, g0, g1, g2, g3, g4⟩ := h3 j hj
  exact ⟨b, o, u, g0, g1, by rw [World.cell?_of_block (a := ⟨b, o + j * 2, none⟩) (hk b g0)]; exact g2, by rw [World.cell?_of_block (a := ⟨b, o + j * 2 + 1, none⟩) (hk b g0)]; exact g3, g4.keep hk⟩
theorem FtP.mono (h : FtP S w v0 v1 vl p) (hs : ∀ b, S b → T b) : FtP T w v0 v1 vl p := ⟨h.1.mono hs, h.2.1.mono hs, h.2.2.mono hs⟩
theorem FtP.keep (h : FtP S w v0 v1 vl p) (hk : ∀ b, S b → w'.heap[b]? = w.heap[b]?) : FtP S w' v0 v1 vl p := ⟨h.1.keep hk, h.2.1.keep hk, h.2.2.keep hk⟩
theorem FtP.rd (h : FtP S w v0 v1 vl p) : RdP w (.agg #[.string p.nm, v0, v1, vl]) p := ⟨v0, v1, vl, rfl, h.1.rd, h.2.1.rd, h.2.2.rd⟩
theorem FtL.one (h : FtL S w v L) : v.oneCell' = true := by
  obtain ⟨a, c, rfl, _⟩ := h
  rfl
end
/-- a built pattern lies behind its box -/
theorem PS.ftp {gp : Nat} {w0 wr : World} {nm : ByteArray} {v0 v1 vl : Value} {b0 b1 : List Int} {fs : List Lv} (h : PS gp w0 nm v0 v1 vl b0 b1 fs wr) (hn : fs.length ≤ 140737488355328) : FtP (fun b => gp < b ∧ b < wr.heap.size) wr v0 v1 vl ⟨nm, b0, b1, lvl fs⟩ := by
  have hs : ∀ b, Fr gp vl wr b → (gp < b ∧ b < wr.heap.size) := fun b hb => ⟨hb.1, hb.2.1⟩
  refine ⟨h.f0.mono hs, h.f1.mono hs, ?_⟩
  have hl : (lvl fs).length = fs.length := by simp [lvl]
  rcases h.own.2 with ⟨e, e2⟩ | ⟨g, cap', cur, e, hb, hg, h1, h2, h3, h4⟩
  · subst e
    exact ⟨none, 0, by rw [hl, e2], by rw [hl, e2]; exact Nat.le_refl _, by rw [hl]; exact hn, fun j hj => by rw [hl, e2] at hj; omega⟩
  · subst e
    refine ⟨some ⟨g, 0, none⟩, cap', by rw [hl], by rw [hl]; exact h1, by rw [hl]; exact hn, fun j hj => ?_⟩
    rw [hl] at hj
    obtain ⟨a1, a2⟩ := lvc_at fs j hj
    obtain ⟨g', e1, _, k1⟩ := (own_cell h.own).2 _ _ a1
    obtain ⟨g'', e2, _, k2⟩ := (own_cell h.own).2 _ _ a2
    injection e1 with e1
    injection e1 with e1
    injection e2 with e2
    injection e2 with e2
    subst e1 e2
    have hgd : (lvl fs).getD j (0, []) = ((fs.getD j (0, undef, [])).1, (fs.getD j (0, undef, [])).2.2) := by simp [lvl, List.getD, hj]
    have hm : fs.getD j (0, undef, []) ∈ fs := by simp [List.getD, hj]
    rw [hgd]
    exact ⟨g, 0, _, ⟨by omega, (Array.getElem?_eq_some_iff.1 hg).1⟩, rfl, by rw [Nat.zero_add]; exact k1, by rw [Nat.zero_add]; exact k2, (h.ft _ hm).mono hs⟩
/-- a pattern in a list: its values, and what it is -/
structure Pv where
  v0 : Value
  v1 : Value
  vl : Value
  p : Pt
def pvc (ps : List Pv) : List Value := ps.flatMap fun x => [.string x.p.nm, x.v0, x.v1, x.vl]
theorem pvc_length (l : List Pv) : (pvc l).length = l.length * 4 := by
  induction l with
  | nil => rfl
  | cons g r ih => simp [pvc] at ih ⊢; omega
theorem pvc_snoc (l : List Pv) (x : Pv) : pvc (l ++ [x]) = pvc l ++ [.string x.p.nm, x.v0, x.v1, x.vl] := by simp [pvc]
def zPv : Pv := ⟨undef, undef, undef, ⟨⟨#[]⟩, [], [], []⟩⟩
theorem pvc_at (l : List Pv) : ∀ (j : Nat), j < l.length → (pvc l)[j * 4]? = some (.string (l.getD j zPv).p.nm) ∧ (pvc l)[j * 4 + 1]? = some (l.getD j zPv).v0 ∧ (pvc l)[j * 4 + 2]? = some (l.getD j zPv).v1 ∧ (pvc l)[j * 4 + 3]? = some (l.getD j zPv).vl := by
  induction l with
  | nil => intro j hj; simp at hj
  | cons g r ih =>
    intro j hj
    cases j with
    | zero => simp [pvc]
    | succ j =>
      have := ih j (by simpa using hj)
      have e : pvc (g :: r) = .string g.p.nm :: g.v0 :: g.v1 :: g.vl :: pvc r := by simp [pvc]
      rw [e, show (j + 1) * 4 = j * 4 + 1 + 1 + 1 + 1 by omega]
      simpa using this
def So (q : Nat) (vo : Value) (w : World) (b : Nat) : Prop := b < w.heap.size ∧ some b ≠ vo.ownBlock ∧ q ≤ b
structure QS (q : Nat) (W : World) (vo : Value) (ps : List Pv) (wr : World) : Prop where
  old : Below q W wr
  ge : q ≤ wr.heap.size
  own : wr.ownsRow q 26 4 vo ps.length (pvc ps)
  ft : ∀ x ∈ ps, FtP (So q vo wr) wr x.v0 x.v1 x.vl x.p
section
variable {q : Nat} {W wr w' : World} {vo : Value} {ps : List Pv}
theorem QS.below (h : QS q W vo ps wr) (hb : Below wr.heap.size wr w') : QS q W vo ps w' :=
  ⟨h.old.trans (hb.mono h.ge), Nat.le_trans h.ge hb.size, owns_below hb h.own, fun x hx => ((h.ft x hx).keep (fun b hq => hb.block b hq.1)).mono (fun b hq => ⟨Nat.lt_of_lt_of_le hq.1 hb.size, hq.2⟩)⟩
theorem parts_pat : (Tryd.prog.info? 26).map (fun i => (i.zero, i.size, i.bytes)) = some (some (.agg #[.string ⟨#[]⟩, .slice none 0 0, .slice none 0 0, .slice none 0 0]), 4, 88) := by kernel_rfl
theorem qs_start (W : World) : QS W.heap.size W (.slice none 0 0) [] W := ⟨Below.refl _ _, Nat.le_refl _, own_nil0 _ _ _ _, fun x hx => by simp at hx⟩
/-- new memory behind the list lies in free blocks -/
theorem QS.new (h : QS q W vo ps wr) {w1 : World} {g : Nat} (hg : wr.heap.size ≤ g) {v0 v1 vl : Value} {p : Pt} (hf : FtP (fun b => g < b ∧ b < w1.heap.size) w1 v0 v1 vl p) : FtP (So q vo w1) w1 v0 v1 vl p :=
  hf.mono fun b hb => ⟨hb.2, fun e => by have := (h.own.lt b e.symm).2; omega, by have := h.ge; omega⟩
end
/-- patterns that are read, in blocks of S -/
def FtQ (S : Nat → Prop) (w : World) (v : Value) (Ps : List Pt) : Prop :=
  ∃ a cap, v = .slice a Ps.length cap ∧ ∀ j, j < Ps.length → ∃ b o v0 v1 vl, S b ∧ a = some ⟨b, o, none⟩ ∧ w.cell? ⟨b, o + j * 4, none⟩ = some (.string (Ps.getD j ⟨⟨#[]⟩, [], [], []⟩).nm) ∧ w.cell? ⟨b, o + j * 4 + 1, none⟩ = some v0 ∧ w.cell? ⟨b, o + j * 4 + 2, none⟩ = some v1 ∧ w.cell? ⟨b, o + j * 4 + 3, none⟩ = some vl ∧ FtP S w v0 v1 vl (Ps.getD j ⟨⟨#[]⟩, [], [], []⟩)
theorem FtQ.keep {S : Nat → Prop} {w W : World} {v : Value} {Ps : List Pt} (h : FtQ S w v Ps) (hk : ∀ b, S b → W.heap[b]? = w.heap[b]?) : FtQ S W v Ps := by
  obtain ⟨a, c, e, h3⟩ := h
  refine ⟨a, c, e, fun j hj => ?_⟩
  obtain ⟨b, o, v0, v1, vl, g0, g1, g2, g3, g4, g5, g6⟩ := h3 j hj
  have hc : ∀ k u, w.cell? ⟨b, k, none⟩ = some u → W.cell? ⟨b, k, none⟩ = some u := fun k u hu => by rw [World.cell?_of_block (a := ⟨b, k, none⟩) (hk b g0)]; exact hu
  exact ⟨b, o, v0, v1, vl, g0, g1, hc _ _ g2, hc _ _ g3, hc _ _ g4, hc _ _ g5, g6.keep hk⟩
theorem FtQ.mono {S T : Nat → Prop} {w : World} {v : Value} {Ps : List Pt} (h : FtQ S w v Ps) (hs : ∀ b, S b → T b) : FtQ T w v Ps := by
  obtain ⟨a, c, e, h3⟩ := h
  refine ⟨a, c, e, fun j hj => ?_⟩
  obtain ⟨b, o, v0, v1, vl, g0, g1, g2, g3, g4, g5, g6⟩ := h3 j hj
  exact ⟨b, o, v0, v1, vl, hs b g0, g1, g2, g3, g4, g5, g6.mono hs⟩
/-- patterns that lie behind a place -/
def RdQ (q : Nat) (w : World) (v : Value) (Ps : List Pt) : Prop := FtQ (fun b => q ≤ b ∧ b < w.heap.size) w v Ps
theorem RdQ.below {q : Nat} {w W : World} {v : Value} {Ps : List Pt} (h : RdQ q w v Ps) (hb : Below w.heap.size w W) : RdQ q W v Ps :=
  (FtQ.keep h (fun b hq => hb.block b hq.2)).mono fun b hq => ⟨hq.1, Nat.lt_of_lt_of_le hq.2 hb.size⟩
theorem RdQ.mono {q p : Nat} {w : World} {v : Value} {Ps : List Pt} (h : RdQ q w v Ps) (hp : p ≤ q) : RdQ p w v Ps := FtQ.mono h fun b hq => ⟨Nat.le_trans hp hq.1, hq.2⟩
theorem QS.rd {q : Nat} {W wr : World} {vo : Value} {ps : List Pv} (h : QS q W vo ps wr) : RdQ q wr vo (ps.map Pv.p) := by
  obtain ⟨a, cap, rfl⟩ := own_slice' h.own
  refine ⟨a, cap, by rw [List.length_map], fun j hj => ?_⟩
  rw [List.length_map] at hj
  obtain ⟨a0, a1, a2, a3⟩ := pvc_at ps j hj
  obtain ⟨g, e0, hg0, k0⟩ := (own_cell h.own).2 _ _ a0
  obtain ⟨g1, e1, _, k1⟩ := (own_cell h.own).2 _ _ a1
  obtain ⟨g2, e2, _, k2⟩ := (own_cell h.own).2 _ _ a2
  obtain ⟨g3, e3, _, k3⟩ := (own_cell h.own).2 _ _ a3
  subst e0
  injection e1 with e1
  injection e1 with e1
  injection e2 with e2
  injection e2 with e2
  injection e3 with e3
  injection e3 with e3
  subst e1 e2 e3
  have hm : ps.getD j zPv ∈ ps := by simp [List.getD, hj]
  have hgd : (ps.map Pv.p).getD j ⟨⟨#[]⟩, [], [], []⟩ = (ps.getD j zPv).p := by simp [List.getD, hj]
  rw [hgd]
  exact ⟨g, 0, _, _, _, ⟨hg0, World.block_lt_of_cell? wr _ k0⟩, rfl, by rw [Nat.zero_add]; exact k0, by rw [Nat.zero_add]; exact k1, by rw [Nat.zero_add]; exact k2, by rw [Nat.zero_add]; exact k3, (h.ft _ hm).mono fun b hb => ⟨hb.2.2, hb.1⟩⟩
end Go.Proofs.YtjhleocpipmklaaDoor
/- lists of numbers of one's own, several beside each other -/
namespace Go.Proofs.YtjhleocpipmklaaDoor
set_option linter.unusedSimpArgs false
set_option linter.unusedVariables false
set_option maxRecDepth 100000
open Go.ChangeShapes Go.WideShapes Go.ChangeAt Go.RowKit Go.Pin Go.Pat
theorem own_appN {w : World} {b : Nat} {v : Value} {n : Nat} {xs : List Value} (hown : w.ownsRow b 3 1 v n xs) {u : Value} {C : List Int} (hu : RdN w u C) (hn : n + C.length ≤ 1000000) (hb : b ≤ w.heap.size) :
    ∀ ty, ∃ v' w', (Builtin.append_ #[22, 22] ty #[v, u]).run Tryd.prog w = .ok v' w' ∧ (w'.ownsRow b 3 1 v' (n + C.length) (xs ++ C.map (Value.int .i64)) ∧ w.grownBy w' v.ownBlock ∧ (v'.ownBlock = v.ownBlock ∨ v'.ownBlock = some w.heap.size)) := fun ty => by
  obtain ⟨i, i1, hz'⟩ := Option.map_eq_some_iff.1 parts_int
  simp only [Prod.mk.injEq] at hz'
  obtain ⟨i2, i3, i4⟩ := hz'
  obtain ⟨a, cap, rfl, ⟨hc1, hc0⟩, _, h3⟩ := hu
  cases a with
  | none =>
    have hcap := hc0 rfl
    obtain rfl : C = [] := List.length_eq_zero_iff.1 (by omega)
    subst hcap
    exact ⟨v, w, run_append_owned_none (P := Tryd.prog) w b 22 ty 3 i 1 Tryd.underlying22 i1 _ n xs hown, by simpa using hown, World.grownBy.refl _ _, .inl rfl⟩
  | some ad =>
    obtain ⟨v', w', hr, h2, h4, _, h5⟩ := run_append_own_at (P := Tryd.prog) w b 22 ty 3 i (.int .i64 0) 1 8 Tryd.underlying22 i1 i2 i3 i4 rfl (by decide) v n xs hown ad C.length cap (C.map (Value.int .i64)) (by rw [List.length_map, Nat.mul_one]) (fun j x hx => by
      rcases h3 with h3 | ⟨bb, o, e, hr⟩
      · subst h3; simp at hx
      · injection e with e
        subst e
        rw [Addr.add_lit]
        exact hr j x hx) (ints_oneCell _ _) (by unfold maxLen; omega) (by omega) hb
    exact ⟨v', w', hr, h2, h4, h5⟩
/-- the blocks of the lines' lists -/
def obs (fs : List Lv) : List Nat := fs.filterMap fun f => f.2.1.ownBlock
/-- lists of one's own: none shares a block with another, nor with those ahead -/
structure OS (base : Nat) (pre : List Nat) (fs : List Lv) (w : World) : Prop where
  own : ∀ f ∈ fs, w.ownsRow base 3 1 f.2.1 f.2.2.length (f.2.2.map (Value.int .i64))
  nd : (pre ++ obs fs).Nodup
theorem obs_mem {fs : List Lv} {f : Lv} {k : Nat} (hf : f ∈ fs) (hk : f.2.1.ownBlock = some k) : k ∈ obs fs := List.mem_filterMap.2 ⟨f, hf, hk⟩
theorem obs_app (fs gs : List Lv) : obs (fs ++ gs) = obs fs ++ obs gs := List.filterMap_append
theorem obs_one (f : Lv) : obs [f] = f.2.1.ownBlock.toList := by
  unfold obs
  cases h : f.2.1.ownBlock <;> simp [h]
theorem nodup_ins {A B C : List Nat} {o : Option Nat} (h : (A ++ (B ++ C)).Nodup) (hn : ∀ k, o = some k → k ∉ A ∧ k ∉ B ∧ k ∉ C) : (A ++ (B ++ (o.toList ++ C))).Nodup := by
  cases o with
  | none => simpa using h
  | some k =>
    obtain ⟨h1, h2, h3⟩ := hn k rfl
    have hp : List.Perm (A ++ (B ++ ([k] ++ C))) (k :: (A ++ (B ++ C))) := by
      have e : A ++ (B ++ ([k] ++ C)) = (A ++ B) ++ k :: C := by simp
      rw [e]
      have := List.perm_middle (a := k) (l₁ := A ++ B) (l₂ := C)
      simpa using this
    show (A ++ (B ++ ([k] ++ C))).Nodup
    rw [hp.nodup_iff, List.nodup_cons]
    exact ⟨by simp [h1, h2, h3], h⟩
section
variable {base : Nat} {pre : List Nat} {fs : List Lv} {w w' : World}
theorem OS.lt (h : OS base pre fs w) : ∀ k ∈ obs fs, base ≤ k ∧ k < w.heap.size := fun k hk => by
  obtain ⟨f, hf, e⟩ := List.mem_filterMap.1 hk
  exact (h.own f hf).lt k e
/-- blocks of these lists stay -/
theorem OS.keep (h : OS base pre fs w) (hk : ∀ k ∈ obs fs, w'.heap[k]? = w.heap[k]?) : OS base pre fs w' := by
  refine ⟨fun f hf => ⟨(h.own f hf).1, ?_⟩, h.nd⟩
  rcases (h.own f hf).2 with h0 | ⟨b, cap, cur, e, h1, hg, hr⟩
  · exact .inl h0
  · have : f.2.1.ownBlock = some b := by rw [e]; rfl
    exact .inr ⟨b, cap, cur, e, h1, (hk b (obs_mem hf this)).trans hg, hr⟩
theorem OS.below (h : OS base pre fs w) (hb : Below w.heap.size w w') : OS base pre fs w' := h.keep fun k hk => hb.block k (h.lt k hk).2
theorem OS.snoc (h : OS base pre fs w) {f : Int} {u : Value} {C : List Int} (hu : w.ownsRow base 3 1 u C.length (C.map (Value.int .i64))) (hn : ∀ k, u.ownBlock = some k → k ∉ pre ∧ k ∉ obs fs) : OS base pre (fs ++ [(f, u, C)]) w := by
  refine ⟨fun x hx => ?_, ?_⟩
  · rcases List.mem_append.1 hx with hx | hx
    · exact h.own x hx
    · obtain rfl : x = (f, u, C) := by simpa using hx
      exact hu
  · rw [obs_app, obs_one]
    have := nodup_ins (A := pre) (B := obs fs) (C := []) (o := u.ownBlock) (by simpa using h.nd) (fun k hk => ⟨(hn k hk).1, (hn k hk).2, by simp⟩)
    simpa using this
/-- a list grows: it alone -/
theorem OS.grow (h : OS base pre fs w) {row : Option Nat} (hg : w.grownBy w' row) (hr : ∀ k, row = some k → k ∉ obs fs) : OS base pre fs w' :=
  h.keep fun k hk => hg.block k (h.lt k hk).2 (fun e => hr k e.symm hk)
theorem OS.ahead (h : OS base pre fs w) {p' : List Nat} (hp : p'.Nodup) (hd : ∀ k ∈ p', k ∉ obs fs) : OS base p' fs w := by
  refine ⟨h.own, ?_⟩
  rw [List.nodup_append]
  have := (List.nodup_append.1 h.nd).2.1
  exact ⟨hp, this, fun a ha b hb e => hd a ha (e ▸ hb)⟩
end
theorem own_keep {w w' : World} {b : Nat} {e : TypeId} {k n : Nat} {v : Value} {xs : List Value} (h : w.ownsRow b e k v n xs) (hk : ∀ g, v.ownBlock = some g → w'.heap[g]? = w.heap[g]?) : w'.ownsRow b e k v n xs := by
  refine ⟨h.1, ?_⟩
  rcases h.2 with h0 | ⟨g, cap, cur, rfl, h1, hg, hr⟩
  · exact .inl h0
  · exact .inr ⟨g, cap, cur, rfl, h1, (hk g rfl).trans hg, hr⟩
theorem os_nil (base : Nat) (w : World) : OS base [] [] w := ⟨fun f hf => by simp at hf, by simp [obs]⟩
/-- the empty list that is not nil -/
theorem own_empty (w : World) (b : Nat) (hb : b ≤ w.heap.size) : (w.alloc (.cells #[] 3)).ownsRow b 3 1 (.slice (some ⟨w.heap.size, 0, none⟩) 0 0) 0 [] :=
  ⟨by simp, .inr ⟨w.heap.size, 0, #[], rfl, hb, heap_alloc_new _ _, Nat.le_refl _, by simp [maxLen], rfl, by simp⟩⟩
end Go.Proofs.YtjhleocpipmklaaDoor
/- worth rises: numbers alone -/
namespace Go.Pat
theorem dn_mono {p : Pt} {i k : Nat} {t : Int} (h : i ≤ k) (hd : dn p i t = true) : dn p k t = true := by
  unfold dn at hd ⊢
  rw [List.any_eq_true] at hd ⊢
  obtain ⟨x, hx, hf⟩ := hd
  refine ⟨x, ?_, hf⟩
  rw [show p.ln.take (i + 1) = (p.ln.take (k + 1)).take (i + 1) by rw [List.take_take]; congr 1; omega] at hx
  exact List.mem_of_mem_take hx
theorem dn_full {p : Pt} {i k : Nat} {t : Int} (hi : p.ln.length ≤ i + 1) (hk : p.ln.length ≤ k + 1) : dn p i t = dn p k t := by
  unfold dn
  rw [List.take_of_length_le hi, List.take_of_length_le hk]
theorem src_mono {p : Pt} {i k : Nat} (h : i ≤ k) (hs : sender p i = sender p k) : src p i ≤ src p k := by
  have m := fun t => @dn_mono p i k t h
  unfold src
  rw [hs]
  by_cases h1 : dn p i (stc (sender p k)) = true
  · rw [if_pos h1, if_pos (m _ h1)]; omega
  · rw [if_neg h1]
    by_cases h2 : dn p i 6 = true
    · rw [if_pos h2]
      split
      · omega
      · rw [if_pos (m _ h2)]; omega
    · rw [if_neg h2]
      split
      · omega
      · split <;> omega
theorem bst_mono {p : Pt} {f : Int} {i : Nat} : ∀ {k : Nat}, i ≤ k → bst p f i ≤ bst p f k
  | 0, h => by rw [show i = 0 by omega]; omega
  | k + 1, h => by
    by_cases e : i = k + 1
    · rw [e]; omega
    · have := @bst_mono p f i k (by omega)
      simp only [bst]
      split <;> omega
theorem dst_mono {p : Pt} {i k : Nat} (h : i ≤ k) (hs : sender p i = sender p k) : dst p i ≤ dst p k := by
  have m := fun t => @dn_mono p i k t h
  have b := @bst_mono p (sender p k) i k h
  have b0 := bst_in p (sender p k) i
  have b1 := bst_in p (sender p k) k
  unfold dst
  rw [hs]
  rcases e1 : dn p i 3 with _ | _ <;> rcases e2 : dn p i (stc (1 - sender p k)) with _ | _
  · simp only [and_self, if_true]
    repeat' split
    all_goals omega
  · rw [m _ e2]
    simp only [Bool.true_eq_false, and_false, if_false, if_true]
    split <;> omega
  · rw [m _ e1]
    simp only [Bool.true_eq_false, false_and, if_false, if_true]
    split <;> omega
  · rw [m _ e1, m _ e2]
    simp only [Bool.true_eq_false, and_self, if_false]
    omega
theorem dst_in (p : Pt) (k : Nat) : 0 ≤ dst p k ∧ dst p k ≤ 5 := by
  have := bst_in p (sender p k) k
  unfold dst
  repeat' split
  all_goals omega
theorem sender_two {p : Pt} {k : Nat} (h : p.ln.length ≤ k) : sender p (k + 2) = sender p k := by
  unfold sender
  rw [if_neg (show ¬ k + 2 < p.ln.length by omega), if_neg (show ¬ k < p.ln.length by omega), show (k + 2 - p.ln.length) % 2 = (k - p.ln.length) % 2 by omega]
theorem src_two {p : Pt} {k : Nat} (h : p.ln.length ≤ k) : src p (k + 2) = src p k := by
  unfold src
  rw [sender_two h, dn_full (p := p) (i := k + 2) (k := k) (by omega) (by omega), dn_full (p := p) (i := k + 2) (k := k) (t := 6) (by omega) (by omega)]
/-- behind the handshake a message is worth what any one of its side is -/
theorem src_same {p : Pt} {i k : Nat} (hi : p.ln.length ≤ i + 1) (hk : p.ln.length ≤ k + 1) (hs : sender p i = sender p k) : src p i = src p k := by
  unfold src
  rw [hs, dn_full hi hk, dn_full (t := 6) hi hk]
theorem bst_ge {p : Pt} {f : Int} {i : Nat} : ∀ {k : Nat}, i < k → sender p i ≠ f → src p i ≤ bst p f k
  | k + 1, h, hs => by
    by_cases e : i = k
    · subst e
      simp only [bst]
      split
      · omega
      · rename_i hn
        simp only [hs, ne_eq, not_false_eq_true, true_and, gt_iff_lt, Int.not_lt] at hn
        exact hn
    · have := @bst_ge p f i k (by omega) hs
      simp only [bst]
      split <;> omega
theorem bst_step {p : Pt} {f : Int} {k : Nat} (h : sender p k = f ∨ src p k ≤ bst p f k) : bst p f (k + 1) = bst p f k := by
  simp only [bst]
  rw [if_neg]
  rintro ⟨h1, h2⟩
  rcases h with h | h
  · exact h1 h
  · omega
theorem bst_two {p : Pt} {k : Nat} (h : p.ln.length ≤ k) : bst p (sender p k) (k + 2) = bst p (sender p k) k := by
  have h1 : bst p (sender p k) (k + 1) = bst p (sender p k) k := bst_step (.inl rfl)
  rw [← h1]
  apply bst_step
  by_cases hs : sender p (k + 1) = sender p k
  · exact .inl hs
  · right
    have hn : p.ln.length ≠ 0 := fun e => hs (by
      unfold sender
      rw [if_neg (show ¬ k + 1 < p.ln.length by omega), if_neg (show ¬ k < p.ln.length by omega), if_pos e, if_pos e])
    have ho : oneWay p = false := by
      rcases e : oneWay p with _ | _
      · rfl
      · exfalso
        apply hs
        unfold sender
        rw [if_neg (show ¬ k + 1 < p.ln.length by omega), if_neg (show ¬ k < p.ln.length by omega), if_neg hn, if_neg hn, if_pos e, if_pos e]
    have hse : sender p (k - 1) = sender p (k + 1) := by
      by_cases hk : p.ln.length ≤ k - 1
      · rw [show k + 1 = k - 1 + 2 by omega, sender_two hk]
      · have hk' : k = p.ln.length := by omega
        unfold sender lst
        rw [if_pos (show k - 1 < p.ln.length by omega), if_neg (show ¬ k + 1 < p.ln.length by omega), if_neg hn, ho, show (k + 1 - p.ln.length) % 2 = 1 by omega, hk']
        simp
    have := @bst_ge p (sender p k) (k - 1) (k + 1) (by omega) (by rw [hse]; exact hs)
    rw [src_same (i := k + 1) (k := k - 1) (by omega) (by omega) hse.symm]
    exact this
theorem dst_two {p : Pt} {k : Nat} (h : p.ln.length ≤ k) : dst p (k + 2) = dst p k := by
  unfold dst
  rw [sender_two h, bst_two h, dn_full (p := p) (i := k + 2) (k := k) (t := 3) (by omega) (by omega), dn_full (p := p) (i := k + 2) (k := k) (by omega) (by omega)]
end Go.Pat
