import Derived.Test.YtpfidohkohldaaaGreatDoorMqab
import Derived.Test.YtpfidohkohldaaaGreatDoorMqan
/- a pattern that is being built in a box of one's own: its lists lie in blocks behind the box, none of them the list of lines' own -/
namespace Go.Proofs.YtpfidohkohldaaaGreatDoor
set_option linter.unusedSimpArgs false
set_option linter.unusedVariables false
open Go.ChangeShapes Go.WideShapes Go.ChangeAt Go.RowKit Go.Pin Go.Pat
/-- numbers that are read, in blocks of S -/
def FtN (S : Nat → Prop) (w : World) (v : Value) (C : List Int) : Prop :=
  ∃ a cap, v = .slice a C.length cap ∧ (C.length ≤ cap ∧ (a = none → cap = 0)) ∧ C.length ≤ 140737488355328 ∧ (C = [] ∨ ∃ b o, S b ∧ a = some ⟨b, o, none⟩ ∧ w.rangeAt b o (C.map (Value.int .i64)))
section
variable {S T : Nat → Prop} {w w' W : World} {v : Value} {C : List Int}
theorem FtN.rd (h : FtN S w v C) : RdN w v C := by
  obtain ⟨a, c, e, h1, h2, h3⟩ := h
  refine ⟨a, c, e, h1, h2, ?_⟩
  rcases h3 with h3 | ⟨b, o, _, h4, h5⟩
  · exact .inl h3
  · exact .inr ⟨b, o, h4, h5⟩
theorem FtN.mono (h : FtN S w v C) (hs : ∀ b, S b → T b) : FtN T w v C := by
  obtain ⟨a, c, e, h1, h2, h3⟩ := h
  refine ⟨a, c, e, h1, h2, ?_⟩
  rcases h3 with h3 | ⟨b, o, h0, h4, h5⟩
  · exact .inl h3
  · exact .inr ⟨b, o, hs b h0, h4, h5⟩
theorem FtN.keep (h : FtN S w v C) (hk : ∀ b, S b → w'.heap[b]? = w.heap[b]?) : FtN S w' v C := by
  obtain ⟨a, c, e, h1, h2, h3⟩ := h
  refine ⟨a, c, e, h1, h2, ?_⟩
  rcases h3 with h3 | ⟨b, o, h0, h4, h5⟩
  · exact .inl h3
  · exact .inr ⟨b, o, h0, h4, fun j x hx => by rw [World.cell?_of_block (a := ⟨b, o + j, none⟩) (hk b h0)]; exact h5 j x hx⟩
theorem FtN.one (h : FtN S w v C) : v.oneCell' = true := by
  obtain ⟨a, c, rfl, _⟩ := h
  rfl
theorem ft_nil (S : Nat → Prop) (w : World) : FtN S w (.slice none 0 0) [] := ⟨none, 0, rfl, ⟨Nat.le_refl _, fun _ => rfl⟩, by simp, .inl rfl⟩
theorem own_ft {b n : Nat} (h : w.ownsRow b 3 1 v n (C.map (Value.int .i64))) (hn : n = C.length) (hC : C.length ≤ 140737488355328) : FtN (fun k => b ≤ k ∧ k < w.heap.size) w v C := by
  subst hn
  obtain ⟨a, c, e, h1, h2, h3⟩ := own_ints h hC
  refine ⟨a, c, e, h1, h2, ?_⟩
  rcases h3 with h3 | ⟨b', o, h4, h5⟩
  · exact .inl h3
  · by_cases h0 : C = []
    · exact .inl h0
    · refine .inr ⟨b', o, ?_, h4, h5⟩
      have hb : v.ownBlock = some b' := by rw [e, h4]; rfl
      exact h.lt b' hb
end
/-- a line in the making: who, the tokens' value, the tokens -/
abbrev Lv := Int × Value × List Int
def lvc (fs : List Lv) : List Value := fs.flatMap fun g => [.int .i64 g.1, g.2.1]
def lvl (fs : List Lv) : List Ln := fs.map fun g => (g.1, g.2.2)
theorem lvc_length (l : List Lv) : (lvc l).length = l.length * 2 := by
  induction l with
  | nil => rfl
  | cons g r ih => simp [lvc] at ih ⊢; omega
theorem lvc_snoc (l : List Lv) (g : Lv) : lvc (l ++ [g]) = lvc l ++ [.int .i64 g.1, g.2.1] := by simp [lvc]
theorem lvl_snoc (l : List Lv) (g : Lv) : lvl (l ++ [g]) = lvl l ++ [(g.1, g.2.2)] := by simp [lvl]
theorem lvc_at (l : List Lv) : ∀ (j : Nat), j < l.length → (lvc l)[j * 2]? = some (.int .i64 (l.getD j (0, undef, [])).1) ∧ (lvc l)[j * 2 + 1]? = some (l.getD j (0, undef, [])).2.1 := by
  induction l with
  | nil => intro j hj; simp at hj
  | cons g r ih =>
    intro j hj
    cases j with
    | zero => simp [lvc]
    | succ j =>
      have := ih j (by simpa using hj)
      have e : lvc (g :: r) = .int .i64 g.1 :: g.2.1 :: lvc r := by simp [lvc]
      rw [e, show (j + 1) * 2 = j * 2 + 1 + 1 by omega]
      simpa using this
def Fr (gp : Nat) (vl : Value) (w : World) (b : Nat) : Prop := gp < b ∧ b < w.heap.size ∧ some b ≠ vl.ownBlock
structure PS (gp : Nat) (w0 : World) (nm : ByteArray) (v0 v1 vl : Value) (b0 b1 : List Int) (fs : List Lv) (wr : World) : Prop where
  old : Below gp w0 wr
  lt : gp < wr.heap.size
  row : wr.heap[gp]? = some (.cells #[.string nm, v0, v1, vl] 26)
  f0 : FtN (Fr gp vl wr) wr v0 b0
  f1 : FtN (Fr gp vl wr) wr v1 b1
  own : wr.ownsRow (gp + 1) 43 2 vl fs.length (lvc fs)
  ft : ∀ f ∈ fs, FtN (Fr gp vl wr) wr f.2.1 f.2.2
section
variable {gp : Nat} {w0 wr w' : World} {nm : ByteArray} {v0 v1 vl : Value} {b0 b1 : List Int} {fs : List Lv}
/-- free blocks stay free, and as they were -/
def Kp (gp : Nat) (vl : Value) (wr : World) (vn : Value) (w' : World) : Prop := ∀ b, Fr gp vl wr b → Fr gp vn w' b ∧ w'.heap[b]? = wr.heap[b]?
theorem Kp.trans {gp : Nat} {a b c : Value} {w1 w2 w3 : World} (h : Kp gp a w1 b w2) (k : Kp gp b w2 c w3) : Kp gp a w1 c w3 := fun x hx => ⟨(k x (h x hx).1).1, (k x (h x hx).1).2.trans (h x hx).2⟩
theorem FtN.kp {gp : Nat} {a b v : Value} {w1 w2 : World} {C : List Int} (h : FtN (Fr gp a w1) w1 v C) (k : Kp gp a w1 b w2) : FtN (Fr gp b w2) w2 v C := (h.keep fun x hx => (k x hx).2).mono fun x hx => (k x hx).1
/-- texts that are read, in blocks of S -/
def FtS (S : Nat → Prop) (w : World) (v : Value) (L : List ByteArray) : Prop :=
  ∃ a cap, v = .slice a L.length cap ∧ ∀ j, j < L.length → ∃ b o, S b ∧ a = some ⟨b, o, none⟩ ∧ w.cell? ⟨b, o + j, none⟩ = some (.string (L.getD j ⟨#[]⟩))
theorem FtS.kp {gp : Nat} {a b v : Value} {w1 w2 : World} {L : List ByteArray} (h : FtS (Fr gp a w1) w1 v L) (k : Kp gp a w1 b w2) : FtS (Fr gp b w2) w2 v L := by
  obtain ⟨ad, c, e, h3⟩ := h
  refine ⟨ad, c, e, fun j hj => ?_⟩
  obtain ⟨x, o, g0, g1, g2⟩ := h3 j hj
  exact ⟨x, o, (k x g0).1, g1, by rw [World.cell?_of_block (a := ⟨x, o + j, none⟩) (k x g0).2]; exact g2⟩
theorem FtS.mono {S T : Nat → Prop} {w : World} {v : Value} {L : List ByteArray} (h : FtS S w v L) (hs : ∀ b, S b → T b) : FtS T w v L := by
  obtain ⟨ad, c, e, h3⟩ := h
  refine ⟨ad, c, e, fun j hj => ?_⟩
  obtain ⟨x, o, g0, g1, g2⟩ := h3 j hj
  exact ⟨x, o, hs x g0, g1, g2⟩
theorem FtS.at {S : Nat → Prop} {w : World} {a : Option Addr} {n cap : Nat} {L : List ByteArray} (h : FtS S w (.slice a n cap) L) {j : Nat} (hj : j < n) : n = L.length ∧ ∃ b o, S b ∧ a = some ⟨b, o, none⟩ ∧ w.cell? ⟨b, o + j, none⟩ = some (.string (L.getD j ⟨#[]⟩)) := by
  obtain ⟨a', c', e, h3⟩ := h
  injection e with e1 e2 e3
  subst e1 e2 e3
  exact ⟨rfl, h3 j hj⟩
theorem own_fts {w : World} {b n : Nat} {v : Value} {L : List ByteArray} (h : w.ownsRow b 9 1 v n (L.map Value.string)) (hn : n = L.length) : FtS (fun k => b ≤ k ∧ k < w.heap.size) w v L := by
  subst hn
  obtain ⟨a, cap, e, h3⟩ := own_strs h
  refine ⟨a, cap, e, fun j hj => ?_⟩
  obtain ⟨x, o, g1, g2⟩ := h3 j hj
  have hb : v.ownBlock = some x := by rw [e, g1]; rfl
  exact ⟨x, o, h.lt x hb, g1, g2⟩
theorem PS.c0 (h : PS gp w0 nm v0 v1 vl b0 b1 fs wr) : wr.cell? ⟨gp, 0, none⟩ = some (.string nm) := by rw [cell_of_row _ _ _ _ _ _ h.row]; rfl
theorem PS.c1 (h : PS gp w0 nm v0 v1 vl b0 b1 fs wr) : wr.cell? ⟨gp, 1, none⟩ = some v0 := by rw [cell_of_row _ _ _ _ _ _ h.row]; rfl
theorem PS.c2 (h : PS gp w0 nm v0 v1 vl b0 b1 fs wr) : wr.cell? ⟨gp, 2, none⟩ = some v1 := by rw [cell_of_row _ _ _ _ _ _ h.row]; rfl
theorem PS.c3 (h : PS gp w0 nm v0 v1 vl b0 b1 fs wr) : wr.cell? ⟨gp, 3, none⟩ = some vl := by rw [cell_of_row _ _ _ _ _ _ h.row]; rfl
theorem PS.fz (h : PS gp w0 nm v0 v1 vl b0 b1 fs wr) (j : Nat) : wr.frozen? ⟨gp, j, none⟩ = false := frozen_of_row _ _ _ _ _ h.row
theorem PS.one (h : PS gp w0 nm v0 v1 vl b0 b1 fs wr) : vl.oneCell' = true := by obtain ⟨a, c, rfl⟩ := own_slice' h.own; rfl
/-- the blocks that a built pattern reads stay: then it stays -/
theorem PS.keeps (h : PS gp w0 nm v0 v1 vl b0 b1 fs wr) (hb : ∀ b, gp ≤ b → b < wr.heap.size → w'.heap[b]? = wr.heap[b]?) (hs : wr.heap.size ≤ w'.heap.size) (hold : Below gp w0 w') : PS gp w0 nm v0 v1 vl b0 b1 fs w' := by
  have hS : ∀ b, Fr gp vl wr b → Fr gp vl w' b := fun b hb => ⟨hb.1, Nat.lt_of_lt_of_le hb.2.1 hs, hb.2.2⟩
  have hk : ∀ b, Fr gp vl wr b → w'.heap[b]? = wr.heap[b]? := fun b hq => hb b (Nat.le_of_lt hq.1) hq.2.1
  refine ⟨hold, Nat.lt_of_lt_of_le h.lt hs, (hb gp (Nat.le_refl _) h.lt).trans h.row, (h.f0.keep hk).mono hS, (h.f1.keep hk).mono hS, ⟨h.own.1, ?_⟩, fun f hf => ((h.ft f hf).keep hk).mono hS⟩
  rcases h.own.2 with h0 | ⟨g, cap, cur, rfl, h1, hg, hr⟩
  · exact .inl h0
  · exact .inr ⟨g, cap, cur, rfl, h1, (hb g (by omega) (Array.getElem?_eq_some_iff.1 hg).1).trans hg, hr⟩
theorem PS.below (h : PS gp w0 nm v0 v1 vl b0 b1 fs wr) (hb : Below wr.heap.size wr w') : PS gp w0 nm v0 v1 vl b0 b1 fs w' :=
  h.keeps (fun b _ hl => hb.block b hl) hb.size (h.old.trans (hb.mono (Nat.le_of_lt h.lt)))
theorem PS.kb (h : PS gp w0 nm v0 v1 vl b0 b1 fs wr) (hb : Below wr.heap.size wr w') : Kp gp vl wr vl w' := fun b hq => ⟨⟨hq.1, Nat.lt_of_lt_of_le hq.2.1 hb.size, hq.2.2⟩, hb.block b hq.2.1⟩
theorem PS.newS (h : PS gp w0 nm v0 v1 vl b0 b1 fs wr) {v : Value} {L : List ByteArray} {q : Nat} (hq : wr.heap.size ≤ q) (hf : FtS (fun k => q ≤ k ∧ k < w'.heap.size) w' v L) : FtS (Fr gp vl w') w' v L :=
  hf.mono fun b hb => ⟨by have := h.lt; omega, hb.2, fun e => by have := (h.own.lt b e.symm).2; omega⟩
/-- new memory lies in blocks that are free -/
theorem PS.new (h : PS gp w0 nm v0 v1 vl b0 b1 fs wr) (hs : wr.heap.size ≤ w'.heap.size) {v : Value} {C : List Int} {q : Nat} (hq : wr.heap.size ≤ q) (hf : FtN (fun k => q ≤ k ∧ k < w'.heap.size) w' v C) : FtN (Fr gp vl w') w' v C :=
  hf.mono fun b hb => ⟨by have := h.lt; omega, hb.2, fun e => by have := (h.own.lt b e.symm).2; omega⟩
/-- a cell of the box is set -/
theorem ps_set (h : PS gp w0 nm v0 v1 vl b0 b1 fs wr) (j : Nat) (u : Value) : Below gp w0 (wr.setCell ⟨gp, j, none⟩ u) ∧ (wr.setCell ⟨gp, j, none⟩ u).heap.size = wr.heap.size ∧ ∀ b, b ≠ gp → (wr.setCell ⟨gp, j, none⟩ u).heap[b]? = wr.heap[b]? := by
  have hb := (But.refl (fun k => k = gp) wr).setCell (p := ⟨gp, j, none⟩) rfl u
  have ho : ∀ b, b ≠ gp → (wr.setCell ⟨gp, j, none⟩ u).heap[b]? = wr.heap[b]? := fun b hne => heap_setCell_other _ _ _ _ hne
  refine ⟨⟨hb.os.trans h.old.os, hb.tape.trans h.old.tape, hb.output.trans h.old.output, Nat.le_trans h.old.size (Nat.le_of_eq hb.size.symm), fun k hk => ?_⟩, hb.size, ho⟩
  rw [ho k (by omega)]; exact h.old.block k hk
theorem ps_box {w1 : World} {u0 u1 : Value} {d0 d1 : List Int} (h : PS gp w0 nm v0 v1 vl b0 b1 fs wr) (hold : Below gp w0 w1) (hsz : w1.heap.size = wr.heap.size) (ho : ∀ b, b ≠ gp → w1.heap[b]? = wr.heap[b]?)
    (hrow : w1.heap[gp]? = some (.cells #[.string nm, u0, u1, vl] 26)) (g0 : FtN (Fr gp vl wr) wr u0 d0) (g1 : FtN (Fr gp vl wr) wr u1 d1) : PS gp w0 nm u0 u1 vl d0 d1 fs w1 := by
  have hS : ∀ b, Fr gp vl wr b → Fr gp vl w1 b := fun b hb => ⟨hb.1, by rw [hsz]; exact hb.2.1, hb.2.2⟩
  have hk : ∀ b, Fr gp vl wr b → w1.heap[b]? = wr.heap[b]? := fun b hq => ho b (by have := hq.1; omega)
  refine ⟨hold, by rw [hsz]; exact h.lt, hrow, (g0.keep hk).mono hS, (g1.keep hk).mono hS, ⟨h.own.1, ?_⟩, fun f hf => ((h.ft f hf).keep hk).mono hS⟩
  rcases h.own.2 with h0 | ⟨g, cap, cur, e, h1, hg, hr⟩
  · exact .inl h0
  · exact .inr ⟨g, cap, cur, e, h1, (ho g (by omega)).trans hg, hr⟩
theorem PS.set1 (h : PS gp w0 nm v0 v1 vl b0 b1 fs wr) {u : Value} {C : List Int} (hf : FtN (Fr gp vl wr) wr u C) : PS gp w0 nm u v1 vl C b1 fs (wr.setCell ⟨gp, 1, none⟩ u) := by
  obtain ⟨h1, h2, h3⟩ := ps_set h 1 u
  exact ps_box h h1 h2 h3 (by rw [heap_setCell_same _ _ _ _ _ _ h.row]; rfl) hf h.f1
theorem PS.set2 (h : PS gp w0 nm v0 v1 vl b0 b1 fs wr) {u : Value} {C : List Int} (hf : FtN (Fr gp vl wr) wr u C) : PS gp w0 nm v0 u vl b0 C fs (wr.setCell ⟨gp, 2, none⟩ u) := by
  obtain ⟨h1, h2, h3⟩ := ps_set h 2 u
  exact ps_box h h1 h2 h3 (by rw [heap_setCell_same _ _ _ _ _ _ h.row]; rfl) h.f0 hf
theorem parts_line : (Tryz.prog.info? 43).map (fun i => (i.zero, i.size, i.bytes)) = some (some (.agg #[.int .i64 0, .slice none 0 0]), 2, 32) := by kernel_rfl
/-- a line is appended; the box has the elder list still -/
structure PT (gp : Nat) (w0 : World) (nm : ByteArray) (v0 v1 vl vn : Value) (b0 b1 : List Int) (fs : List Lv) (wr : World) : Prop where
  old : Below gp w0 wr
  lt : gp < wr.heap.size
  row : wr.heap[gp]? = some (.cells #[.string nm, v0, v1, vl] 26)
  f0 : FtN (Fr gp vn wr) wr v0 b0
  f1 : FtN (Fr gp vn wr) wr v1 b1
  own : wr.ownsRow (gp + 1) 43 2 vn fs.length (lvc fs)
  ft : ∀ f ∈ fs, FtN (Fr gp vn wr) wr f.2.1 f.2.2
theorem PS.app (h : PS gp w0 nm v0 v1 vl b0 b1 fs wr) (hn : fs.length ≤ 1000000) {a : Nat} {f : Int} {u : Value} {C : List Int} (hf : FtN (Fr gp vl wr) wr u C) (hc : wr.heap[a]? = some (.cells #[.int .i64 f, u] 43)) :
    ∀ ty, ∃ v' w', (Builtin.append_ #[24, 24] ty #[vl, .slice (some ⟨a, 0, none⟩) 1 1]).run Tryz.prog wr = .ok v' w' ∧ (PT gp w0 nm v0 v1 vl v' b0 b1 (fs ++ [(f, u, C)]) w' ∧ Kp gp vl wr v' w') := fun ty => by
  obtain ⟨v', w', hr, h2, h3, h4⟩ := own_app Tryz.underlying24 parts_line rfl (by decide) h.own (news := [.int .i64 f, u]) hc rfl (fun x hx => by simp at hx; rcases hx with rfl | rfl; rfl; exact hf.one) (by omega) (by omega) h.lt ty
  have hS : ∀ b, Fr gp vl wr b → Fr gp v' w' b := fun b hb => ⟨hb.1, Nat.lt_of_lt_of_le hb.2.1 h3.size, fun e => by
    rcases h4 with h4 | h4
    · rw [h4] at e; exact hb.2.2 e
    · rw [h4] at e; injection e with e; have := hb.2.1; omega⟩
  have hk : ∀ b, Fr gp vl wr b → w'.heap[b]? = wr.heap[b]? := fun b hb => h3.block b hb.2.1 hb.2.2
  have hgp : some gp ≠ vl.ownBlock := fun e => by have := (h.own.lt gp e.symm).1; omega
  refine ⟨v', w', hr, ⟨?_, Nat.lt_of_lt_of_le h.lt h3.size, (h3.block gp h.lt hgp).trans h.row, (h.f0.keep hk).mono hS, (h.f1.keep hk).mono hS, ?_, fun g hg => ?_⟩, fun b hb => ⟨hS b hb, hk b hb⟩⟩
  · exact h.old.grown h3 (Nat.le_of_lt h.lt) (fun k hk => by have := (h.own.lt k hk).1; omega)
  · rw [lvc_snoc, List.length_append]; exact h2
  · rcases List.mem_append.1 hg with hg | hg
    · exact ((h.ft g hg).keep hk).mono hS
    · obtain rfl : g = (f, u, C) := by simpa using hg
      exact (hf.keep hk).mono hS
theorem PT.c3 {vn : Value} (h : PT gp w0 nm v0 v1 vl vn b0 b1 fs wr) : wr.cell? ⟨gp, 3, none⟩ = some vl := by rw [cell_of_row _ _ _ _ _ _ h.row]; rfl
theorem PT.fz {vn : Value} (h : PT gp w0 nm v0 v1 vl vn b0 b1 fs wr) (j : Nat) : wr.frozen? ⟨gp, j, none⟩ = false := frozen_of_row _ _ _ _ _ h.row
/-- the box takes the new list -/
theorem PT.set {vn : Value} (h : PT gp w0 nm v0 v1 vl vn b0 b1 fs wr) : PS gp w0 nm v0 v1 vn b0 b1 fs (wr.setCell ⟨gp, 3, none⟩ vn) := by
  have hb := (But.refl (fun k => k = gp) wr).setCell (p := ⟨gp, 3, none⟩) rfl vn
  have ho : ∀ b, b ≠ gp → (wr.setCell ⟨gp, 3, none⟩ vn).heap[b]? = wr.heap[b]? := fun b hne => heap_setCell_other _ _ _ _ hne
  have hS : ∀ b, Fr gp vn wr b → Fr gp vn (wr.setCell ⟨gp, 3, none⟩ vn) b := fun b hq => ⟨hq.1, by rw [hb.size]; exact hq.2.1, hq.2.2⟩
  have hk : ∀ b, Fr gp vn wr b → (wr.setCell ⟨gp, 3, none⟩ vn).heap[b]? = wr.heap[b]? := fun b hq => ho b (by have := hq.1; omega)
  refine ⟨⟨hb.os.trans h.old.os, hb.tape.trans h.old.tape, hb.output.trans h.old.output, Nat.le_trans h.old.size (Nat.le_of_eq hb.size.symm), fun k hk => ?_⟩, by rw [hb.size]; exact h.lt, by rw [heap_setCell_same _ _ _ _ _ _ h.row]; rfl, (h.f0.keep hk).mono hS, (h.f1.keep hk).mono hS, ⟨h.own.1, ?_⟩, fun f hf => ((h.ft f hf).keep hk).mono hS⟩
  · rw [ho k (by omega)]; exact h.old.block k hk
  · rcases h.own.2 with h0 | ⟨g, cap, cur, e, h1, hg, hr⟩
    · exact .inl h0
    · exact .inr ⟨g, cap, cur, e, h1, (ho g (by omega)).trans hg, hr⟩
theorem PT.kp {vn : Value} (h : PT gp w0 nm v0 v1 vl vn b0 b1 fs wr) : Kp gp vn wr vn (wr.setCell ⟨gp, 3, none⟩ vn) := fun b hq => by
  have hb := (But.refl (fun k => k = gp) wr).setCell (p := ⟨gp, 3, none⟩) rfl vn
  exact ⟨⟨hq.1, by rw [hb.size]; exact hq.2.1, hq.2.2⟩, heap_setCell_other _ _ _ _ (by have := hq.1; show b ≠ gp; omega)⟩
/-- it is the pattern that it says -/
theorem PS.rd (h : PS gp w0 nm v0 v1 vl b0 b1 fs wr) (hn : fs.length ≤ 140737488355328) : RdP wr (.agg #[.string nm, v0, v1, vl]) ⟨nm, b0, b1, lvl fs⟩ := by
  refine ⟨v0, v1, vl, rfl, h.f0.rd, h.f1.rd, ?_⟩
  have hl : (lvl fs).length = fs.length := by simp [lvl]
  rcases h.own.2 with ⟨e, e2⟩ | ⟨g, cap', cur, e, hb, hg, h1, h2, h3, h4⟩
  · subst e
    exact ⟨none, 0, by rw [hl, e2], by rw [hl, e2]; exact Nat.le_refl _, by rw [hl]; exact hn, fun j hj => by rw [hl, e2] at hj; omega⟩
  · subst e
    refine ⟨some ⟨g, 0, none⟩, cap', by rw [hl], by rw [hl]; exact h1, by rw [hl]; exact hn, fun j hj => ?_⟩
    rw [hl] at hj
    obtain ⟨a1, a2⟩ := lvc_at fs j hj
    obtain ⟨g', e1, _, k1⟩ := (own_cell h.own).2 _ _ a1
    obtain ⟨g'', e2, _, k2⟩ := (own_cell h.own).2 _ _ a2
    injection e1 with e1
    injection e1 with e1
    injection e2 with e2
    injection e2 with e2
    subst e1 e2
    have hgd : (lvl fs).getD j (0, []) = ((fs.getD j (0, undef, [])).1, (fs.getD j (0, undef, [])).2.2) := by simp [lvl, List.getD, hj]
    have hm : fs.getD j (0, undef, []) ∈ fs := by simp [List.getD, hj]
    rw [hgd]
    exact ⟨g, 0, _, rfl, by rw [Nat.zero_add]; exact k1, by rw [Nat.zero_add]; exact k2, (h.ft _ hm).rd⟩
/-- a new box with a name alone -/
theorem ps_start (W : World) (nm : ByteArray) : PS W.heap.size W nm (.slice none 0 0) (.slice none 0 0) (.slice none 0 0) [] [] [] (W.alloc (.cells #[.string nm, .slice none 0 0, .slice none 0 0, .slice none 0 0] 26)) :=
  ⟨(Below.refl _ _).alloc (Nat.le_refl _) _, by simp [size_alloc], heap_alloc_new _ _, ft_nil _ _, ft_nil _ _, own_nil0 _ _ _ _, fun f hf => by simp at hf⟩
end
end Go.Proofs.YtpfidohkohldaaaGreatDoor
namespace Go.Proofs.YtpfidohkohldaaaGreatDoor
set_option linter.unusedSimpArgs false
set_option linter.unusedVariables false
set_option maxRecDepth 100000
open Go.ChangeShapes Go.WideShapes Go.ChangeAt Go.RowKit Go.Pin Go.Pat Go.Deep
abbrev PN (ea : Int → Addr) : Ending := .panicked [{ v := .iface 166 (.pointer (some (ea 8))), recovered := false }]
theorem must_yes (w : World) : Calls Tryz.prog 45 #[.bool true] w fun e w' => e = .returned (.tuple #[]) ∧ w' = w := by
  go_enter Tryz.func45, Tryz.ntmps45
  go_wp2
  go_end0
  exact ⟨rfl, rfl⟩
theorem must_no {ea : Int → Addr} (w : World) (hE : Errs ea w) : Calls Tryz.prog 45 #[.bool false] w fun e w' => e = PN ea ∧ w' = w := by
  have e2 := (hE.1 8 (by decide)).1
  simp only [eblk] at e2
  go_enter Tryz.func45, Tryz.ntmps45
  go_wp2
  exact ⟨rfl, rfl, rfl⟩
/-- all but the block r is as it was -/
structure Up (r : Nat) (w w' : World) : Prop where
  os : w'.os = w.os
  tape : w'.tape = w.tape
  output : w'.output = w.output
  size : w.heap.size ≤ w'.heap.size
  block : ∀ k, k < w.heap.size → k ≠ r → w'.heap[k]? = w.heap[k]?
theorem Up.refl (r : Nat) (w : World) : Up r w w := ⟨rfl, rfl, rfl, Nat.le_refl _, fun _ _ _ => rfl⟩
theorem Up.trans {r : Nat} {a b c : World} (h : Up r a b) (k : Up r b c) : Up r a c :=
  ⟨k.os.trans h.os, k.tape.trans h.tape, k.output.trans h.output, Nat.le_trans h.size k.size, fun x hx hr => (k.block x (Nat.lt_of_lt_of_le hx h.size) hr).trans (h.block x hx hr)⟩
theorem Up.of {r : Nat} {w w' : World} (h : Below w.heap.size w w') : Up r w w' := ⟨h.os, h.tape, h.output, h.size, fun k hk _ => h.block k hk⟩
theorem Up.to {r q : Nat} {w w' : World} (h : Up r w w') (hq : q ≤ r) (hs : q ≤ w.heap.size) : Below q w w' := ⟨h.os, h.tape, h.output, h.size, fun k hk => h.block k (by omega) (by omega)⟩
theorem Up.set {r : Nat} {a w : World} (h : Up r a w) (i : Nat) (u : Value) : Up r a (w.setCell ⟨r, i, none⟩ u) := by
  have hb := (But.refl (fun k => k = r) w).setCell (p := ⟨r, i, none⟩) rfl u
  exact ⟨hb.os.trans h.os, hb.tape.trans h.tape, hb.output.trans h.output, by rw [hb.size]; exact h.size, fun k hk hr => (hb.block k hr).trans (h.block k hk hr)⟩
def bl (l : List UInt8) : ByteArray := ⟨l.toArray⟩
theorem bl_size (l : List UInt8) : (bl l).size = l.length := List.size_toArray
/-- the reader's box, with what is left of the text -/
def RB (r : Nat) (l : List UInt8) (w : World) : Prop := w.heap[r]? = some (.cells #[.string (bl l)] 60)
theorem RB.c {r : Nat} {l : List UInt8} {w : World} (h : RB r l w) : w.cell? ⟨r, 0, none⟩ = some (.string (bl l)) := by rw [cell_of_row _ _ _ _ _ _ h]; rfl
theorem RB.f {r : Nat} {l : List UInt8} {w : World} (h : RB r l w) : w.frozen? ⟨r, 0, none⟩ = false := frozen_of_row _ _ _ _ _ h
theorem RB.lt {r : Nat} {l : List UInt8} {w : World} (h : RB r l w) : r < w.heap.size := (Array.getElem?_eq_some_iff.1 h).1
theorem RB.set {r : Nat} {l : List UInt8} {w : World} (h : RB r l w) (l' : List UInt8) : RB r l' (w.setCell ⟨r, 0, none⟩ (.string (bl l'))) := by
  unfold RB
  rw [Go.heap_setCell_same _ _ _ _ _ _ h]
  rfl
theorem RB.below {r : Nat} {l : List UInt8} {w w' : World} (h : RB r l w) (hb : Below w.heap.size w w') : RB r l w' := (hb.block r h.lt).trans h
def tke (p l : List UInt8) : List UInt8 := if pfx p l then l.drop p.length else l
theorem tke_len (p l : List UInt8) : (tke p l).length ≤ l.length := by unfold tke; split <;> simp
set_option maxHeartbeats 4000000 in
theorem take_any (r : Nat) (l : List UInt8) (p : ByteArray) (w : World) (h : RB r l w) :
    Calls Tryz.prog 43 #[.pointer (some ⟨r, 0, none⟩), .string p] w fun e w' => e = .returned (.bool (pfx (toL p) l)) ∧ RB r (tke (toL p) l) w' ∧ Up r w w' := by
  have hc := h.c
  have hf := h.f
  have CC := Tryz.strings_CutPrefix (bl l) p w
  have e1 : (⟨(Lib.trimPrefix (bl l).data.toList p.data.toList).toArray⟩ : ByteArray) = bl (tke (toL p) l) := rfl
  have e2 : Lib.hasPrefix (bl l).data.toList p.data.toList = pfx (toL p) l := rfl
  rw [e1, e2] at CC
  obtain ⟨s', hs'⟩ : ∃ s', bl (tke (toL p) l) = s' := ⟨_, rfl⟩
  obtain ⟨pb, hpb⟩ : ∃ b, pfx (toL p) l = b := ⟨_, rfl⟩
  obtain ⟨s, hs⟩ : ∃ s, bl l = s := ⟨_, rfl⟩
  rw [hs', hpb, hs] at CC
  rw [hs] at hc
  have HR : Hid (RB r (tke (toL p) l) (w.setCell ⟨r, 0, none⟩ (.string s')) ∧ Up r w (w.setCell ⟨r, 0, none⟩ (.string s'))) := by
    rw [← hs']
    exact ⟨h.set _, (Up.refl r w).set 0 _⟩
  have HC : Hid _ := CC
  rw [hpb]
  clear h CC e1 e2 hs' hpb hs
  go_enter Tryz.func43, Tryz.ntmps43
  go_wp2_with (go_at_call 66; refine Calls.mono HC.out ?_; rintro e w' ⟨rfl, rfl⟩)
  go_ret
  exact ⟨rfl, HR.out⟩
set_option maxHeartbeats 4000000 in
theorem want_yes (r : Nat) (l : List UInt8) (p : ByteArray) (w : World) (h : RB r l w) (hp : pfx (toL p) l = true) :
    Calls Tryz.prog 41 #[.pointer (some ⟨r, 0, none⟩), .string p] w fun e w' => e = .returned (.tuple #[]) ∧ RB r (l.drop (toL p).length) w' ∧ Up r w w' := by
  have CT := take_any r l p w h
  rw [hp, show tke (toL p) l = l.drop (toL p).length by unfold tke; rw [hp]; rfl] at CT
  have CM := fun y => must_yes y
  clear h hp
  go_enter Tryz.func41, Tryz.ntmps41
  go_wp2_with (first
    | (go_at_call 43; refine CT.mono ?_; rintro e w1 ⟨rfl, h1, h2⟩; have H1 : Hid (RB r (l.drop (toL p).length) w1 ∧ Up r w w1) := ⟨h1, h2⟩; clear h1 h2 CT)
    | (go_at_call 45; refine (CM _).mono ?_; rintro e w2 ⟨rfl, rfl⟩))
  go_end0
  exact ⟨rfl, H1.out⟩
set_option maxHeartbeats 4000000 in
theorem want_no {ea : Int → Addr} (r : Nat) (l : List UInt8) (p : ByteArray) (w : World) (hE : ∀ y, Up r w y → Errs ea y) (h : RB r l w) (hp : pfx (toL p) l = false) :
    Calls Tryz.prog 41 #[.pointer (some ⟨r, 0, none⟩), .string p] w fun e w' => e = PN ea ∧ Up r w w' := by
  have CT := take_any r l p w h
  rw [hp] at CT
  have CM := fun y hy => must_no (ea := ea) y (hE y hy)
  have HCM : Hid _ := CM
  clear h hp hE CM
  go_enter Tryz.func41, Tryz.ntmps41
  go_wp2_with (first
    | (go_at_call 43; refine CT.mono ?_; rintro e w1 ⟨rfl, h1, h2⟩; have H1 : Hid (Up r w w1) := h2; clear h1 h2 CT)
    | (go_at_call 45; refine (HCM.out _ H1.out).mono ?_; rintro e w2 ⟨rfl, rfl⟩))
  exact ⟨rfl, rfl, H1.out⟩
end Go.Proofs.YtpfidohkohldaaaGreatDoor
namespace Go.Proofs.YtpfidohkohldaaaGreatDoor
set_option linter.unusedSimpArgs false
set_option linter.unusedVariables false
set_option maxRecDepth 100000
open Go.ChangeShapes Go.WideShapes Go.ChangeAt Go.RowKit Go.Pin Go.Pat Go.Deep
theorem sclone_any (s : ByteArray) (hs : s.size ≤ 140737488365328) (w : World) : Calls Tryz.prog 30 #[.string s] w fun e w' => e = .returned (.string s) ∧ Below w.heap.size w w' := by
  have C := Tryz.stringslite_Clone s w (by omega)
  go_enter Tryz.func30, Tryz.ntmps30
  go_wp2_with (go_at_call 57; refine C.mono ?_; rintro e w1 ⟨rfl, h1⟩; have H1 : Hid (Below w.heap.size w w1) := h1; clear h1)
  go_ret
  exact ⟨rfl, H1.out⟩
theorem bl_ext0 (l : List UInt8) (n : Nat) : (bl l).extract 0 n = bl (l.take n) := toL_inj (by rw [toL_ext]; rfl)
theorem bl_ext1 (l : List UInt8) (n : Nat) : (bl l).extract n (bl l).size = bl (l.drop n) := toL_inj (by rw [toL_ext, bl_size, show toL (bl l) = l from rfl, List.take_of_length_le (Nat.le_refl _)]; rfl)
set_option maxHeartbeats 4000000 in
theorem rname_yes (r : Nat) (l : List UInt8) (hl : l.length ≤ 4096) (w : World) (h : RB r l w) (h0 : ctb nmB l ≠ 0) :
    Calls Tryz.prog 40 #[.pointer (some ⟨r, 0, none⟩)] w fun e w' => e = .returned (.string (bl (l.take (ctb nmB l)))) ∧ RB r (l.drop (ctb nmB l)) w' ∧ Up r w w' := by
  have hsz := bl_size l
  have CN := nameLength_any (bl l) (by omega) w
  rw [show toL (bl l) = l from rfl] at CN
  have hle := ctb_le nmB l
  have e0 := bl_ext0 l (ctb nmB l)
  have e1 := bl_ext1 l (ctb nmB l)
  have hset := fun y (hy : RB r l y) => hy.set (l.drop (ctb nmB l))
  have CC := fun y => sclone_any (bl (l.take (ctb nmB l))) (by rw [bl_size, List.length_take]; omega) y
  obtain ⟨n, hn⟩ : ∃ n, ctb nmB l = n := ⟨_, rfl⟩
  rw [hn] at CN hle e0 e1 hset CC h0
  rw [hn]
  have HS : Hid _ := hset
  have HR : Hid (RB r l w) := h
  have hc := h.c
  have hf := h.f
  obtain ⟨s, hs⟩ : ∃ s, bl l = s := ⟨_, rfl⟩
  rw [hs] at CN hc e0 e1 hsz
  obtain ⟨a, ha⟩ : ∃ s, bl (l.take n) = s := ⟨_, rfl⟩
  obtain ⟨b, hb⟩ : ∃ s, bl (l.drop n) = s := ⟨_, rfl⟩
  rw [ha] at e0 CC
  rw [hb] at e1 HS
  rw [ha]
  rw [hsz] at e1
  have CM := fun y => must_yes y
  have g0 : (0 : Int) < (n : Int) := by omega
  have g0' : 0 < n := by omega
  have g1 : (n : Int) ≤ (s.size : Int) := by omega
  have g2 : (s.size : Int) ≤ 4096 := by omega
  have HC : Hid (∀ y, RB r l y → y.cell? ⟨r, 0, none⟩ = some (.string s) ∧ y.frozen? ⟨r, 0, none⟩ = false) := fun y hy => by rw [← hs]; exact ⟨hy.c, hy.f⟩
  clear h hset hs ha hb hn h0
  go_enter Tryz.func40, Tryz.ntmps40
  go_upto_region 4 with (first
    | (go_at_call 49; refine CN.mono ?_; rintro e w1 ⟨rfl, rfl⟩)
    | (go_at_call 45; refine (CM _).mono ?_; rintro e w2 ⟨rfl, rfl⟩)
    | (go_at_call 30; (try rw [e0]); refine (CC _).mono ?_; rintro e w3 ⟨rfl, h3⟩; have H3 : Hid (RB r l w3 ∧ Below _ _ w3) := ⟨HR.out.below h3, h3⟩; clear h3 hc hf))
  have hc := (HC.out w3 H3.out.1).1
  have hf := (HC.out w3 H3.out.1).2
  go_wp2
  go_ret
  exact ⟨rfl, HS.out w3 H3.out.1, (Up.of H3.out.2).set 0 _⟩
set_option maxHeartbeats 4000000 in
theorem rname_no {ea : Int → Addr} (r : Nat) (l : List UInt8) (hl : l.length ≤ 4096) (w : World) (hE : Errs ea w) (h : RB r l w) (h0 : ctb nmB l = 0) :
    Calls Tryz.prog 40 #[.pointer (some ⟨r, 0, none⟩)] w fun e w' => e = PN ea ∧ Up r w w' := by
  have hsz := bl_size l
  have CN := nameLength_any (bl l) (by omega) w
  rw [show toL (bl l) = l from rfl, h0] at CN
  have hc := h.c
  have CM := must_no w hE
  have CN' : Calls Tryz.prog 49 #[.string (bl l)] w fun e w' => e = .returned (.int .i64 0) ∧ w' = w := CN
  clear h hsz CN h0
  go_enter Tryz.func40, Tryz.ntmps40
  go_wp2_with (first
    | (go_at_call 49; refine CN'.mono ?_; rintro e w1 ⟨rfl, rfl⟩)
    | (go_at_call 45; refine CM.mono ?_; rintro e w2 ⟨rfl, rfl⟩))
  exact ⟨rfl, rfl, Up.refl _ _⟩
/-- the token whose word it is -/
theorem wrd_inj : ∀ j : Nat, j < 8 → ∀ k : Nat, k < 8 → wrd (j : Int) = wrd (k : Int) → j = k := by
  intro j hj k hk h
  have key : ∀ j : Fin 8, ∀ k : Fin 8, toL (wrd ((j : Nat) : Int)) = toL (wrd ((k : Nat) : Int)) → j = k := by decide
  have := key ⟨j, hj⟩ ⟨k, hk⟩ (by rw [h])
  simpa using this
theorem tokO_hit (x : ByteArray) (i : Nat) (hi : i < 8) (h1 : 1 ≤ i) (h : wrd (i : Int) = x) : ∀ n, i ≤ n → n ≤ 7 → tokO x n = i
  | 0, h0, _ => by omega
  | n + 1, hn, h7 => by
    unfold tokO
    split
    · rename_i hw
      exact wrd_inj _ (by omega) _ hi (hw.trans h.symm)
    · rename_i hw
      have : i ≠ n + 1 := fun e => hw (by rw [← e]; exact h)
      exact tokO_hit x i hi h1 h n (by omega) (by omega)
theorem tokO_miss (x : ByteArray) (h : ∀ j : Nat, 1 ≤ j → j < 8 → wrd (j : Int) ≠ x) : ∀ n, n ≤ 7 → tokO x n = 0
  | 0, _ => rfl
  | n + 1, h7 => by
    unfold tokO
    rw [if_neg (h (n + 1) (by omega) (by omega))]
    exact tokO_miss x h n (by omega)
theorem words_index (i : Nat) (h : i < 8) (w : World) : (Instr.index 122 (.agg c_tokenWords.toArray) (.int .i64 i)).run Tryz.prog w = .ok (.string (wrd i)) w := by
  rcases (by omega : i = 0 ∨ i = 1 ∨ i = 2 ∨ i = 3 ∨ i = 4 ∨ i = 5 ∨ i = 6 ∨ i = 7) with rfl | rfl | rfl | rfl | rfl | rfl | rfl | rfl
  all_goals kernel_rfl
/-- what tokenOf answers -/
def TkP (ea : Int → Addr) (x : ByteArray) (w : World) (e : Ending) (w' : World) : Prop :=
  w' = w ∧ if tokO x 7 = 0 then e = PN ea else e = .returned (.int .i64 (tokO x 7))
set_option maxHeartbeats 4000000 in
theorem tokenOf_any {ea : Int → Addr} (x : ByteArray) (hx : x.size ≠ 0) (w : World) (hE : Errs ea w) : Calls Tryz.prog 103 #[.string x] w (TkP ea x w) := by
  have hT := hE.2.tokenWords
  have hI : (Tryz.prog.info? 122).map (·.size) = some c_tokenWords.toArray.size := by kernel_rfl
  have hix := fun i hi => words_index i hi w
  obtain ⟨cz, hcz⟩ : ∃ cz, c_tokenWords = cz := ⟨_, rfl⟩
  rw [hcz] at hI hT hix
  obtain ⟨HA, hHA⟩ : ∃ HA, cz.toArray = HA := ⟨_, rfl⟩
  rw [hHA] at hI hix
  have HT : Hid (w.rangeAt 7 0 cz) := hT
  have HI : Hid _ := hI
  have HH : Hid (cz.toArray = HA) := hHA
  have HIX : Hid _ := hix
  have e2 := (hE.1 8 (by decide)).1
  simp only [eblk] at e2
  have HX : Hid (x.size ≠ 0) := hx
  clear hI hHA hcz hT hix hE hx
  go_enter Tryz.func103, Tryz.ntmps103
  go_upto_region 2 with (with_reducible refine at_list ?_; refine wpList_load_midA rfl 122 (.global 7) rfl 7 0 rfl cz HA HH.out _ HT.out Tryz.underlying122 rfl HI.out ?_)
  go_loopw [6] (fun v6 wr => ∃ i : Nat, i ≤ 8 ∧ v6 = .int .i64 i ∧ (∀ j : Nat, j < i → wrd (j : Int) ≠ x) ∧ wr = w) (fun v _ => 8 - (intOf v).toNat)
  case atStart => exact ⟨0, Nat.zero_le _, rfl, fun j hj => by omega, rfl⟩
  case round =>
    obtain ⟨i, hi, rfl, hall, rfl⟩ := hrel
    by_cases hlt : i < 8
    · have b1 : (i : Int) < 8 := by omega
      have hx1 := HIX.out i hlt
      obtain ⟨y, hy⟩ : ∃ y, wrd (i : Int) = y := ⟨_, rfl⟩
      rw [hy] at hx1
      by_cases he : x = y
      · have HR : Hid (tokO x 7 = i ∧ i ≠ 0) := by
          have hi0 : i ≠ 0 := fun h0 => by
            apply HX.out
            rw [he, ← hy, h0]
            rfl
          exact ⟨tokO_hit x i hlt (by omega) (by rw [hy, he]) 7 (by omega) (by omega), hi0⟩
        clear hall hi hy
        subst he
        go_wp2
        go_ret
        refine ⟨rfl, ?_⟩
        rw [HR.out.1, if_neg HR.out.2]
        rfl
      · have hne : ¬ y = x := fun e => he e.symm
        have HA2 : Hid (∀ j : Nat, j < i + 1 → wrd (j : Int) ≠ x) := fun j hj => by
          by_cases hji : j = i
          · rw [hji, hy]; exact hne
          · exact hall j (by omega)
        have hbl : (x.toList == y.toList) = false := by
          rw [Go.ByteArray.toList_eq, Go.ByteArray.toList_eq]
          simp only [beq_eq_false_iff_ne, ne_eq]
          exact fun e => he (toL_inj e)
        clear hall hi hy
        go_wp2
        exact ⟨⟨i + 1, hlt, congrArg (Value.int .i64) (by omega), HA2.out, trivial⟩, by show 8 - ((i : Int) + 1).toNat < 8 - ((i : Int)).toNat; omega⟩
    · have b1 : ¬ (i : Int) < 8 := by omega
      have HR : Hid (tokO x 7 = 0) := tokO_miss x (fun j _ hj => hall j (by omega)) 7 (by omega)
      clear hall hi
      go_wp2
      refine ⟨rfl, rfl, ?_⟩
      rw [HR.out]
      rfl
end Go.Proofs.YtpfidohkohldaaaGreatDoor
