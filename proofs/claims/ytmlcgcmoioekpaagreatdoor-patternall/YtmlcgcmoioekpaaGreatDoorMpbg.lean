import Derived.Test.YtmlcgcmoioekpaaGreatDoorMpbf
import Derived.Test.YtmlcgcmoioekpaaGreatDoorMpau
import Derived.Test.YtmlcgcmoioekpaaGreatDoorMpag
import Derived.Test.YtmlcgcmoioekpaaGreatDoorMpab
namespace Go.Proofs.YtmlcgcmoioekpaaGreatDoor
set_option linter.unusedSimpArgs false
set_option linter.unusedVariables false
open Go.ChangeShapes Go.WideShapes Go.ChangeAt Go.RowKit Go.Pin Go.Pat
abbrev zPat : Array Value := #[.string ⟨#[]⟩, .slice none 0 0, .slice none 0 0, .slice none 0 0]
/-- roomy's two boxes -/
structure P2 (q : Nat) (w : World) (nm : ByteArray) (v0 v1 vl : Value) (wr : World) : Prop where
  old : Below q w wr
  lt : q + 1 < wr.heap.size
  row : wr.heap[q]? = some (.cells #[.string nm, v0, v1, vl] 26)
  row2 : wr.heap[q + 1]? = some (.cells zPat 26)
section
variable {q : Nat} {w wr w' : World} {nm : ByteArray} {v0 v1 vl : Value}
theorem P2.c0 (h : P2 q w nm v0 v1 vl wr) : wr.cell? ⟨q, 0, none⟩ = some (.string nm) := by rw [cell_of_row _ _ _ _ _ _ h.row]; rfl
theorem P2.c1 (h : P2 q w nm v0 v1 vl wr) : wr.cell? ⟨q, 1, none⟩ = some v0 := by rw [cell_of_row _ _ _ _ _ _ h.row]; rfl
theorem P2.c2 (h : P2 q w nm v0 v1 vl wr) : wr.cell? ⟨q, 2, none⟩ = some v1 := by rw [cell_of_row _ _ _ _ _ _ h.row]; rfl
theorem P2.c3 (h : P2 q w nm v0 v1 vl wr) : wr.cell? ⟨q, 3, none⟩ = some vl := by rw [cell_of_row _ _ _ _ _ _ h.row]; rfl
theorem P2.below (h : P2 q w nm v0 v1 vl wr) (hb : Below wr.heap.size wr w') : P2 q w nm v0 v1 vl w' :=
  ⟨h.old.trans (hb.mono (by have := h.lt; omega)), Nat.lt_of_lt_of_le h.lt hb.size, (hb.block _ (by have := h.lt; omega)).trans h.row, (hb.block _ h.lt).trans h.row2⟩
/-- another block of its own is written -/
theorem P2.grown (h : P2 q w nm v0 v1 vl wr) {g : Nat} (hg : wr.grownBy w' (some g)) (h2 : q + 2 ≤ g) : P2 q w nm v0 v1 vl w' :=
  ⟨h.old.grown hg (by have := h.lt; omega) (fun k hk => by injection hk with hk; omega), Nat.lt_of_lt_of_le h.lt hg.size, (hg.block _ (by have := h.lt; omega) (fun e => by injection e with e; omega)).trans h.row, (hg.block _ h.lt (fun e => by injection e with e; omega)).trans h.row2⟩
end
def lcs (fs : List (Int × Value)) : List Value := fs.flatMap fun g => [.int .i64 g.1, g.2]
theorem lcs_length (l : List (Int × Value)) : (lcs l).length = l.length * 2 := by
  induction l with
  | nil => rfl
  | cons g r ih => simp [lcs] at ih ⊢; omega
theorem lcs_snoc (l : List (Int × Value)) (g : Int × Value) : lcs (l ++ [g]) = lcs l ++ [.int .i64 g.1, g.2] := by simp [lcs]
/-- marked lists, none of them in block g -/
def Mks (g : Nat) (ms : List (Nat × List Int)) (wr : World) : Prop := ∀ m ∈ ms, m.1 ≠ g ∧ wr.rangeAt m.1 0 ((m.2 ++ mks).map (Value.int .i64))
theorem range_blk {w w' : World} {b o : Nat} {cs : List Value} (h : w.rangeAt b o cs) (hb : w'.heap[b]? = w.heap[b]?) : w'.rangeAt b o cs := fun j v hv => by
  rw [World.cell?_of_block (a := ⟨b, o + j, none⟩) hb]; exact h j v hv
theorem mks_pos (C : List Int) : 0 < ((C ++ mks).map (Value.int .i64)).length := by simp [mks]
theorem Mks.below {g : Nat} {ms : List (Nat × List Int)} {w w' : World} (h : Mks g ms w) (hb : Below w.heap.size w w') : Mks g ms w' := fun m hm =>
  ⟨(h m hm).1, range_blk (h m hm).2 (hb.block _ (range_lt (h m hm).2 (mks_pos _)))⟩
theorem Mks.grown {g : Nat} {ms : List (Nat × List Int)} {w w' : World} (h : Mks g ms w) (hg : w.grownBy w' (some g)) : Mks g ms w' := fun m hm =>
  ⟨(h m hm).1, range_blk (h m hm).2 (hg.block _ (range_lt (h m hm).2 (mks_pos _)) (fun e => by injection e with e; exact (h m hm).1 e))⟩
/-- roomy's state: both boxes, the list of lines, the marked lists -/
structure RS (q : Nat) (w : World) (nm : ByteArray) (v0 v1 vl : Value) (g N : Nat) (fs : List (Int × Value)) (ms : List (Nat × List Int)) (wr : World) : Prop where
  p2 : P2 q w nm v0 v1 vl wr
  own : wr.ownsRow (q + 2) 58 2 (.slice (some ⟨g, 0, none⟩) fs.length N) fs.length (lcs fs)
  mm : Mks g ms wr
  gt : q + 2 ≤ g
  lt : g < wr.heap.size
  ge : ∀ m ∈ ms, q + 2 ≤ m.1
section
variable {q : Nat} {w wr w' : World} {nm : ByteArray} {v0 v1 vl : Value} {g N : Nat} {fs : List (Int × Value)} {ms : List (Nat × List Int)}
theorem RS.below (h : RS q w nm v0 v1 vl g N fs ms wr) (hb : Below wr.heap.size wr w') : RS q w nm v0 v1 vl g N fs ms w' :=
  ⟨h.p2.below hb, owns_below hb h.own, h.mm.below hb, h.gt, Nat.lt_of_lt_of_le h.lt hb.size, h.ge⟩
theorem RS.add (h : RS q w nm v0 v1 vl g N fs ms wr) {b : Nat} {C : List Int} (hb : b ≠ g) (hb2 : q + 2 ≤ b) (hr : wr.rangeAt b 0 ((C ++ mks).map (Value.int .i64))) : RS q w nm v0 v1 vl g N fs (ms ++ [(b, C)]) wr :=
  ⟨h.p2, h.own, fun m hm => by
    rcases List.mem_append.1 hm with hm | hm
    · exact h.mm m hm
    · obtain rfl : m = (b, C) := by simpa using hm
      exact ⟨hb, hr⟩, h.gt, h.lt, fun m hm => by
    rcases List.mem_append.1 hm with hm | hm
    · exact h.ge m hm
    · obtain rfl : m = (b, C) := by simpa using hm
      exact hb2⟩
theorem info_line : (Tryz.prog.info? 58).map (·.size) = some 2 := by kernel_rfl
theorem RS.app (h : RS q w nm v0 v1 vl g N fs ms wr) (hn : fs.length + 1 ≤ N) (a : Nat) (f : Int) (u : Value) (hu : u.oneCell' = true) (hc : wr.heap[a]? = some (.cells #[.int .i64 f, u] 58)) :
    ∀ ty, ∃ w', (Builtin.append_ #[24, 24] ty #[.slice (some ⟨g, 0, none⟩) fs.length N, .slice (some ⟨a, 0, none⟩) 1 1]).run Tryz.prog wr = .ok (.slice (some ⟨g, 0, none⟩) (fs.length + 1) N) w' ∧ RS q w nm v0 v1 vl g N (fs ++ [(f, u)]) ms w' := fun ty => by
  obtain ⟨i, i1, i2⟩ := Option.map_eq_some_iff.1 info_line
  obtain ⟨w', hr, h2, h3⟩ := run_append_fits (P := Tryz.prog) wr (q + 2) 24 ty 58 i 2 Tryz.underlying24 i1 i2 g fs.length N (lcs fs) h.own ⟨a, 0, none⟩ 1 1 [.int .i64 f, u] rfl (fun j x hx => by
    rw [add_mid, Nat.zero_add, cell_of_row _ _ _ _ _ _ hc, ← hx]; simp) (fun x hx => by simp at hx; rcases hx with rfl | rfl; rfl; exact hu) hn
  refine ⟨w', hr, h.p2.grown h3 h.gt, ?_, h.mm.grown h3, h.gt, Nat.lt_of_lt_of_le h.lt h3.size, h.ge⟩
  rw [lcs_snoc, List.length_append]
  exact h2
end
end Go.Proofs.YtmlcgcmoioekpaaGreatDoor
namespace Go.Proofs.YtmlcgcmoioekpaaGreatDoor
set_option linter.unusedSimpArgs false
set_option linter.unusedVariables false
open Go.ChangeShapes Go.WideShapes Go.ChangeAt Go.RowKit Go.Pin Go.Pat
section
variable {q : Nat} {w wr w' : World} {nm : ByteArray} {v0 v1 vl : Value}
theorem P2.fz (h : P2 q w nm v0 v1 vl wr) (j : Nat) : wr.frozen? ⟨q, j, none⟩ = false := frozen_of_row _ _ _ _ _ h.row
theorem P2.sets (h : P2 q w nm v0 v1 vl wr) (j : Nat) (u : Value) : Below q w (wr.setCell ⟨q, j, none⟩ u) ∧ q + 1 < (wr.setCell ⟨q, j, none⟩ u).heap.size ∧ (wr.setCell ⟨q, j, none⟩ u).heap[q + 1]? = some (.cells zPat 26) ∧ ∀ b, b ≠ q → (wr.setCell ⟨q, j, none⟩ u).heap[b]? = wr.heap[b]? := by
  have hb := (But.refl (fun k => k = q) wr).setCell (p := ⟨q, j, none⟩) rfl u
  have ho : ∀ b, b ≠ q → (wr.setCell ⟨q, j, none⟩ u).heap[b]? = wr.heap[b]? := fun b hne => heap_setCell_other _ _ _ _ hne
  refine ⟨⟨hb.os.trans h.old.os, hb.tape.trans h.old.tape, hb.output.trans h.old.output, Nat.le_trans h.old.size (Nat.le_of_eq hb.size.symm), fun k hk => ?_⟩, ?_, ?_, ho⟩
  · rw [ho k (by omega)]; exact h.old.block k hk
  · rw [hb.size]; exact h.lt
  · rw [ho _ (by omega)]; exact h.row2
theorem P2.set1 (h : P2 q w nm v0 v1 vl wr) (u : Value) : P2 q w nm u v1 vl (wr.setCell ⟨q, 1, none⟩ u) :=
  ⟨(h.sets 1 u).1, (h.sets 1 u).2.1, by rw [heap_setCell_same _ _ _ _ _ _ h.row]; rfl, (h.sets 1 u).2.2.1⟩
theorem P2.set2 (h : P2 q w nm v0 v1 vl wr) (u : Value) : P2 q w nm v0 u vl (wr.setCell ⟨q, 2, none⟩ u) :=
  ⟨(h.sets 2 u).1, (h.sets 2 u).2.1, by rw [heap_setCell_same _ _ _ _ _ _ h.row]; rfl, (h.sets 2 u).2.2.1⟩
theorem P2.set3 (h : P2 q w nm v0 v1 vl wr) (u : Value) : P2 q w nm v0 v1 u (wr.setCell ⟨q, 3, none⟩ u) :=
  ⟨(h.sets 3 u).1, (h.sets 3 u).2.1, by rw [heap_setCell_same _ _ _ _ _ _ h.row]; rfl, (h.sets 3 u).2.2.1⟩
theorem p2_start (W : World) (nm : ByteArray) (v0 v1 vl : Value) : P2 W.heap.size W nm v0 v1 vl ((W.alloc (.cells #[.string nm, v0, v1, vl] 26)).alloc (.cells zPat 26)) := by
  refine ⟨((Below.refl _ _).alloc (Nat.le_refl _) _).alloc (by simp) _, by simp [size_alloc], ?_, ?_⟩
  · rw [heap_alloc_any, if_neg (by simp [size_alloc])]; exact heap_alloc_new _ _
  · have := heap_alloc_new (W.alloc (.cells #[.string nm, v0, v1, vl] 26)) (.cells zPat 26)
    rw [size_alloc] at this
    exact this
end
theorem own_range {w : World} {q g n : Nat} {xs : List Value} (h : w.ownsRow q 3 1 (.slice (some ⟨g, 0, none⟩) n n) n xs) : w.rangeAt g 0 xs := by
  rcases h.2 with ⟨e, _⟩ | ⟨g', cap, cur, e, h1, hg, h2, h3, h4, h5⟩
  · cases e
  · injection e with e1 e2 e3
    injection e1 with e1
    injection e1 with e1
    subst e1 e3
    intro j v hv
    rw [Nat.zero_add, cell_of_row _ _ _ _ _ _ hg, ← hv, ← h5, List.getElem?_take_of_lt]
    · simp
    · have := (List.getElem?_eq_some_iff.1 hv).1
      rw [h.1] at this
      exact this
theorem wide_rd {W : World} {u : Value} {C : List Int} (hu : RdN W u C) (hC : C.length ≤ 2000) :
    Calls Tryz.prog 30 #[u] W fun e w' => e = .returned (.slice (some ⟨W.heap.size, 0, none⟩) C.length (C.length + 6)) ∧ w'.rangeAt W.heap.size 0 ((C ++ mks).map (Value.int .i64)) ∧ Below W.heap.size W w' :=
  (wide_any hu hC).mono fun e w' h => ⟨h.1, own_range h.2.1, h.2.2⟩
theorem info_lineP : (Tryz.prog.info? 58).map (fun i => (i.zero, i.size, i.bytes)) = some (some (.agg #[.int .i64 0, .slice none 0 0]), 2, 32) := by kernel_rfl
abbrev tokV (b : Nat) (ts : List Int) : Value := .slice (some ⟨b, 0, none⟩) ts.length (ts.length + 6)
def lfs (L : List Ln) (B : List Nat) : List (Int × Value) := List.zipWith (fun l b => (l.1, tokV b l.2)) L B
def lms (L : List Ln) (B : List Nat) : List (Nat × List Int) := List.zipWith (fun l b => (b, l.2)) L B
theorem take_snoc (L : List Ln) {i : Nat} (h : i < L.length) : L.take (i + 1) = L.take i ++ [L.getD i (0, [])] := by
  rw [List.take_add_one, List.getElem?_eq_getElem h]; simp [List.getD, h]
theorem lfs_snoc (L : List Ln) {i : Nat} {B : List Nat} (h : i < L.length) (hB : B.length = i) (b : Nat) : lfs (L.take (i + 1)) (B ++ [b]) = lfs (L.take i) B ++ [((L.getD i (0, [])).1, tokV b (L.getD i (0, [])).2)] := by
  unfold lfs
  rw [take_snoc L h, List.zipWith_append (by rw [List.length_take]; omega)]
  rfl
theorem lms_snoc (L : List Ln) {i : Nat} {B : List Nat} (h : i < L.length) (hB : B.length = i) (b : Nat) : lms (L.take (i + 1)) (B ++ [b]) = lms (L.take i) B ++ [(b, (L.getD i (0, [])).2)] := by
  unfold lms
  rw [take_snoc L h, List.zipWith_append (by rw [List.length_take]; omega)]
  rfl
theorem lfs_len (L : List Ln) {i : Nat} {B : List Nat} (h : i ≤ L.length) (hB : B.length = i) : (lfs (L.take i) B).length = i := by
  simp [lfs, hB]; omega
theorem ip4 (a b c d : Value) : (Tryz.prog.info? 26).map (·.size) = some (#[a, b, c, d] : Array Value).size := by kernel_rfl
/-- lines that are marks -/
def lmk (k : Nat) : List (Int × Value) := (List.range k).map fun (i : Nat) => (800 + (i : Int), Value.slice none 0 0)
theorem lmk_snoc (k : Nat) : lmk (k + 1) = lmk k ++ [(800 + (k : Int), .slice none 0 0)] := by simp [lmk, List.range_succ]
/-- what roomy answers -/
def RmP (p : Pt) (q : Nat) (W : World) (e : Ending) (w' : World) : Prop := ∃ g0 g1 g B, B.length = p.ln.length ∧
  e = .returned (.agg #[.string p.nm, tokV g0 p.b0, tokV g1 p.b1, .slice (some ⟨g, 0, none⟩) p.ln.length (p.ln.length + 6)]) ∧
  w'.ownsRow (q + 2) 58 2 (.slice (some ⟨g, 0, none⟩) (p.ln.length + 6) (p.ln.length + 6)) (p.ln.length + 6) (lcs (lfs p.ln B ++ lmk 6)) ∧
  Mks g ([(g0, p.b0), (g1, p.b1)] ++ lms p.ln B) w' ∧ Below q W w'
set_option maxRecDepth 100000 in
set_option maxHeartbeats 8000000 in
theorem roomy_any (v : Value) (p : Pt) (W : World) (hR : RdP W v p) (hs : Sml p) :
    Calls Tryz.prog 11 #[v] W fun e w' => RmP p W.heap.size W e w' := by
  obtain ⟨v0, v1, vl, rfl, h0, h1, hl⟩ := hR
  obtain ⟨a0, p0, rfl, -, z0, -⟩ := id h0
  obtain ⟨a1, p1, rfl, -, z1, -⟩ := id h1
  obtain ⟨al, cl, rfl, -, zl, -⟩ := id hl
  obtain ⟨i0, hi, hz0, hz1, hz2⟩ := info_parts info_lineP
  have hst := p2_start W p.nm (.slice a0 p.b0.length p0) (.slice a1 p.b1.length p1) (.slice al p.ln.length cl)
  obtain ⟨W0, hW0⟩ : ∃ W0, (W.alloc (.cells #[.string p.nm, .slice a0 p.b0.length p0, .slice a1 p.b1.length p1, .slice al p.ln.length cl] 26)).alloc (.cells #[.string ⟨#[]⟩, .slice none 0 0, .slice none 0 0, .slice none 0 0] 26) = W0 := ⟨_, rfl⟩
  rw [hW0] at hst
  have hH0 := fun Y (hY : Below W.heap.size W Y) => wide_rd (h0.below hY) hs.1
  have hH1 := fun Y (hY : Below W.heap.size W Y) => wide_rd (h1.below hY) hs.2.1
  have hHL := fun Y (hY : Below W.heap.size W Y) => hl.below hY
  obtain ⟨q, hq⟩ : ∃ q, W.heap.size = q := ⟨_, rfl⟩
  obtain ⟨nm, hnm⟩ : ∃ nm, p.nm = nm := ⟨_, rfl⟩
  obtain ⟨n0, hn0⟩ : ∃ n0, p.b0.length = n0 := ⟨_, rfl⟩
  obtain ⟨n1, hn1⟩ : ∃ n1, p.b1.length = n1 := ⟨_, rfl⟩
  obtain ⟨L, hLn⟩ : ∃ L, p.ln.length = L := ⟨_, rfl⟩
  simp only [hq, hnm, hn0, hn1, hLn] at hst hH0 hH1 hHL z0 z1 zl hW0 ⊢
  have hsz : (W.alloc (.cells #[.string nm, .slice a0 n0 p0, .slice a1 n1 p1, .slice al L cl] 26)).heap.size = q + 1 := by rw [size_alloc, hq]
  have hsz0 : W0.heap.size = q + 2 := by rw [← hW0, size_alloc, hsz]
  have HP : Hid (P2 q W nm (.slice a0 n0 p0) (.slice a1 n1 p1) (.slice al L cl) W0) := hst
  have HHL : Hid _ := hHL
  have HI1 : Hid _ := hH1
  have HS : Hid (Sml p ∧ p.nm = nm ∧ p.b0.length = n0 ∧ p.b1.length = n1 ∧ p.ln.length = L) := ⟨hs, hnm, hn0, hn1, hLn⟩
  have CI0 := hH0 W0 hst.old
  have c1 := hst.c1
  obtain ⟨g0, hg0⟩ : ∃ g0, W0.heap.size = g0 := ⟨_, rfl⟩
  rw [hg0] at CI0
  have HG0 : Hid (g0 = q + 2) := by rw [← hg0]; exact hsz0
  clear hst h0 h1 hl hnm hn0 hn1 hLn hH0 hH1 hHL hs z0 z1 zl hsz0
  go_enter Tryz.func11, Tryz.ntmps11
  go_upto_region 2 with (go_at_call 30; refine Calls.mono CI0 ?_; rintro e w1 ⟨rfl, hr, hb⟩; rw [← hg0] at hb; have HP1 : Hid (P2 q W nm (.slice a0 n0 p0) (.slice a1 n1 p1) (.slice al L cl) w1) := HP.out.below hb; have HR0 : Hid (w1.rangeAt g0 0 ((p.b0 ++ mks).map (Value.int .i64))) := hr; have c1' := HP1.out.c1; have f1 := HP1.out.fz 1; clear hb hr CI0 c1)
  have HP2 : Hid (P2 q W nm (.slice (some ⟨g0, 0, none⟩) n0 (n0 + 6)) (.slice a1 n1 p1) (.slice al L cl) (w1.setCell ⟨q, 1, none⟩ (.slice (some ⟨g0, 0, none⟩) n0 (n0 + 6)))) := HP1.out.set1 _
  have HR2 : Hid ((w1.setCell ⟨q, 1, none⟩ (.slice (some ⟨g0, 0, none⟩) n0 (n0 + 6))).rangeAt g0 0 ((p.b0 ++ mks).map (Value.int .i64))) := range_blk HR0.out ((HP1.out.sets 1 _).2.2.2 g0 (by have := HG0.out; omega))
  obtain ⟨W2, hW2⟩ : ∃ W2, w1.setCell ⟨q, 1, none⟩ (.slice (some ⟨g0, 0, none⟩) n0 (n0 + 6)) = W2 := ⟨_, rfl⟩
  rw [hW2] at HP2 HR2
  simp only [hW2]
  have CI1 := HI1.out W2 HP2.out.old
  have c2 := HP2.out.c2
  obtain ⟨g1, hg1⟩ : ∃ g1, W2.heap.size = g1 := ⟨_, rfl⟩
  rw [hg1] at CI1
  have HG1 : Hid (g0 < g1) := by show g0 < g1; rw [← hg1]; exact range_lt HR2.out (mks_pos _)
  clear hW2 c1' f1 HP1 HR0 hg0 hW0 hsz
  go_upto_region 3 with (go_at_call 30; refine Calls.mono CI1 ?_; rintro e w3 ⟨rfl, hr, hb⟩; rw [← hg1] at hb; have HP3 : Hid (P2 q W nm (.slice (some ⟨g0, 0, none⟩) n0 (n0 + 6)) (.slice a1 n1 p1) (.slice al L cl) w3) := HP2.out.below hb; have HR3 : Hid (w3.rangeAt g1 0 ((p.b1 ++ mks).map (Value.int .i64))) := hr; have HR4 : Hid (w3.rangeAt g0 0 ((p.b0 ++ mks).map (Value.int .i64))) := range_blk HR2.out (hb.block _ (range_lt HR2.out (mks_pos _))); have c2' := HP3.out.c2; have f2 := HP3.out.fz 2; clear hb hr CI1 c2)
  have HP4 : Hid (P2 q W nm (.slice (some ⟨g0, 0, none⟩) n0 (n0 + 6)) (.slice (some ⟨g1, 0, none⟩) n1 (n1 + 6)) (.slice al L cl) (w3.setCell ⟨q, 2, none⟩ (.slice (some ⟨g1, 0, none⟩) n1 (n1 + 6)))) := HP3.out.set2 _
  have HM4 : Hid (∀ b C, b ≠ q → w3.rangeAt b 0 ((C ++ mks).map (Value.int .i64)) → (w3.setCell ⟨q, 2, none⟩ (.slice (some ⟨g1, 0, none⟩) n1 (n1 + 6))).rangeAt b 0 ((C ++ mks).map (Value.int .i64))) := fun b C hb hr => range_blk hr ((HP3.out.sets 2 _).2.2.2 b hb)
  obtain ⟨W4, hW4⟩ : ∃ W4, w3.setCell ⟨q, 2, none⟩ (.slice (some ⟨g1, 0, none⟩) n1 (n1 + 6)) = W4 := ⟨_, rfl⟩
  rw [hW4] at HP4 HM4
  simp only [hW4]
  have HR5 := HM4.out g0 p.b0 (by have := HG0.out; omega) HR4.out
  have HR6 := HM4.out g1 p.b1 (by have := HG0.out; have := HG1.out; omega) HR3.out
  have hlt0 := range_lt HR5 (mks_pos _)
  have hlt1 := range_lt HR6 (mks_pos _)
  obtain ⟨g, hg⟩ : ∃ g, W4.heap.size = g := ⟨_, rfl⟩
  rw [hg] at hlt0 hlt1
  have HM5 : Hid (Mks g [(g0, p.b0), (g1, p.b1)] W4) := fun m hm => by
    simp only [List.mem_cons, List.not_mem_nil, or_false] at hm
    rcases hm with rfl | rfl
    · exact ⟨Nat.ne_of_lt hlt0, HR5⟩
    · exact ⟨Nat.ne_of_lt hlt1, HR6⟩
  have c3 := HP4.out.c3
  obtain ⟨N, hN⟩ : ∃ N, L + 6 = N := ⟨_, rfl⟩
  have HLN : Hid (L + 6 = N ∧ L ≤ 2000 ∧ p.ln.length = L) := ⟨hN, by have := HS.out; unfold Sml at this; omega, HS.out.2.2.2.2⟩
  have hw : wrap64 ((L : Int) + 6) = (N : Int) := by have := HLN.out; rw [IntWalk.wrap64_in _ ⟨by omega, by omega⟩]; omega
  have HGQ : Hid (q + 2 ≤ g) := by have := HP4.out.lt; rw [hg] at this; exact this
  clear HM4 hW4 c2' f2 HP3 HR3 HR4 HR5 HR6 hlt0 hlt1 HP2 HR2 hg1 hN HP HI1
  go_upto_region 4 with (at_make; go_loud (refine wpList_make_own _ rfl _ _ 24 rfl (q + 2) 58 i0 (.agg #[.int .i64 0, .slice none 0 0]) 2 Tryz.underlying24 hi hz0 hz1 _ _ _ N rfl rfl hw (by rw [hz2]; have := HLN.out; omega) (by have := HLN.out; unfold maxLen; omega) (by rw [hg]; exact HGQ.out) ?_; rw [hg]; intro w5 ho5 hg5))
  have HB5 : Below W4.heap.size W4 w5 := (Below.refl _ W4).grown hg5 (Nat.le_refl _) (fun k hk => nomatch hk)
  have hlt5 : g < w5.heap.size := by
    rcases ho5.2 with ⟨e, _⟩ | ⟨g', cap, cur, e, _, hgg, _⟩
    · cases e
    · injection e with e1 e2 e3; injection e1 with e1; injection e1 with e1; subst e1; exact (Array.getElem?_eq_some_iff.1 hgg).1
  have HR5 : Hid (RS q W nm (.slice (some ⟨g0, 0, none⟩) n0 (n0 + 6)) (.slice (some ⟨g1, 0, none⟩) n1 (n1 + 6)) (.slice al L cl) g N [] [(g0, p.b0), (g1, p.b1)] w5) := ⟨HP4.out.below HB5, ho5, HM5.out.below HB5, HGQ.out, hlt5, fun m hm => by
    have a := HG0.out
    have b := HG1.out
    simp only [List.mem_cons, List.not_mem_nil, or_false] at hm
    rcases hm with rfl | rfl
    · show q + 2 ≤ g0; omega
    · show q + 2 ≤ g1; omega⟩
  clear ho5 hg5 HB5 hlt5 HM5 HP4 hw c3 hg
  go_wp2
  go_loopw [3, 4] (fun v3 v4 wr => ∃ (i : Nat) (B : List Nat), i ≤ L ∧ B.length = i ∧ v4 = .int .i64 i ∧ v3 = .slice (some ⟨g, 0, none⟩) i N ∧ RS q W nm (.slice (some ⟨g0, 0, none⟩) n0 (n0 + 6)) (.slice (some ⟨g1, 0, none⟩) n1 (n1 + 6)) (.slice al L cl) g N (lfs (p.ln.take i) B) ([(g0, p.b0), (g1, p.b1)] ++ lms (p.ln.take i) B) wr) (fun _ v _ => L - (intOf v).toNat)
  case atStart => exact ⟨0, [], Nat.zero_le _, rfl, rfl, rfl, by simpa [lfs, lms] using HR5.out⟩
  case round =>
    obtain ⟨i, B, hi', hB, rfl, rfl, hrs⟩ := hrel
    have c3 := hrs.p2.c3
    have HRS : Hid _ := hrs
    have HIB : Hid (i ≤ L ∧ B.length = i) := ⟨hi', hB⟩
    by_cases hlt : i < L
    · have b1 : (i : Int) < (L : Int) := by omega
      obtain ⟨b, o, a2, n2, c2, rfl, hc, hn, hn2⟩ := (HHL.out W (Below.refl _ _)).at hlt
      have hcq : ∀ Y, Below q W Y → Y.cell? ⟨b, o + i * 2, none⟩ = some (.int .i64 (p.ln.getD i (0, [])).1) ∧ Y.cell? ⟨b, o + i * 2 + 1, none⟩ = some (.slice a2 n2 c2) := fun Y hY => hc Y (by rw [hq]; exact hY)
      have cellsAt : ∀ {Y}, P2 q W nm (.slice (some ⟨g0, 0, none⟩) n0 (n0 + 6)) (.slice (some ⟨g1, 0, none⟩) n1 (n1 + 6)) (.slice (some ⟨b, o, none⟩) L cl) Y → Y.cell? ⟨b, o + i * 2, none⟩ = some (.int .i64 (p.ln.getD i (0, [])).1) ∧ Y.cell? ⟨b, o + i * 2 + 1, none⟩ = some (.slice a2 n2 c2) := fun h => hcq _ h.old
      have hsm : (p.ln.getD i (0, [])).2.length ≤ 2000 := HS.out.1.2.2.2.2 i (by rw [HS.out.2.2.2.2]; exact hlt)
      have HWD : Hid (∀ Y, Below q W Y → _) := fun Y hY => wide_rd (hn.below (by rw [hq]; exact hY)) hsm
      have HLT : Hid (i < L) := hlt
      obtain ⟨fr, hfr⟩ : ∃ fr, (p.ln.getD i (0, [])).1 = fr := ⟨_, rfl⟩
      obtain ⟨ts, hts⟩ : ∃ ts, (p.ln.getD i (0, [])).2 = ts := ⟨_, rfl⟩
      rw [hts] at hn2
      subst hn2
      simp only [hfr] at cellsAt
      have HFT : Hid ((p.ln.getD i (0, [])).1 = fr ∧ (p.ln.getD i (0, [])).2 = ts) := ⟨hfr, hts⟩
      clear hrs hc hn hi' hB hsm hcq
      go_wp2
      refine Go.Pin.wp_region_hcls (fun Y => P2 q W nm (.slice (some ⟨g0, 0, none⟩) n0 (n0 + 6)) (.slice (some ⟨g1, 0, none⟩) n1 (n1 + 6)) (.slice (some ⟨b, o, none⟩) L cl) Y) 18 (by rfl) (by kernel_rfl) (HRS.out.below (drew_below (Below.refl _ _))).p2 ?_
      intro Sq fq hNq hRq hSq
      have z3 := fun x => (hRq x).c3
      have k0 := fun x => (cellsAt (hRq x)).1
      have k1 := fun x => (cellsAt (hRq x)).2
      have st0 : P2 q W nm (.slice (some ⟨g0, 0, none⟩) n0 (n0 + 6)) (.slice (some ⟨g1, 0, none⟩) n1 (n1 + 6)) (.slice (some ⟨b, o, none⟩) L cl) wr.drew := (HRS.out.below (drew_below (Below.refl _ _))).p2
      refine Go.Pin.takeQ 0 (by simp only [List.getElem?_toArray, List.getElem?_cons_zero, List.getElem?_cons_succ]; exact rfl) (by kernel_rfl) (by kernel_rfl) (by kernel_rfl) (by rfl) (fun _ _ d _ _ h => by cases d <;> exact h) (st0) (hSq).out (by kernel_rfl) ?_
      intro Kq hKq
      go_big_quiet_op
      go_big_quiet_on
      refine Go.Pin.takeQ 1 (by simp only [List.getElem?_toArray, List.getElem?_cons_zero, List.getElem?_cons_succ]; exact rfl) (by kernel_rfl) (by kernel_rfl) (by kernel_rfl) (by rfl) (fun _ _ d _ _ h => by cases d <;> exact h) (st0) (hSq).out (by kernel_rfl) ?_
      intro Kq hKq
      go_big_quiet_op
      go_big_quiet_on
      refine Go.Pin.takeQ 2 (by simp only [List.getElem?_toArray, List.getElem?_cons_zero, List.getElem?_cons_succ]; exact rfl) (by kernel_rfl) (by kernel_rfl) (by kernel_rfl) (by rfl) (fun _ _ d _ _ h => by cases d <;> exact h) (st0) (hSq).out (by kernel_rfl) ?_
      intro Kq hKq
      go_big_quiet_op
      go_big_quiet_on
      refine Go.Pin.takeQ 3 (by simp only [List.getElem?_toArray, List.getElem?_cons_zero, List.getElem?_cons_succ]; exact rfl) (by kernel_rfl) (by kernel_rfl) (by kernel_rfl) (by rfl) (fun _ _ d _ _ h => by cases d <;> exact h) (st0) (hSq).out (by kernel_rfl) ?_
      intro Kq hKq
      go_big_quiet_op
      go_big_quiet_on
      refine Go.Pin.takeQ 4 (by simp only [List.getElem?_toArray, List.getElem?_cons_zero, List.getElem?_cons_succ]; exact rfl) (by kernel_rfl) (by kernel_rfl) (by kernel_rfl) (by rfl) (fun _ _ d _ _ h => by cases d <;> exact h) (st0) (hSq).out (by kernel_rfl) ?_
      intro Kq hKq
      go_big_quiet_op
      go_big_quiet_on
      refine Go.Pin.takeQ 5 (by simp only [List.getElem?_toArray, List.getElem?_cons_zero, List.getElem?_cons_succ]; exact rfl) (by kernel_rfl) (by kernel_rfl) (by kernel_rfl) (by rfl) (fun _ _ d _ _ h => by cases d <;> exact h) (st0) (hSq).out (by kernel_rfl) ?_
      intro Kq hKq
      go_big_quiet_op
      go_big_quiet_on
      refine Go.Pin.takeQ 6 (by simp only [List.getElem?_toArray, List.getElem?_cons_zero, List.getElem?_cons_succ]; exact rfl) (by kernel_rfl) (by kernel_rfl) (by kernel_rfl) (by rfl) (fun _ _ d _ _ h => by cases d <;> exact h) (st0) (hSq).out (by kernel_rfl) ?_
      intro Kq hKq
      go_big_quiet_op
      go_big_quiet_on
      refine Go.Pin.takeQ 7 (by simp only [List.getElem?_toArray, List.getElem?_cons_zero, List.getElem?_cons_succ]; exact rfl) (by kernel_rfl) (by kernel_rfl) (by kernel_rfl) (by rfl) (fun _ _ d _ _ h => by cases d <;> exact h) (st0) (hSq).out (by kernel_rfl) ?_
      intro Kq hKq
      go_big_quiet_op
      go_big_quiet_on
      refine Go.Pin.takeQ 8 (by simp only [List.getElem?_toArray, List.getElem?_cons_zero, List.getElem?_cons_succ]; exact rfl) (by kernel_rfl) (by kernel_rfl) (by kernel_rfl) (by rfl) (fun _ _ d _ _ h => by cases d <;> exact h) (st0) (hSq).out (by kernel_rfl) ?_
      intro Kq hKq
      go_big_quiet_op
      go_big_quiet_on
      refine Go.Pin.takeQ 9 (by simp only [List.getElem?_toArray, List.getElem?_cons_zero, List.getElem?_cons_succ]; exact rfl) (by kernel_rfl) (by kernel_rfl) (by kernel_rfl) (by rfl) (fun _ _ d _ _ h => by cases d <;> exact h) (st0) (hSq).out (by kernel_rfl) ?_
      intro Kq hKq
      go_big_quiet_op
      go_big_quiet_on
      refine Go.Pin.takeQ 10 (by simp only [List.getElem?_toArray, List.getElem?_cons_zero, List.getElem?_cons_succ]; exact rfl) (by kernel_rfl) (by kernel_rfl) (by kernel_rfl) (by rfl) (fun _ _ d _ _ h => by cases d <;> exact h) (st0) (hSq).out (by kernel_rfl) ?_
      intro Kq hKq
      go_big_quiet_op
      go_big_quiet_on
      refine Go.Pin.takeQ 11 (by simp only [List.getElem?_toArray, List.getElem?_cons_zero, List.getElem?_cons_succ]; exact rfl) (by kernel_rfl) (by kernel_rfl) (by kernel_rfl) (by rfl) (fun _ _ d _ _ h => by cases d <;> exact h) (st0) (hSq).out (by kernel_rfl) ?_
      intro Kq hKq
      go_big_quiet_op
      go_big_quiet_on
      refine Go.Pin.takeQ 12 (by simp only [List.getElem?_toArray, List.getElem?_cons_zero, List.getElem?_cons_succ]; exact rfl) (by kernel_rfl) (by kernel_rfl) (by kernel_rfl) (by rfl) (fun _ _ d _ _ h => by cases d <;> exact h) (st0) (hSq).out (by kernel_rfl) ?_
      intro Kq hKq
      go_big_quiet_op
      go_big_quiet_on
      obtain ⟨wd, hwd⟩ : ∃ wd, wr.drew = wd := ⟨_, rfl⟩
      have HRD : Hid (RS q W nm (.slice (some ⟨g0, 0, none⟩) n0 (n0 + 6)) (.slice (some ⟨g1, 0, none⟩) n1 (n1 + 6)) (.slice (some ⟨b, o, none⟩) L cl) g N (lfs (p.ln.take i) B) ([(g0, p.b0), (g1, p.b1)] ++ lms (p.ln.take i) B) wd) := by rw [← hwd]; exact HRS.out.below (drew_below (Below.refl _ _))
      rw [hwd]
      have CW := HWD.out wd HRD.out.p2.old
      rw [hts] at CW
      refine Go.Pin.readyQ 13 (by simp only [List.getElem?_toArray, List.getElem?_cons_zero, List.getElem?_cons_succ]; exact rfl) (by kernel_rfl) (by kernel_rfl) ?_
      intro K hK
      refine wpCall (d := some 43) rfl rfl (args := #[.slice a2 ts.length c2]) (by simp only [List.map_toArray, List.map_cons, List.map_nil]; rfl) (fun _ => rfl) (CW.mono (R' := fun e w' => e = .returned (tokV wd.heap.size ts) ∧ w'.rangeAt wd.heap.size 0 ((ts ++ mks).map (Value.int .i64)) ∧ Below wd.heap.size wd w') (fun e w' h => h)) (fun w1 h1 => ?_)
      have st1 := (HRD.out.below h1.2).add (b := wd.heap.size) (C := ts) (Nat.ne_of_gt HRD.out.lt) (by have := HRD.out.p2.lt; omega) h1.1
      refine hK _ _ st1.p2 ?_
      simp only [Act.put, List.setIfInBounds_toArray, List.set_cons_zero, List.set_cons_succ]
      clear hK K CW
      refine Go.Pin.takeQ 14 (by simp only [List.getElem?_toArray, List.getElem?_cons_zero, List.getElem?_cons_succ]; exact rfl) (by kernel_rfl) (by kernel_rfl) (by kernel_rfl) (by rfl) (fun _ _ d _ _ h => by cases d <;> exact h) (st1.p2) (hSq).out (by kernel_rfl) ?_
      intro Kq hKq
      go_big_quiet_op
      go_big_quiet_on
      refine Go.Pin.readyQ 15 (by simp only [List.getElem?_toArray, List.getElem?_cons_zero, List.getElem?_cons_succ]; exact rfl) (by kernel_rfl) (by kernel_rfl) ?_
      intro K hK
      have st2 := st1.below ((Below.refl w1.heap.size w1).alloc (Nat.le_refl _) (.cells #[.int .i64 fr, tokV wd.heap.size ts] 58))
      have hrow : (w1.alloc (.cells #[.int .i64 fr, tokV wd.heap.size ts] 58)).heap[w1.heap.size]? = some (.cells #[.int .i64 fr, tokV wd.heap.size ts] 58) := heap_alloc_new _ _
      refine wpRun (d := some 45) (v := .slice (some ⟨w1.heap.size, 0, none⟩) 1 1) (w' := w1.alloc (.cells #[.int .i64 fr, tokV wd.heap.size ts] 58)) rfl (by unfold execOp; go_simp) (hK _ _ st2.p2 ?_)
      simp only [Act.put, List.setIfInBounds_toArray, List.set_cons_zero, List.set_cons_succ]
      clear hK K
      have happ := st2.app (by rw [lfs_len _ (by have := HIB.out; have := HLN.out; omega) HIB.out.2]; have := HLN.out; have := HLT.out; omega) w1.heap.size fr (tokV wd.heap.size ts) rfl hrow
      rw [lfs_len _ (by have := HIB.out; have := HLN.out; omega) HIB.out.2] at happ
      generalize hw2 : w1.alloc (.cells #[.int .i64 fr, tokV wd.heap.size ts] 58) = w2 at *
      refine Go.Pin.readyQ 16 (by simp only [List.getElem?_toArray, List.getElem?_cons_zero, List.getElem?_cons_succ]; exact rfl) (by kernel_rfl) (by kernel_rfl) ?_
      intro K hK
      refine wpApp (d := some 46) (v := .slice (some ⟨g, 0, none⟩) i N) (u := .slice (some ⟨w1.heap.size, 0, none⟩) 1 1) (R := fun v' w' => v' = .slice (some ⟨g, 0, none⟩) (i + 1) N ∧ RS q W nm (.slice (some ⟨g0, 0, none⟩) n0 (n0 + 6)) (.slice (some ⟨g1, 0, none⟩) n1 (n1 + 6)) (.slice (some ⟨b, o, none⟩) L cl) g N (lfs (p.ln.take i) B ++ [(fr, tokV wd.heap.size ts)]) ([(g0, p.b0), (g1, p.b1)] ++ lms (p.ln.take i) B ++ [(wd.heap.size, ts)]) w') rfl rfl rfl rfl (fun ty => by obtain ⟨w', h1, h2⟩ := happ ty; exact ⟨_, w', h1, rfl, h2⟩) (fun v' w3 h3 => ?_)
      obtain ⟨rfl, h3⟩ := h3
      refine hK _ _ h3.p2 ?_
      simp only [Act.put, List.setIfInBounds_toArray, List.set_cons_zero, List.set_cons_succ]
      clear hK K
      refine Go.Pin.readyQ 17 (by simp only [List.getElem?_toArray, List.getElem?_cons_zero, List.getElem?_cons_succ]; exact rfl) (by kernel_rfl) (by kernel_rfl) ?_
      intro K hK
      refine wpRun (d := some 3) (v := .slice (some ⟨g, 0, none⟩) (i + 1) N) (w' := w3) rfl (by unfold execOp; go_simp) (hK _ _ h3.p2 ?_)
      simp only [Act.put, List.setIfInBounds_toArray, List.set_cons_zero, List.set_cons_succ]
      clear hK K
      refine wpAnyH_done (by kernel_rfl) ?_ _
      have H3 : Hid (RS q W nm (.slice (some ⟨g0, 0, none⟩) n0 (n0 + 6)) (.slice (some ⟨g1, 0, none⟩) n1 (n1 + 6)) (.slice (some ⟨b, o, none⟩) L cl) g N (lfs (p.ln.take (i + 1)) (B ++ [wd.heap.size])) ([(g0, p.b0), (g1, p.b1)] ++ lms (p.ln.take (i + 1)) (B ++ [wd.heap.size])) w3) := by
        rw [lfs_snoc p.ln (by have := HLT.out; have := HLN.out; omega) HIB.out.2, lms_snoc p.ln (by have := HLT.out; have := HLN.out; omega) HIB.out.2, HFT.out.1, HFT.out.2, ← List.append_assoc]
        exact h3
      clear h3 happ hrow st2 st1 st0 hSq hRq hNq z3 k0 k1 hw2 h1
      go_wp2
      exact ⟨⟨i + 1, B ++ [wd.heap.size], HLT.out, by rw [List.length_append, HIB.out.2]; rfl, congrArg (Value.int .i64) (wrapS HLT.out (by have := HLN.out; omega)), rfl, H3.out⟩, measS HLT.out (by have := HLN.out; omega)⟩
    · have b1 : ¬ (i : Int) < (L : Int) := by omega
      obtain rfl : i = L := by omega
      have htk : p.ln.take i = p.ln := List.take_of_length_le (by have := HLN.out; omega)
      rw [htk] at hrs
      have hll : (lfs p.ln B).length = i := by have := lfs_len p.ln (i := i) (B := B) (by have := HLN.out; omega) hB; rw [htk] at this; exact this
      have HR6 : Hid (RS q W nm (.slice (some ⟨g0, 0, none⟩) n0 (n0 + 6)) (.slice (some ⟨g1, 0, none⟩) n1 (n1 + 6)) (.slice al i cl) g N (lfs p.ln B ++ lmk 0) ([(g0, p.b0), (g1, p.b1)] ++ lms p.ln B) wr) := by
        rw [show lmk 0 = [] from rfl, List.append_nil]
        exact hrs
      have HLL : Hid ((lfs p.ln B).length = i ∧ B.length = i) := ⟨hll, hB⟩
      clear hrs HRS hi' hB hlt htk hll
      go_wp2
      go_loopw [3, 5] (fun v3 v5 wr => ∃ k : Nat, k ≤ 6 ∧ v5 = .int .i64 k ∧ v3 = .slice (some ⟨g, 0, none⟩) (i + k) N ∧ RS q W nm (.slice (some ⟨g0, 0, none⟩) n0 (n0 + 6)) (.slice (some ⟨g1, 0, none⟩) n1 (n1 + 6)) (.slice al i cl) g N (lfs p.ln B ++ lmk k) ([(g0, p.b0), (g1, p.b1)] ++ lms p.ln B) wr) (fun _ v _ => 6 - (intOf v).toNat)
      case atStart => exact ⟨0, Nat.zero_le _, rfl, rfl, HR6.out⟩
      case round =>
        obtain ⟨k, hk, rfl, rfl, hrs⟩ := hrel
        have HRS : Hid (RS q W nm (.slice (some ⟨g0, 0, none⟩) n0 (n0 + 6)) (.slice (some ⟨g1, 0, none⟩) n1 (n1 + 6)) (.slice al i cl) g N (lfs p.ln B ++ lmk k) ([(g0, p.b0), (g1, p.b1)] ++ lms p.ln B) wr) := hrs
        by_cases hlt : k < 6
        · have b2 : (k : Int) < 6 := by omega
          have hw8 : wrap64 (800 + (k : Int)) = 800 + (k : Int) := IntWalk.wrap64_in _ ⟨by omega, by omega⟩
          have st2 := hrs.below ((Below.refl wr.heap.size wr).alloc (Nat.le_refl _) (.cells #[.int .i64 (800 + (k : Int)), .slice none 0 0] 58))
          have hrow : (wr.alloc (.cells #[.int .i64 (800 + (k : Int)), .slice none 0 0] 58)).heap[wr.heap.size]? = some (.cells #[.int .i64 (800 + (k : Int)), .slice none 0 0] 58) := heap_alloc_new _ _
          have hlen : (lfs p.ln B ++ lmk k).length = i + k := by rw [List.length_append, HLL.out.1]; simp [lmk]
          have happ := st2.app (by rw [hlen]; have := HLN.out; omega) wr.heap.size (800 + (k : Int)) (.slice none 0 0) rfl hrow
          rw [hlen, List.append_assoc, ← lmk_snoc] at happ
          have HAP : Hid (∀ ty, ∃ v' w', (Builtin.append_ #[24, 24] ty #[.slice (some ⟨g, 0, none⟩) (i + k) N, .slice (some ⟨wr.heap.size, 0, none⟩) 1 1]).run Tryz.prog (wr.alloc (.cells #[.int .i64 (800 + (k : Int)), .slice none 0 0] 58)) = .ok v' w' ∧ (v' = .slice (some ⟨g, 0, none⟩) (i + (k + 1)) N ∧ RS q W nm (.slice (some ⟨g0, 0, none⟩) n0 (n0 + 6)) (.slice (some ⟨g1, 0, none⟩) n1 (n1 + 6)) (.slice al i cl) g N (lfs p.ln B ++ lmk (k + 1)) ([(g0, p.b0), (g1, p.b1)] ++ lms p.ln B) w')) := fun ty => by
            obtain ⟨w', h1, h2⟩ := happ ty
            exact ⟨_, w', h1, rfl, h2⟩
          clear happ hrow st2 hrs hlen
          go_wp2_with (at_builtin; go_loud (refine wpList_app _ rfl (.tmp 51) (.tmp 55) 24 24 rfl _ _ rfl rfl HAP.out ?_; rintro v' w' ⟨rfl, h⟩; have H7 : Hid (RS q W nm (.slice (some ⟨g0, 0, none⟩) n0 (n0 + 6)) (.slice (some ⟨g1, 0, none⟩) n1 (n1 + 6)) (.slice al i cl) g N (lfs p.ln B ++ lmk (k + 1)) ([(g0, p.b0), (g1, p.b1)] ++ lms p.ln B) w') := h; clear h))
          exact ⟨⟨k + 1, hlt, congrArg (Value.int .i64) (by omega), rfl, H7.out⟩, by show 6 - ((k : Int) + 1).toNat < 6 - ((k : Int)).toNat; omega⟩
        · have b2 : ¬ (k : Int) < 6 := by omega
          obtain rfl : k = 6 := by omega
          have bn : (i : Int) ≤ (N : Int) := by have := HLN.out; omega
          have hn6 : i + 6 = N := HLN.out.1
          have c3 := hrs.p2.c3
          have f3 := hrs.p2.fz 3
          clear hrs
          simp only [hn6]
          go_upto_region 13 with fail
          have hp8 := HRS.out.p2.set3 (.slice (some ⟨g, 0, none⟩) i N)
          have hot := (HRS.out.p2.sets 3 (.slice (some ⟨g, 0, none⟩) i N)).2.2.2
          obtain ⟨W8, hW8⟩ : ∃ W8, wr.setCell ⟨q, 3, none⟩ (.slice (some ⟨g, 0, none⟩) i N) = W8 := ⟨_, rfl⟩
          rw [hW8] at hp8 hot
          simp only [hW8]
          have HP8 : Hid (P2 q W nm (.slice (some ⟨g0, 0, none⟩) n0 (n0 + 6)) (.slice (some ⟨g1, 0, none⟩) n1 (n1 + 6)) (.slice (some ⟨g, 0, none⟩) i N) W8) := hp8
          have HOT : Hid (∀ b, b ≠ q → W8.heap[b]? = wr.heap[b]?) := hot
          have c0 := hp8.c0
          have c1 := hp8.c1
          have c2 := hp8.c2
          have c3 := hp8.c3
          have r2 := hp8.row2
          clear hp8 hot hW8
          go_wp2_with (with_reducible refine at_list ?_; refine wpList_store_row rfl 26 (.tmp 2) (.tmp 63) rfl (q + 1) #[.string nm, .slice (some ⟨g0, 0, none⟩) n0 (n0 + 6), .slice (some ⟨g1, 0, none⟩) n1 (n1 + 6), .slice (some ⟨g, 0, none⟩) i N] rfl rfl 26 zPat r2 (ip4 _ _ _ _) rfl (by simp [Value.oneCell']) ?_)
          have hb9 : Below q W (W8.setRow (q + 1) #[.string nm, .slice (some ⟨g0, 0, none⟩) n0 (n0 + 6), .slice (some ⟨g1, 0, none⟩) n1 (n1 + 6), .slice (some ⟨g, 0, none⟩) i N]) := below_setRow HP8.out.old _ (by omega) _
          have hot9 : ∀ b, b ≠ q → b ≠ q + 1 → (W8.setRow (q + 1) #[.string nm, .slice (some ⟨g0, 0, none⟩) n0 (n0 + 6), .slice (some ⟨g1, 0, none⟩) n1 (n1 + 6), .slice (some ⟨g, 0, none⟩) i N]).heap[b]? = wr.heap[b]? := fun b h1 h2 => by rw [setRow_other _ _ _ _ h2]; exact HOT.out b h1
          have e := HS.out
          have hmm := HRS.out.ge
          try simp only [Exit.inBlock, Exit.then]
          refine bodyPost_ret (v := .agg #[.string nm, .slice (some ⟨g0, 0, none⟩) n0 (n0 + 6), .slice (some ⟨g1, 0, none⟩) n1 (n1 + 6), .slice (some ⟨g, 0, none⟩) i N]) ?_ rfl ⟨g0, g1, g, B, by rw [HLL.out.2, e.2.2.2.2], ?_, ?_, ?_, hb9⟩
          · exact results_cell_row (P := Tryz.prog) (fn := Tryz.f11) (p := 2) (ty := 26) rfl _ _ (q + 1) 26 #[.string nm, .slice (some ⟨g0, 0, none⟩) n0 (n0 + 6), .slice (some ⟨g1, 0, none⟩) n1 (n1 + 6), .slice (some ⟨g, 0, none⟩) i N] (0, 0) _ rfl (setRow_heap _ _ _ _ 26 _ r2) Tryz.underlying26 rfl (ip4 _ _ _ _)
          · rw [e.2.1, e.2.2.2.2, hn6]; simp only [tokV, e.2.2.1, e.2.2.2.1]
          · rw [e.2.2.2.2, hn6]
            have ho := HRS.out.own
            have hlen : (lfs p.ln B ++ lmk 6).length = N := by rw [List.length_append, HLL.out.1, ← hn6]; rfl
            rw [hlen] at ho
            refine ⟨ho.1, ?_⟩
            rcases ho.2 with h0 | ⟨g', cap, cur, e', h1, hg, hr⟩
            · exact .inl h0
            · have hgq := HRS.out.gt
              injection e' with e1 e2 e3
              have e1' := e1
              injection e1' with e1'
              injection e1' with e1'
              subst e1'
              exact .inr ⟨g, cap, cur, by rw [e3], h1, (hot9 g (by omega) (by omega)).trans hg, hr⟩
          · exact fun m hm => ⟨(HRS.out.mm m hm).1, range_blk (HRS.out.mm m hm).2 (hot9 _ (by have := hmm m hm; omega) (by have := hmm m hm; omega))⟩
end Go.Proofs.YtmlcgcmoioekpaaGreatDoor
