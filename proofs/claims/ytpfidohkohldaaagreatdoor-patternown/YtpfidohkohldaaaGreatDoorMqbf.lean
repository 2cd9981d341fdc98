import Derived.Test.YtpfidohkohldaaaGreatDoorMqbe
import Derived.Test.YtpfidohkohldaaaGreatDoorMqau
import Derived.Test.YtpfidohkohldaaaGreatDoorMqaa
namespace Go.Proofs.YtpfidohkohldaaaGreatDoor
set_option linter.unusedSimpArgs false
set_option linter.unusedVariables false
set_option maxRecDepth 100000
open Go.ChangeShapes Go.WideShapes Go.ChangeAt Go.RowKit Go.Pin Go.Pat
abbrev zPat : Array Value := #[.string ⟨#[]⟩, .slice none 0 0, .slice none 0 0, .slice none 0 0]
/-- roomy's two boxes -/
structure P2 (q : Nat) (w : World) (nm : ByteArray) (v0 v1 vl : Value) (wr : World) : Prop where
  old : Below q w wr
  lt : q + 1 < wr.heap.size
  row : wr.heap[q]? = some (.cells #[.string nm, v0, v1, vl] 26)
  row2 : wr.heap[q + 1]? = some (.cells zPat 26)
section
variable {q : Nat} {w wr w' : World} {nm : ByteArray} {v0 v1 vl : Value}
theorem P2.c0 (h : P2 q w nm v0 v1 vl wr) : wr.cell? ⟨q, 0, none⟩ = some (.string nm) := by rw [cell_of_row _ _ _ _ _ _ h.row]; rfl
theorem P2.c1 (h : P2 q w nm v0 v1 vl wr) : wr.cell? ⟨q, 1, none⟩ = some v0 := by rw [cell_of_row _ _ _ _ _ _ h.row]; rfl
theorem P2.c2 (h : P2 q w nm v0 v1 vl wr) : wr.cell? ⟨q, 2, none⟩ = some v1 := by rw [cell_of_row _ _ _ _ _ _ h.row]; rfl
theorem P2.c3 (h : P2 q w nm v0 v1 vl wr) : wr.cell? ⟨q, 3, none⟩ = some vl := by rw [cell_of_row _ _ _ _ _ _ h.row]; rfl
theorem P2.below (h : P2 q w nm v0 v1 vl wr) (hb : Below wr.heap.size wr w') : P2 q w nm v0 v1 vl w' :=
  ⟨h.old.trans (hb.mono (by have := h.lt; omega)), Nat.lt_of_lt_of_le h.lt hb.size, (hb.block _ (by have := h.lt; omega)).trans h.row, (hb.block _ h.lt).trans h.row2⟩
/-- another block of its own is written -/
theorem P2.grown (h : P2 q w nm v0 v1 vl wr) {g : Nat} (hg : wr.grownBy w' (some g)) (h2 : q + 2 ≤ g) : P2 q w nm v0 v1 vl w' :=
  ⟨h.old.grown hg (by have := h.lt; omega) (fun k hk => by injection hk with hk; omega), Nat.lt_of_lt_of_le h.lt hg.size, (hg.block _ (by have := h.lt; omega) (fun e => by injection e with e; omega)).trans h.row, (hg.block _ h.lt (fun e => by injection e with e; omega)).trans h.row2⟩
end
section
variable {q : Nat} {w wr w' : World} {nm : ByteArray} {v0 v1 vl : Value}
theorem P2.fz (h : P2 q w nm v0 v1 vl wr) (j : Nat) : wr.frozen? ⟨q, j, none⟩ = false := frozen_of_row _ _ _ _ _ h.row
theorem P2.sets (h : P2 q w nm v0 v1 vl wr) (j : Nat) (u : Value) : Below q w (wr.setCell ⟨q, j, none⟩ u) ∧ q + 1 < (wr.setCell ⟨q, j, none⟩ u).heap.size ∧ (wr.setCell ⟨q, j, none⟩ u).heap[q + 1]? = some (.cells zPat 26) ∧ ∀ b, b ≠ q → (wr.setCell ⟨q, j, none⟩ u).heap[b]? = wr.heap[b]? := by
  have hb := (But.refl (fun k => k = q) wr).setCell (p := ⟨q, j, none⟩) rfl u
  have ho : ∀ b, b ≠ q → (wr.setCell ⟨q, j, none⟩ u).heap[b]? = wr.heap[b]? := fun b hne => heap_setCell_other _ _ _ _ hne
  refine ⟨⟨hb.os.trans h.old.os, hb.tape.trans h.old.tape, hb.output.trans h.old.output, Nat.le_trans h.old.size (Nat.le_of_eq hb.size.symm), fun k hk => ?_⟩, ?_, ?_, ho⟩
  · rw [ho k (by omega)]; exact h.old.block k hk
  · rw [hb.size]; exact h.lt
  · rw [ho _ (by omega)]; exact h.row2
theorem P2.set1 (h : P2 q w nm v0 v1 vl wr) (u : Value) : P2 q w nm u v1 vl (wr.setCell ⟨q, 1, none⟩ u) :=
  ⟨(h.sets 1 u).1, (h.sets 1 u).2.1, by rw [heap_setCell_same _ _ _ _ _ _ h.row]; rfl, (h.sets 1 u).2.2.1⟩
theorem P2.set2 (h : P2 q w nm v0 v1 vl wr) (u : Value) : P2 q w nm v0 u vl (wr.setCell ⟨q, 2, none⟩ u) :=
  ⟨(h.sets 2 u).1, (h.sets 2 u).2.1, by rw [heap_setCell_same _ _ _ _ _ _ h.row]; rfl, (h.sets 2 u).2.2.1⟩
theorem P2.set3 (h : P2 q w nm v0 v1 vl wr) (u : Value) : P2 q w nm v0 v1 u (wr.setCell ⟨q, 3, none⟩ u) :=
  ⟨(h.sets 3 u).1, (h.sets 3 u).2.1, by rw [heap_setCell_same _ _ _ _ _ _ h.row]; rfl, (h.sets 3 u).2.2.1⟩
theorem p2_start (W : World) (nm : ByteArray) (v0 v1 vl : Value) : P2 W.heap.size W nm v0 v1 vl ((W.alloc (.cells #[.string nm, v0, v1, vl] 26)).alloc (.cells zPat 26)) := by
  refine ⟨((Below.refl _ _).alloc (Nat.le_refl _) _).alloc (by simp) _, by simp [size_alloc], ?_, ?_⟩
  · rw [heap_alloc_any, if_neg (by simp [size_alloc])]; exact heap_alloc_new _ _
  · have := heap_alloc_new (W.alloc (.cells #[.string nm, v0, v1, vl] 26)) (.cells zPat 26)
    rw [size_alloc] at this
    exact this
end
theorem take_snoc (L : List Ln) {i : Nat} (h : i < L.length) : L.take (i + 1) = L.take i ++ [L.getD i (0, [])] := by
  rw [List.take_add_one, List.getElem?_eq_getElem h]; simp [List.getD, h]
theorem ip4 (a b c d : Value) : (Tryz.prog.info? 26).map (·.size) = some (#[a, b, c, d] : Array Value).size := by kernel_rfl
section
variable {q : Nat} {w wr w' : World} {nm : ByteArray} {v0 v1 vl : Value}
theorem P2.grownO (h : P2 q w nm v0 v1 vl wr) {row : Option Nat} (hg : wr.grownBy w' row) (h2 : ∀ k, row = some k → q + 2 ≤ k) : P2 q w nm v0 v1 vl w' :=
  ⟨h.old.grown hg (by have := h.lt; omega) (fun k hk => by have := h2 k hk; omega), Nat.lt_of_lt_of_le h.lt hg.size, (hg.block _ (by have := h.lt; omega) (fun e => by have := h2 _ e.symm; omega)).trans h.row, (hg.block _ h.lt (fun e => by have := h2 _ e.symm; omega)).trans h.row2⟩
end
/-- Copy's state: both boxes, the lists of what is known ahead that are done (hd), the lines that are done -/
structure CS (q : Nat) (W : World) (nm : ByteArray) (v0 v1 vl l : Value) (hd fs : List Lv) (wr : World) : Prop where
  p2 : P2 q W nm v0 v1 vl wr
  own : wr.ownsRow (q + 2) 43 2 l fs.length (lvc fs)
  os : OS (q + 2) l.ownBlock.toList (hd ++ fs) wr
section
variable {q : Nat} {W wr w' : World} {nm : ByteArray} {v0 v1 vl l : Value} {hd fs : List Lv}
theorem CS.below (h : CS q W nm v0 v1 vl l hd fs wr) (hb : Below wr.heap.size wr w') : CS q W nm v0 v1 vl l hd fs w' := ⟨h.p2.below hb, owns_below hb h.own, h.os.below hb⟩
theorem CS.hq (h : CS q W nm v0 v1 vl l hd fs wr) : q + 2 ≤ wr.heap.size := h.p2.lt
/-- an empty list, and behind it what is read -/
theorem CS.copy (h : CS q W nm v0 v1 vl l hd fs wr) {u : Value} {C : List Int} (hu : RdN wr u C) (hC : C.length ≤ 100000) :
    ∀ ty, ∃ v' w', (Builtin.append_ #[22, 22] ty #[.slice (some ⟨wr.heap.size, 0, none⟩) 0 0, u]).run Tryz.prog (wr.alloc (.cells #[] 3)) = .ok v' w' ∧ (w'.ownsRow (q + 2) 3 1 v' C.length (C.map (Value.int .i64)) ∧ CS q W nm v0 v1 vl l hd fs w' ∧ (∀ k, v'.ownBlock = some k → wr.heap.size ≤ k) ∧ Below wr.heap.size wr w') := fun ty => by
  have hal := (Below.refl wr.heap.size wr).alloc (Nat.le_refl _) (.cells #[] 3)
  have he := own_empty wr (q + 2) h.hq
  obtain ⟨v', w', hr, h2, h3, h4⟩ := own_appN he (hu.below hal) (by omega) (by rw [size_alloc]; have := h.hq; omega) ty
  have hrow : ∀ k, (Value.slice (some ⟨wr.heap.size, 0, none⟩) 0 0).ownBlock = some k → k = wr.heap.size := fun k hk => by injection hk with hk; exact hk.symm
  have ha := h.below hal
  refine ⟨v', w', hr, by simpa using h2, ⟨ha.p2.grownO h3 (fun k hk => by rw [hrow k hk]; exact h.hq), own_keep ha.own (fun g hg => h3.block g (ha.own.lt g hg).2 (fun e => ?_)), ha.os.grow h3 (fun k hk hm => ?_)⟩, fun k hk => ?_, ?_⟩
  · have := (h.own.lt g hg).2
    have := hrow g e.symm
    omega
  · have := (h.os.lt k hm).2
    have := hrow k hk
    omega
  · rcases h4 with h4 | h4
    · rw [h4] at hk; rw [hrow k hk]; exact Nat.le_refl _
    · rw [h4, size_alloc] at hk; injection hk with hk; omega
  · exact hal.grown h3 (by rw [size_alloc]; omega) (fun k hk => by rw [hrow k hk]; exact Nat.le_refl _)
theorem CS.sets (h : CS q W nm v0 v1 vl l hd fs wr) {v : Value} {C : List Int} (hv : wr.ownsRow (q + 2) 3 1 v C.length (C.map (Value.int .i64))) (hn : ∀ k, v.ownBlock = some k → k ∉ l.ownBlock.toList ∧ k ∉ obs (hd ++ fs)) (f : Int) (hfs : fs = []) (j : Nat) :
    (wr.setCell ⟨q, j, none⟩ v).ownsRow (q + 2) 43 2 l fs.length (lvc fs) ∧ OS (q + 2) l.ownBlock.toList (hd ++ [(f, v, C)] ++ fs) (wr.setCell ⟨q, j, none⟩ v) := by
  have ho := (h.p2.sets j v).2.2.2
  subst hfs
  refine ⟨own_keep h.own (fun g hg => ho g (by have := (h.own.lt g hg).1; omega)), ?_⟩
  rw [List.append_nil] at hn ⊢
  have hos := h.os
  rw [List.append_nil] at hos
  exact (hos.snoc hv hn).keep (fun k hk => ho k (by have := ((hos.snoc (f := f) hv hn).lt k hk).1; omega))
theorem CS.app (h : CS q W nm v0 v1 vl l hd fs wr) (hn1 : fs.length ≤ 100000) {u : Value} {C : List Int} {f : Int} {a : Nat} (hv : wr.ownsRow (q + 2) 3 1 u C.length (C.map (Value.int .i64))) (hn : ∀ k, u.ownBlock = some k → k ∉ l.ownBlock.toList ∧ k ∉ obs (hd ++ fs)) (hc : wr.heap[a]? = some (.cells #[.int .i64 f, u] 43)) :
    ∀ ty, ∃ v' w', (Builtin.append_ #[24, 24] ty #[l, .slice (some ⟨a, 0, none⟩) 1 1]).run Tryz.prog wr = .ok v' w' ∧ CS q W nm v0 v1 vl v' hd (fs ++ [(f, u, C)]) w' := fun ty => by
  have hu1 : u.oneCell' = true := by obtain ⟨a, c, rfl⟩ := own_slice' hv; rfl
  obtain ⟨v', w', hr, h2, h3, h4⟩ := own_app Tryz.underlying24 parts_line rfl (by decide) h.own (news := [.int .i64 f, u]) hc rfl (fun x hx => by simp at hx; rcases hx with rfl | rfl; rfl; exact hu1) (by omega) (by omega) h.hq ty
  have hos : OS (q + 2) l.ownBlock.toList (hd ++ (fs ++ [(f, u, C)])) wr := by
    have := h.os.snoc (f := f) hv hn
    rwa [List.append_assoc] at this
  have hnot : ∀ k, l.ownBlock = some k → k ∉ obs (hd ++ (fs ++ [(f, u, C)])) := fun k hk hm => by
    have := (List.nodup_append.1 hos.nd).2.2 k (by rw [hk]; simp) k hm
    exact this rfl
  refine ⟨v', w', hr, h.p2.grownO h3 (fun k hk => (h.own.lt k hk).1), ?_, (hos.grow h3 hnot).ahead (by cases v'.ownBlock <;> simp) (fun k hk hm => ?_)⟩
  · rw [lvc_snoc, List.length_append]; exact h2
  · rcases h4 with h4 | h4
    · rw [h4] at hk
      exact hnot k (by cases e : l.ownBlock with | none => rw [e] at hk; simp at hk | some x => rw [e] at hk; simp at hk; rw [hk]) hm
    · rw [h4] at hk
      simp at hk
      have := (hos.lt k hm).2
      omega
end
/-- what copied answers -/
def CpP (p : Pt) (q : Nat) (W : World) (e : Ending) (w' : World) : Prop := ∃ (v0 v1 l : Value) (fs : List Lv), e = .returned (.agg #[.string p.nm, v0, v1, l]) ∧ lvl fs = p.ln ∧ w'.ownsRow (q + 2) 43 2 l fs.length (lvc fs) ∧ OS (q + 2) l.ownBlock.toList ((0, v0, p.b0) :: (1, v1, p.b1) :: fs) w' ∧ Below q W w'
set_option maxRecDepth 100000 in
set_option maxHeartbeats 8000000 in
theorem copied_any (v : Value) (p : Pt) (W : World) (hR : RdP W v p) (h0l : p.b0.length ≤ 100000) (h1l : p.b1.length ≤ 100000) (hll : p.ln.length ≤ 100000) (htl : ∀ x ∈ p.ln, x.2.length ≤ 100000) :
    Calls Tryz.prog 6 #[v] W fun e w' => CpP p W.heap.size W e w' := by
  obtain ⟨v0, v1, vl, rfl, h0, h1, hl⟩ := hR
  obtain ⟨a0, p0, rfl, -, z0, -⟩ := id h0
  obtain ⟨a1, p1, rfl, -, z1, -⟩ := id h1
  obtain ⟨al, cl, rfl, -, zl, -⟩ := id hl
  have hst := p2_start W p.nm (.slice a0 p.b0.length p0) (.slice a1 p.b1.length p1) (.slice al p.ln.length cl)
  obtain ⟨W0, hW0⟩ : ∃ W0, (W.alloc (.cells #[.string p.nm, .slice a0 p.b0.length p0, .slice a1 p.b1.length p1, .slice al p.ln.length cl] 26)).alloc (.cells #[.string ⟨#[]⟩, .slice none 0 0, .slice none 0 0, .slice none 0 0] 26) = W0 := ⟨_, rfl⟩
  rw [hW0] at hst
  have hH0 := fun Y (hY : Below W.heap.size W Y) => h0.below hY
  have hH1 := fun Y (hY : Below W.heap.size W Y) => h1.below hY
  have hHL := fun Y (hY : Below W.heap.size W Y) => hl.below hY
  obtain ⟨q, hq⟩ : ∃ q, W.heap.size = q := ⟨_, rfl⟩
  obtain ⟨nm, hnm⟩ : ∃ nm, p.nm = nm := ⟨_, rfl⟩
  obtain ⟨n0, hn0⟩ : ∃ n0, p.b0.length = n0 := ⟨_, rfl⟩
  obtain ⟨n1, hn1⟩ : ∃ n1, p.b1.length = n1 := ⟨_, rfl⟩
  obtain ⟨L, hLn⟩ : ∃ L, p.ln.length = L := ⟨_, rfl⟩
  simp only [hq, hnm, hn0, hn1, hLn] at hst hH0 hH1 hHL z0 z1 zl hW0 hll ⊢
  have hsz : (W.alloc (.cells #[.string nm, .slice a0 n0 p0, .slice a1 n1 p1, .slice al L cl] 26)).heap.size = q + 1 := by rw [size_alloc, hq]
  have HC0 : Hid (CS q W nm (.slice a0 n0 p0) (.slice a1 n1 p1) (.slice al L cl) (.slice none 0 0) [] [] W0) := ⟨hst, own_nil0 _ _ _ _, os_nil _ _⟩
  have HHL : Hid _ := hHL
  have HH0 : Hid _ := hH0
  have HH1 : Hid _ := hH1
  have HE : Hid (p.nm = nm ∧ p.b0.length = n0 ∧ p.b1.length = n1 ∧ p.ln.length = L) := ⟨hnm, hn0, hn1, hLn⟩
  have HS : Hid (p.b0.length ≤ 100000 ∧ p.b1.length ≤ 100000 ∧ L ≤ 100000 ∧ ∀ x ∈ p.ln, x.2.length ≤ 100000) := ⟨h0l, h1l, hll, htl⟩
  clear hst hH0 hH1 hHL h0 h1 hl hnm hn0 hn1 hLn h0l h1l htl
  go_enter Tryz.func6, Tryz.ntmps6
  go_upto_region 1 with (fail)
  have hC := HC0.out
  have c1 := (hC.p2.below ((Below.refl W0.heap.size W0).alloc (Nat.le_refl _) (.cells #[] 3))).c1
  have HAP : Hid _ := hC.copy (HH0.out W0 hC.p2.old) HS.out.1
  clear hC
  go_upto_region 2 with (at_builtin; go_loud (refine wpList_app _ rfl (.tmp 5) (.tmp 8) 22 22 rfl _ _ rfl rfl HAP.out ?_; rintro v' w3 ⟨h1, h2, h3, -⟩; obtain ⟨an, cn, rfl⟩ := own_slice' h1; have e7 := h2.p2.c1; have f7 := h2.p2.fz 1; have H7 : Hid (w3.ownsRow (q + 2) 3 1 (.slice an p.b0.length cn) p.b0.length (p.b0.map (Value.int .i64)) ∧ CS q W nm (.slice a0 n0 p0) (.slice a1 n1 p1) (.slice al L cl) (.slice none 0 0) [] [] w3) := ⟨h1, h2⟩; clear h1 h2 h3))
  have hs7 := H7.out.2.sets H7.out.1 (fun k _ => ⟨by simp [Value.ownBlock], by simp [obs]⟩) 0 rfl 1
  have hC : CS q W nm (.slice an p.b0.length cn) (.slice a1 n1 p1) (.slice al L cl) (.slice none 0 0) [(0, .slice an p.b0.length cn, p.b0)] [] (w3.setCell ⟨q, 1, none⟩ (.slice an p.b0.length cn)) := ⟨H7.out.2.p2.set1 _, hs7.1, hs7.2⟩
  obtain ⟨W4, hW4⟩ : ∃ W4, w3.setCell ⟨q, 1, none⟩ (.slice an p.b0.length cn) = W4 := ⟨_, rfl⟩
  rw [hW4] at hC ⊢
  obtain ⟨u0, hu0⟩ : ∃ u0, Value.slice an p.b0.length cn = u0 := ⟨_, rfl⟩
  rw [hu0] at hC
  clear hW4 hs7 H7 e7 f7 c1 HAP HC0 hu0
  have c2 := (hC.p2.below ((Below.refl W4.heap.size W4).alloc (Nat.le_refl _) (.cells #[] 3))).c2
  have HCC : Hid (CS q W nm u0 (.slice a1 n1 p1) (.slice al L cl) (.slice none 0 0) [(0, u0, p.b0)] [] W4) := hC
  have HAP : Hid _ := hC.copy (HH1.out W4 hC.p2.old) HS.out.2.1
  clear hC
  go_upto_region 3 with (at_builtin; go_loud (refine wpList_app _ rfl (.tmp 12) (.tmp 15) 22 22 rfl _ _ rfl rfl HAP.out ?_; rintro v' w5 ⟨h1, h2, h3, -⟩; obtain ⟨an2, cn2, rfl⟩ := own_slice' h1; have e7 := h2.p2.c2; have f7 := h2.p2.fz 2; have H7 : Hid (w5.ownsRow (q + 2) 3 1 (.slice an2 p.b1.length cn2) p.b1.length (p.b1.map (Value.int .i64)) ∧ CS q W nm u0 (.slice a1 n1 p1) (.slice al L cl) (.slice none 0 0) [(0, u0, p.b0)] [] w5 ∧ ∀ k, (Value.slice an2 p.b1.length cn2).ownBlock = some k → W4.heap.size ≤ k) := ⟨h1, h2, h3⟩; clear h1 h2 h3))
  have hs7 := H7.out.2.1.sets H7.out.1 (fun k hk => ⟨by simp [Value.ownBlock], fun hm => by have := (HCC.out.os.lt k hm).2; have := H7.out.2.2 k hk; omega⟩) 1 rfl 2
  have hC : CS q W nm u0 (.slice an2 p.b1.length cn2) (.slice al L cl) (.slice none 0 0) ([(0, u0, p.b0)] ++ [(1, .slice an2 p.b1.length cn2, p.b1)]) [] (w5.setCell ⟨q, 2, none⟩ (.slice an2 p.b1.length cn2)) := ⟨H7.out.2.1.p2.set2 _, hs7.1, hs7.2⟩
  obtain ⟨wr, hW6⟩ : ∃ wr, w5.setCell ⟨q, 2, none⟩ (.slice an2 p.b1.length cn2) = wr := ⟨_, rfl⟩
  rw [hW6] at hC ⊢
  obtain ⟨u1, hu1⟩ : ∃ u1, Value.slice an2 p.b1.length cn2 = u1 := ⟨_, rfl⟩
  rw [hu1] at hC
  clear hW6 hs7 H7 e7 f7 c2 HAP HCC hu1
  have HCC : Hid (CS q W nm u0 u1 (.slice al L cl) (.slice none 0 0) [(0, u0, p.b0), (1, u1, p.b1)] [] wr) := hC
  clear hC
  go_upto_region 5 with (fail)
  go_loopw [3, 4] (fun v4 v5 wr => ∃ (i : Nat) (fs : List Lv), i ≤ L ∧ v5 = .int .i64 i ∧ fs.length = i ∧ lvl fs = p.ln.take i ∧ CS q W nm u0 u1 (.slice al L cl) v4 [(0, u0, p.b0), (1, u1, p.b1)] fs wr) (fun _ v _ => L - (intOf v).toNat)
  case atStart => exact ⟨0, [], Nat.zero_le _, rfl, rfl, rfl, HCC.out⟩
  case round =>
    obtain ⟨i, fs, hi, rfl, hfl, hfs, hC⟩ := hrel
    obtain ⟨a4, k4, rfl⟩ := own_slice' hC.own
    rw [hfl] at hC ⊢
    have HC1 : Hid (CS q W nm u0 u1 (.slice al L cl) (.slice a4 i k4) [(0, u0, p.b0), (1, u1, p.b1)] fs wr) := hC
    have HFS : Hid (lvl fs = p.ln.take i ∧ fs.length = i) := ⟨hfs, hfl⟩
    have c3 := hC.p2.c3
    by_cases hlt : i < L
    · have b1 : (i : Int) < (L : Int) := by omega
      obtain ⟨b, o, a2, n2, c2, rfl, hc, hn, hn2⟩ := (HHL.out W (Below.refl _ _)).at hlt
      rw [hq] at hc
      have cellsAt : ∀ {Y}, P2 q W nm u0 u1 (.slice (some ⟨b, o, none⟩) L cl) Y → Y.cell? ⟨b, o + i * 2, none⟩ = some (.int .i64 (p.ln.getD i (0, [])).1) ∧ Y.cell? ⟨b, o + i * 2 + 1, none⟩ = some (.slice a2 n2 c2) := fun h => hc _ h.old
      have hRN : ∀ Y, Below q W Y → RdN Y (.slice a2 n2 c2) (p.ln.getD i (0, [])).2 := fun Y hY => hn.below (by rw [hq]; exact hY)
      have htk : (p.ln.getD i (0, [])).2.length ≤ 100000 := HS.out.2.2.2 _ (by have := HE.out.2.2.2; simp [List.getD, show i < p.ln.length by omega])
      obtain ⟨fr, hfr⟩ : ∃ fr, (p.ln.getD i (0, [])).1 = fr := ⟨_, rfl⟩
      obtain ⟨ts, hts⟩ : ∃ ts, (p.ln.getD i (0, [])).2 = ts := ⟨_, rfl⟩
      rw [hfr] at cellsAt
      rw [hts] at hRN htk hn2
      subst hn2
      have HTK : Hid (p.ln.take (i + 1) = p.ln.take i ++ [(fr, ts)]) := by
        show _ = _
        rw [take_snoc p.ln (by have := HE.out.2.2.2; omega)]
        rw [show p.ln.getD i (0, []) = (fr, ts) from Prod.ext hfr hts]
      have hdr := hC.below (drew_below (Below.refl wr.heap.size wr))
      obtain ⟨wd, hwd⟩ : ∃ wd, wr.drew = wd := ⟨_, rfl⟩
      rw [hwd] at hdr
      have HD : Hid (CS q W nm u0 u1 (.slice (some ⟨b, o, none⟩) L cl) (.slice a4 i k4) [(0, u0, p.b0), (1, u1, p.b1)] fs wd) := hdr
      have HRN : Hid _ := hRN
      clear hC hc hn hfr hts hdr hfl hfs hRN
      go_wp2
      refine Go.Pin.wp_region_hcls (fun Y => P2 q W nm u0 u1 (.slice (some ⟨b, o, none⟩) L cl) Y) 19 (by rfl) (by kernel_rfl) (by rw [hwd]; exact HD.out.p2) ?_
      intro Sq fq hNq hRq hSq
      have z3 := fun x => (hRq x).c3
      have k0 := fun x => (cellsAt (hRq x)).1
      have k1 := fun x => (cellsAt (hRq x)).2
      rw [hwd]
      have st0 := HD.out.p2
      refine Go.Pin.takeQ 0 (by simp only [List.getElem?_toArray, List.getElem?_cons_zero, List.getElem?_cons_succ]; exact rfl) (by kernel_rfl) (by kernel_rfl) (by kernel_rfl) (by rfl) (fun _ _ d _ _ h => by cases d <;> exact h) (st0) (hSq).out (by kernel_rfl) ?_
      intro Kq hKq
      go_big_quiet_op
      go_big_quiet_on
      refine Go.Pin.takeQ 1 (by simp only [List.getElem?_toArray, List.getElem?_cons_zero, List.getElem?_cons_succ]; exact rfl) (by kernel_rfl) (by kernel_rfl) (by kernel_rfl) (by rfl) (fun _ _ d _ _ h => by cases d <;> exact h) (st0) (hSq).out (by kernel_rfl) ?_
      intro Kq hKq
      go_big_quiet_op
      go_big_quiet_on
      refine Go.Pin.takeQ 2 (by simp only [List.getElem?_toArray, List.getElem?_cons_zero, List.getElem?_cons_succ]; exact rfl) (by kernel_rfl) (by kernel_rfl) (by kernel_rfl) (by rfl) (fun _ _ d _ _ h => by cases d <;> exact h) (st0) (hSq).out (by kernel_rfl) ?_
      intro Kq hKq
      go_big_quiet_op
      go_big_quiet_on
      refine Go.Pin.takeQ 3 (by simp only [List.getElem?_toArray, List.getElem?_cons_zero, List.getElem?_cons_succ]; exact rfl) (by kernel_rfl) (by kernel_rfl) (by kernel_rfl) (by rfl) (fun _ _ d _ _ h => by cases d <;> exact h) (st0) (hSq).out (by kernel_rfl) ?_
      intro Kq hKq
      go_big_quiet_op
      go_big_quiet_on
      refine Go.Pin.takeQ 4 (by simp only [List.getElem?_toArray, List.getElem?_cons_zero, List.getElem?_cons_succ]; exact rfl) (by kernel_rfl) (by kernel_rfl) (by kernel_rfl) (by rfl) (fun _ _ d _ _ h => by cases d <;> exact h) (st0) (hSq).out (by kernel_rfl) ?_
      intro Kq hKq
      go_big_quiet_op
      go_big_quiet_on
      refine Go.Pin.takeQ 5 (by simp only [List.getElem?_toArray, List.getElem?_cons_zero, List.getElem?_cons_succ]; exact rfl) (by kernel_rfl) (by kernel_rfl) (by kernel_rfl) (by rfl) (fun _ _ d _ _ h => by cases d <;> exact h) (st0) (hSq).out (by kernel_rfl) ?_
      intro Kq hKq
      go_big_quiet_op
      go_big_quiet_on
      refine Go.Pin.takeQ 6 (by simp only [List.getElem?_toArray, List.getElem?_cons_zero, List.getElem?_cons_succ]; exact rfl) (by kernel_rfl) (by kernel_rfl) (by kernel_rfl) (by rfl) (fun _ _ d _ _ h => by cases d <;> exact h) (st0) (hSq).out (by kernel_rfl) ?_
      intro Kq hKq
      go_big_quiet_op
      go_big_quiet_on
      refine Go.Pin.takeQ 8 (by simp only [List.getElem?_toArray, List.getElem?_cons_zero, List.getElem?_cons_succ]; exact rfl) (by kernel_rfl) (by kernel_rfl) (by kernel_rfl) (by rfl) (fun _ _ d _ _ h => by cases d <;> exact h) (st0) (hSq).out (by kernel_rfl) ?_
      intro Kq hKq
      go_big_quiet_op
      go_big_quiet_on
      refine Go.Pin.takeQ 9 (by simp only [List.getElem?_toArray, List.getElem?_cons_zero, List.getElem?_cons_succ]; exact rfl) (by kernel_rfl) (by kernel_rfl) (by kernel_rfl) (by rfl) (fun _ _ d _ _ h => by cases d <;> exact h) (st0) (hSq).out (by kernel_rfl) ?_
      intro Kq hKq
      go_big_quiet_op
      go_big_quiet_on
      refine Go.Pin.takeQ 10 (by simp only [List.getElem?_toArray, List.getElem?_cons_zero, List.getElem?_cons_succ]; exact rfl) (by kernel_rfl) (by kernel_rfl) (by kernel_rfl) (by rfl) (fun _ _ d _ _ h => by cases d <;> exact h) (st0) (hSq).out (by kernel_rfl) ?_
      intro Kq hKq
      go_big_quiet_op
      go_big_quiet_on
      refine Go.Pin.takeQ 11 (by simp only [List.getElem?_toArray, List.getElem?_cons_zero, List.getElem?_cons_succ]; exact rfl) (by kernel_rfl) (by kernel_rfl) (by kernel_rfl) (by rfl) (fun _ _ d _ _ h => by cases d <;> exact h) (st0) (hSq).out (by kernel_rfl) ?_
      intro Kq hKq
      go_big_quiet_op
      go_big_quiet_on
      refine Go.Pin.takeQ 12 (by simp only [List.getElem?_toArray, List.getElem?_cons_zero, List.getElem?_cons_succ]; exact rfl) (by kernel_rfl) (by kernel_rfl) (by kernel_rfl) (by rfl) (fun _ _ d _ _ h => by cases d <;> exact h) (st0) (hSq).out (by kernel_rfl) ?_
      intro Kq hKq
      go_big_quiet_op
      go_big_quiet_on
      refine Go.Pin.takeQ 13 (by simp only [List.getElem?_toArray, List.getElem?_cons_zero, List.getElem?_cons_succ]; exact rfl) (by kernel_rfl) (by kernel_rfl) (by kernel_rfl) (by rfl) (fun _ _ d _ _ h => by cases d <;> exact h) (st0) (hSq).out (by kernel_rfl) ?_
      intro Kq hKq
      go_big_quiet_op
      go_big_quiet_on
      have hal := (Below.refl wd.heap.size wd).alloc (Nat.le_refl _) (.cells #[] 3)
      have happ := HD.out.copy (HRN.out wd HD.out.p2.old) htk
      refine Go.Pin.readyQ 7 (by simp only [List.getElem?_toArray, List.getElem?_cons_zero, List.getElem?_cons_succ]; exact rfl) (by kernel_rfl) (by kernel_rfl) ?_
      intro K hK
      refine wpRun (d := some 33) (v := .slice (some ⟨wd.heap.size, 0, none⟩) 0 0) (w' := wd.alloc (.cells #[] 3)) rfl (by unfold execOp; go_simp) (hK _ _ (HD.out.p2.below hal) ?_)
      simp only [Act.put, List.setIfInBounds_toArray, List.set_cons_zero, List.set_cons_succ]
      clear hK K
      refine Go.Pin.readyQ 14 (by simp only [List.getElem?_toArray, List.getElem?_cons_zero, List.getElem?_cons_succ]; exact rfl) (by kernel_rfl) (by kernel_rfl) ?_
      intro K hK
      refine wpApp (d := some 40) (v := .slice (some ⟨wd.heap.size, 0, none⟩) 0 0) (u := .slice a2 ts.length c2) (R := fun v' w' => w'.ownsRow (q + 2) 3 1 v' ts.length (ts.map (Value.int .i64)) ∧ CS q W nm u0 u1 (.slice (some ⟨b, o, none⟩) L cl) (.slice a4 i k4) [(0, u0, p.b0), (1, u1, p.b1)] fs w' ∧ (∀ k, v'.ownBlock = some k → wd.heap.size ≤ k) ∧ Below wd.heap.size wd w') rfl rfl rfl rfl happ (fun v' w3 h3 => ?_)
      refine hK _ _ h3.2.1.p2 ?_
      simp only [Act.put, List.setIfInBounds_toArray, List.set_cons_zero, List.set_cons_succ]
      clear hK K
      obtain ⟨an, cn, rfl⟩ := own_slice' h3.1
      refine Go.Pin.takeQ 15 (by simp only [List.getElem?_toArray, List.getElem?_cons_zero, List.getElem?_cons_succ]; exact rfl) (by kernel_rfl) (by kernel_rfl) (by kernel_rfl) (by rfl) (fun _ _ d _ _ h => by cases d <;> exact h) (h3.2.1.p2) (hSq).out (by kernel_rfl) ?_
      intro Kq hKq
      go_big_quiet_op
      go_big_quiet_on
      refine Go.Pin.readyQ 16 (by simp only [List.getElem?_toArray, List.getElem?_cons_zero, List.getElem?_cons_succ]; exact rfl) (by kernel_rfl) (by kernel_rfl) ?_
      intro K hK
      have hal3 := (Below.refl w3.heap.size w3).alloc (Nat.le_refl _) (.cells #[.int .i64 fr, .slice an ts.length cn] 43)
      have hrow3 : (w3.alloc (.cells #[.int .i64 fr, .slice an ts.length cn] 43)).heap[w3.heap.size]? = some (.cells #[.int .i64 fr, .slice an ts.length cn] 43) := heap_alloc_new _ _
      have hc4 := h3.2.1.below hal3
      have hv4 := owns_below hal3 h3.1
      refine wpRun (d := some 42) (v := .slice (some ⟨w3.heap.size, 0, none⟩) 1 1) (w' := w3.alloc (.cells #[.int .i64 fr, .slice an ts.length cn] 43)) rfl (by unfold execOp; go_simp) (hK _ _ hc4.p2 ?_)
      simp only [Act.put, List.setIfInBounds_toArray, List.set_cons_zero, List.set_cons_succ]
      clear hK K
      have happ2 := hc4.app (by rw [HFS.out.2]; have := HS.out.2.2.1; omega) hv4 (fun k hk => ⟨fun hm => by
        cases e : (Value.slice a4 i k4).ownBlock with
        | none => rw [e] at hm; simp at hm
        | some x =>
          rw [e] at hm
          simp at hm
          have := (HD.out.own.lt x e).2
          have := h3.2.2.1 k hk
          omega, fun hm => by have := (HD.out.os.lt k hm).2; have := h3.2.2.1 k hk; omega⟩) hrow3
      generalize hw4 : w3.alloc (.cells #[.int .i64 fr, .slice an ts.length cn] 43) = w4 at *
      refine Go.Pin.readyQ 17 (by simp only [List.getElem?_toArray, List.getElem?_cons_zero, List.getElem?_cons_succ]; exact rfl) (by kernel_rfl) (by kernel_rfl) ?_
      intro K hK
      refine wpApp (d := some 43) (v := .slice a4 i k4) (u := .slice (some ⟨w3.heap.size, 0, none⟩) 1 1) (R := fun v' w' => CS q W nm u0 u1 (.slice (some ⟨b, o, none⟩) L cl) v' [(0, u0, p.b0), (1, u1, p.b1)] (fs ++ [(fr, .slice an ts.length cn, ts)]) w') rfl rfl rfl rfl happ2 (fun v' w5 h5 => ?_)
      refine hK _ _ h5.p2 ?_
      simp only [Act.put, List.setIfInBounds_toArray, List.set_cons_zero, List.set_cons_succ]
      clear hK K
      obtain ⟨a6, k6, rfl⟩ := own_slice' h5.own
      refine Go.Pin.readyQ 18 (by simp only [List.getElem?_toArray, List.getElem?_cons_zero, List.getElem?_cons_succ]; exact rfl) (by kernel_rfl) (by kernel_rfl) ?_
      intro K hK
      refine wpRun (d := some 3) (v := .slice a6 (fs ++ [(fr, Value.slice an ts.length cn, ts)]).length k6) (w' := w5) rfl (by unfold execOp; go_simp) (hK _ _ h5.p2 ?_)
      simp only [Act.put, List.setIfInBounds_toArray, List.set_cons_zero, List.set_cons_succ]
      clear hK K
      refine wpAnyH_done (by kernel_rfl) ?_ _
      have HC5 : Hid (CS q W nm u0 u1 (.slice (some ⟨b, o, none⟩) L cl) (.slice a6 (fs ++ [(fr, Value.slice an ts.length cn, ts)]).length k6) [(0, u0, p.b0), (1, u1, p.b1)] (fs ++ [(fr, .slice an ts.length cn, ts)]) w5) := h5
      have HF5 : Hid ((fs ++ [(fr, Value.slice an ts.length cn, ts)]).length = i + 1 ∧ lvl (fs ++ [(fr, Value.slice an ts.length cn, ts)]) = p.ln.take (i + 1)) := ⟨by rw [List.length_append, HFS.out.2]; rfl, by rw [lvl_snoc, HFS.out.1, HTK.out]⟩
      obtain ⟨gs, hgs⟩ : ∃ gs, fs ++ [(fr, Value.slice an ts.length cn, ts)] = gs := ⟨_, rfl⟩
      simp only [hgs] at HC5 HF5 ⊢
      clear h5 happ2 hw4 hrow3 hc4 hv4 hal3 h3 happ hal st0 hSq hRq hNq z3 k0 k1 hwd cellsAt hgs
      go_wp2
      exact ⟨⟨i + 1, gs, hlt, congrArg (Value.int .i64) (Int.natCast_succ i).symm, HF5.out.1, HF5.out.2, HC5.out⟩, by show L - ((i : Int) + 1).toNat < L - ((i : Int)).toNat; omega⟩
    · have b1 : ¬ (i : Int) < (L : Int) := by omega
      obtain rfl : i = L := by omega
      have f3 := hC.p2.fz 3
      clear hC hfs hfl
      go_upto_region 9 with fail
      have hp8 := HC1.out.p2.set3 (.slice a4 i k4)
      have hot := (HC1.out.p2.sets 3 (.slice a4 i k4)).2.2.2
      obtain ⟨W8, hW8⟩ : ∃ W8, wr.setCell ⟨q, 3, none⟩ (.slice a4 i k4) = W8 := ⟨_, rfl⟩
      rw [hW8] at hp8 hot
      simp only [hW8]
      have ho0 : wr.ownsRow (q + 2) 3 1 u0 p.b0.length (p.b0.map (Value.int .i64)) := HC1.out.os.own (0, u0, p.b0) (by simp)
      have ho1 : wr.ownsRow (q + 2) 3 1 u1 p.b1.length (p.b1.map (Value.int .i64)) := HC1.out.os.own (1, u1, p.b1) (by simp)
      obtain ⟨x0, y0, rfl⟩ := own_slice' ho0
      obtain ⟨x1, y1, rfl⟩ := own_slice' ho1
      clear ho0 ho1
      have HP8 : Hid (P2 q W nm (.slice x0 p.b0.length y0) (.slice x1 p.b1.length y1) (.slice a4 i k4) W8) := hp8
      have HOT : Hid (∀ b, b ≠ q → W8.heap[b]? = wr.heap[b]?) := hot
      have c0 := hp8.c0
      have c1 := hp8.c1
      have c2 := hp8.c2
      have c3 := hp8.c3
      have r2 := hp8.row2
      clear hp8 hot hW8 f3
      go_wp2_with (with_reducible refine at_list ?_; refine wpList_store_row rfl 26 (.tmp 2) (.tmp 46) rfl (q + 1) #[.string nm, .slice x0 p.b0.length y0, .slice x1 p.b1.length y1, .slice a4 i k4] rfl rfl 26 zPat r2 (ip4 _ _ _ _) rfl (by simp [Value.oneCell']) ?_)
      have hot9 : ∀ b, b ≠ q → b ≠ q + 1 → (W8.setRow (q + 1) #[.string nm, .slice x0 p.b0.length y0, .slice x1 p.b1.length y1, .slice a4 i k4]).heap[b]? = wr.heap[b]? := fun b h1 h2 => by rw [setRow_other _ _ _ _ h2]; exact HOT.out b h1
      have hb9 : Below q W (W8.setRow (q + 1) #[.string nm, .slice x0 p.b0.length y0, .slice x1 p.b1.length y1, .slice a4 i k4]) := below_setRow HP8.out.old _ (by omega) _
      try simp only [Exit.inBlock, Exit.then]
      refine bodyPost_ret (v := .agg #[.string nm, .slice x0 p.b0.length y0, .slice x1 p.b1.length y1, .slice a4 i k4]) ?_ rfl ⟨.slice x0 p.b0.length y0, .slice x1 p.b1.length y1, .slice a4 i k4, fs, by rw [HE.out.1], ?_, ?_, ?_, hb9⟩
      · exact results_cell_row (P := Tryz.prog) (fn := Tryz.f6) (p := 2) (ty := 26) rfl _ _ (q + 1) 26 #[.string nm, .slice x0 p.b0.length y0, .slice x1 p.b1.length y1, .slice a4 i k4] (0, 0) _ rfl (setRow_heap _ _ _ _ 26 _ r2) Tryz.underlying26 rfl (ip4 _ _ _ _)
      · rw [HFS.out.1, List.take_of_length_le (by have := HE.out.2.2.2; omega)]
      · exact own_keep HC1.out.own (fun g hg => hot9 g (by have := (HC1.out.own.lt g hg).1; omega) (by have := (HC1.out.own.lt g hg).1; omega))
      · exact HC1.out.os.keep (fun k hk => hot9 k (by have := (HC1.out.os.lt k hk).1; omega) (by have := (HC1.out.os.lt k hk).1; omega))
end Go.Proofs.YtpfidohkohldaaaGreatDoor
/- what each message is worth, by the document's words -/
namespace Go.Pat
def lst (p : Pt) : Int := (p.ln.getD (p.ln.length - 1) (0, [])).1
def sender (p : Pt) (k : Nat) : Int :=
  if k < p.ln.length then (p.ln.getD k (0, [])).1
  else if p.ln.length = 0 then 0
  else if oneWay p then 0
  else if (k - p.ln.length) % 2 = 0 then 1 - lst p else lst p
def dn (p : Pt) (k : Nat) (t : Int) : Bool := (p.ln.take (k + 1)).any fun l => l.2.any (· == t)
def stc (s : Int) : Int := if s = 0 then 5 else 4
def src (p : Pt) (k : Nat) : Int := if dn p k (stc (sender p k)) then 2 else if dn p k 6 then 1 else 0
def bst (p : Pt) (f : Int) : Nat → Int
  | 0 => 0
  | k + 1 => if sender p k ≠ f ∧ src p k > bst p f k then src p k else bst p f k
def dst (p : Pt) (k : Nat) : Int :=
  if dn p k 3 = false ∧ dn p k (stc (1 - sender p k)) = false then 0
  else if dn p k (stc (1 - sender p k)) = false then 1
  else if dn p k 3 = false then 2
  else 3 + bst p (sender p k) k
theorem src_in (p : Pt) (k : Nat) : 0 ≤ src p k ∧ src p k ≤ 2 := by
  unfold src
  split
  · omega
  · split <;> omega
theorem bst_in (p : Pt) (f : Int) : ∀ k, 0 ≤ bst p f k ∧ bst p f k ≤ 2
  | 0 => by simp [bst]
  | k + 1 => by
    have := bst_in p f k
    have := src_in p k
    simp only [bst]
    split <;> omega
theorem sender_in (p : Pt) (hv : ∀ l ∈ p.ln, l.1 = 0 ∨ l.1 = 1) (k : Nat) : sender p k = 0 ∨ sender p k = 1 := by
  have hg : ∀ j, j < p.ln.length → (p.ln.getD j (0, [])).1 = 0 ∨ (p.ln.getD j (0, [])).1 = 1 := fun j hj => hv _ (by simp [List.getD, hj])
  unfold sender lst
  split
  · exact hg _ (by assumption)
  · split
    · exact .inl rfl
    · split
      · exact .inl rfl
      · have := hg (p.ln.length - 1) (by omega)
        split <;> omega
end Go.Pat
/- the table, az data -/
namespace Go.Pat
def tab : List Pt := [
  ⟨⟨#[73, 49, 75]⟩, [], [2], [(0, [1, 4, 2]), (1, [1, 3]), (0, [5])]⟩,
  ⟨⟨#[73, 49, 75, 49]⟩, [], [2], [(0, [1, 2]), (1, [1, 3, 4]), (0, [5])]⟩,
  ⟨⟨#[73, 49, 78]⟩, [], [], [(0, [1, 2]), (1, [1, 3]), (0, [5])]⟩,
  ⟨⟨#[73, 49, 88]⟩, [], [], [(0, [1, 2]), (1, [1, 3, 2, 4]), (0, [5])]⟩,
  ⟨⟨#[73, 49, 88, 49]⟩, [], [], [(0, [1, 2]), (1, [1, 3, 2]), (0, [5, 4])]⟩,
  ⟨⟨#[73, 75]⟩, [], [2], [(0, [1, 4, 2, 6]), (1, [1, 3, 5])]⟩,
  ⟨⟨#[73, 75, 49]⟩, [], [2], [(0, [1, 2]), (1, [1, 3, 5, 4])]⟩,
  ⟨⟨#[73, 78]⟩, [], [], [(0, [1, 2]), (1, [1, 3, 5])]⟩,
  ⟨⟨#[73, 88]⟩, [], [], [(0, [1, 2]), (1, [1, 3, 5, 2, 4])]⟩,
  ⟨⟨#[73, 88, 49]⟩, [], [], [(0, [1, 2]), (1, [1, 3, 5, 2]), (0, [4])]⟩,
  ⟨⟨#[75]⟩, [2], [2], [(0, [1, 4, 6])]⟩,
  ⟨⟨#[75, 49, 75]⟩, [2], [2], [(0, [1, 4]), (1, [1, 3]), (0, [5])]⟩,
  ⟨⟨#[75, 49, 75, 49]⟩, [2], [2], [(0, [1]), (1, [1, 3, 4]), (0, [5])]⟩,
  ⟨⟨#[75, 49, 78]⟩, [2], [], [(0, [1]), (1, [1, 3]), (0, [5])]⟩,
  ⟨⟨#[75, 49, 88]⟩, [2], [], [(0, [1]), (1, [1, 3, 2, 4]), (0, [5])]⟩,
  ⟨⟨#[75, 49, 88, 49]⟩, [2], [], [(0, [1]), (1, [1, 3, 2]), (0, [5, 4])]⟩,
  ⟨⟨#[75, 75]⟩, [2], [2], [(0, [1, 4, 6]), (1, [1, 3, 5])]⟩,
  ⟨⟨#[75, 75, 49]⟩, [2], [2], [(0, [1]), (1, [1, 3, 5, 4])]⟩,
  ⟨⟨#[75, 78]⟩, [2], [], [(0, [1]), (1, [1, 3, 5])]⟩,
  ⟨⟨#[75, 88]⟩, [2], [], [(0, [1]), (1, [1, 3, 5, 2, 4])]⟩,
  ⟨⟨#[75, 88, 49]⟩, [2], [], [(0, [1]), (1, [1, 3, 5, 2]), (0, [4])]⟩,
  ⟨⟨#[78]⟩, [], [2], [(0, [1, 4])]⟩,
  ⟨⟨#[78, 75]⟩, [], [2], [(0, [1, 4]), (1, [1, 3])]⟩,
  ⟨⟨#[78, 75, 49]⟩, [], [2], [(0, [1]), (1, [1, 3, 4])]⟩,
  ⟨⟨#[78, 78]⟩, [], [], [(0, [1]), (1, [1, 3])]⟩,
  ⟨⟨#[78, 88]⟩, [], [], [(0, [1]), (1, [1, 3, 2, 4])]⟩,
  ⟨⟨#[78, 88, 49]⟩, [], [], [(0, [1]), (1, [1, 3, 2]), (0, [4])]⟩,
  ⟨⟨#[88]⟩, [], [2], [(0, [1, 4, 2, 6])]⟩,
  ⟨⟨#[88, 49, 75]⟩, [], [2], [(0, [1, 4]), (1, [1, 3]), (0, [2]), (1, [5])]⟩,
  ⟨⟨#[88, 49, 75, 49]⟩, [], [2], [(0, [1]), (1, [1, 3, 4]), (0, [2]), (1, [5])]⟩,
  ⟨⟨#[88, 49, 78]⟩, [], [], [(0, [1]), (1, [1, 3]), (0, [2]), (1, [5])]⟩,
  ⟨⟨#[88, 49, 88]⟩, [], [], [(0, [1]), (1, [1, 3, 2, 4]), (0, [2]), (1, [5])]⟩,
  ⟨⟨#[88, 49, 88, 49]⟩, [], [], [(0, [1]), (1, [1, 3, 2]), (0, [4, 2]), (1, [5])]⟩,
  ⟨⟨#[88, 75]⟩, [], [2], [(0, [1, 4]), (1, [1, 3]), (0, [2, 5])]⟩,
  ⟨⟨#[88, 75, 49]⟩, [], [2], [(0, [1]), (1, [1, 3, 4]), (0, [2, 5])]⟩,
  ⟨⟨#[88, 78]⟩, [], [], [(0, [1]), (1, [1, 3]), (0, [2, 5])]⟩,
  ⟨⟨#[88, 88]⟩, [], [], [(0, [1]), (1, [1, 3, 2, 4]), (0, [2, 5])]⟩,
  ⟨⟨#[88, 88, 49]⟩, [], [], [(0, [1]), (1, [1, 3, 2]), (0, [4, 2, 5])]⟩]
theorem tab_len : tab.length = 38 := rfl
theorem tab_chk : tab.all (fun p => chk p == 0) = true := by decide +kernel
def fnd (nm : ByteArray) : Option Pt := tab.find? (fun p => p.nm == nm)
end Go.Pat
