import Derived.Test.YtigapdfefapdgaaTraceTw
import Derived.Test.YtigapdfefapdgaaTraceRecX
namespace Go.Proofs.Ytigapdfefapdgaa
set_option linter.unusedSimpArgs false
open Go.ChangeShapes Go.WideShapes Go.ChangeAt Go.RowKit Go.Pin
theorem bput {W : World} {b : Nat} {t : TypeId} {v : Value} (h : Boxed W b t v) {b' : Nat} (hne : b ≠ b') (u : Value) : Boxed (W.setCell ⟨b', 0, none⟩ u) b t v :=
  (heap_setCell_other _ _ _ _ hne).trans h
theorem bgrow {S : Nat → Prop} {W W' : World} {b : Nat} {t : TypeId} {v : Value} (h : Boxed W b t v) (hg : Grow S W W') (hn : ¬ S b) : Boxed W' b t v := (hg.block b h.lt hn).trans h
theorem bbelow {W W' : World} {b : Nat} {t : TypeId} {v : Value} (h : Boxed W b t v) (hg : Below W.heap.size W W') : Boxed W' b t v := (hg.block b h.lt).trans h
theorem bnot_blk {W : World} {b : Nat} {t : TypeId} {v : Value} (h : Boxed W b t v) (h2 : t ≠ 37) {B R : Nat} {vs : Value} {l : List (Int × Int)} (r : Rec B W R vs l) : ¬ Blk R vs b := by
  rintro (rfl | e)
  · have := (show W.heap[b]? = _ from h).symm.trans r.2.1
    simp at this
  · rcases r.2.2.2 with ⟨rfl, _⟩ | ⟨g, cap, cur, rfl, _, hg, _⟩
    · cases e
    · cases e
      have := (show W.heap[g]? = _ from h).symm.trans hg
      simp at this
      exact h2 this.2
theorem grow_alloc {S : Nat → Prop} {W W' : World} (h : Grow S W W') (o : Obj) : Grow S W (W'.alloc o) :=
  ⟨h.os, h.tape, h.output, by have := h.size; simp; omega, fun k hk hn => by rw [heap_alloc_any, if_neg (by have := h.size; omega)]; exact h.block k hk hn⟩
theorem grow_set {S : Nat → Prop} {W W' : World} (h : Grow S W W') {b : Nat} (hb : S b ∨ W.heap.size ≤ b) (o : Nat) (u : Value) : Grow S W (W'.setCell ⟨b, o, none⟩ u) :=
  ⟨h.os, h.tape, h.output, by have := h.size; simp [World.setCell]; omega, fun k hk hn => by
    rw [heap_setCell_other _ _ _ _ (fun e => by subst e; rcases hb with hb | hb; exact hn hb; omega)]
    exact h.block k hk hn⟩
theorem grow_refl (S : Nat → Prop) (W : World) : Grow S W W := ⟨rfl, rfl, rfl, Nat.le_refl _, fun _ _ _ => rfl⟩
theorem grow_drew {S : Nat → Prop} {W W' : World} (h : Grow S W W') : Grow S W W'.drew := ⟨h.os, h.tape, h.output, h.size, h.block⟩
set_option maxRecDepth 100000 in
set_option maxHeartbeats 2000000 in
theorem sn11_any (bI bK bW : Nat) (vW : Value) (wt : List (Int × Int)) (x1 x2 : Int) (W : World) (hI : Boxed W bI 3 (.int .i64 0)) (hK : Boxed W bK 4 (.bool true)) (hW : Boxed W bW 25 vW) (hs : Sl W vW 2 (evC wt) wt.length) (hx : wt[0]? = some (x1, x2)) (hd : ∀ k, vW.ownBlock = some k → k ≠ bI ∧ k ≠ bK) :
    Calls Try.prog 25 #[.agg #[.int .i64 x1, .int .i64 x2], .pointer (some ⟨bI, 0, none⟩), .pointer (some ⟨bK, 0, none⟩), .pointer (some ⟨bW, 0, none⟩)] W fun e W' => e = .returned (.bool false) ∧ Boxed W' bI 3 (.int .i64 1) ∧ Boxed W' bK 4 (.bool true) ∧ Grow (fun k => k = bI ∨ k = bK) W W' := by
  have hlen : 0 < wt.length := (List.getElem?_eq_some_iff.1 hx).1
  obtain ⟨_, a, c, rfl, _, hr⟩ := hs
  rcases hr with h0 | ⟨b, o, rfl, hc⟩
  · omega
  obtain ⟨p1, p2⟩ := evC_at wt 0 _ hx
  have d1 := hc _ _ p1
  have d2 := hc _ _ p2
  simp only [Nat.zero_mul, Nat.zero_add, Nat.add_zero] at d1 d2
  clear hc p1 p2 hx
  obtain ⟨hd1, hd2⟩ := hd b rfl
  have hIK : bI ≠ bK := by
    rintro rfl
    have := (show W.heap[bI]? = _ from hI).symm.trans hK
    simp at this
  have hIW : bW ≠ bI := by
    rintro rfl
    have := (show W.heap[bW]? = _ from hI).symm.trans hW
    simp at this
  have blt := World.block_lt_of_cell? W _ d1
  have aI := hI.alloc (.cells #[.int .i64 x1, .int .i64 x2] 37)
  have aK := hK.alloc (.cells #[.int .i64 x1, .int .i64 x2] 37)
  have aW := hW.alloc (.cells #[.int .i64 x1, .int .i64 x2] 37)
  have cI := aI.cell
  have fI := aI.frozen
  have hlI := hI.lt
  obtain ⟨W1, hW1⟩ : ∃ W1, (W.alloc (.cells #[.int .i64 x1, .int .i64 x2] 37)).setCell ⟨bI, 0, none⟩ (.int .i64 1) = W1 := ⟨_, rfl⟩
  have g0 : Below W.heap.size W (W.alloc (.cells #[.int .i64 x1, .int .i64 x2] 37)) := (Below.refl _ _).alloc (Nat.le_refl _) _
  have G1 : Grow (fun k => k = bI ∨ k = bK) W W1 := by rw [← hW1]; exact grow_set (Grow.of_below g0) (.inl (.inl rfl)) _ _
  have BI : Boxed W1 bI 3 (.int .i64 1) := by rw [← hW1]; exact aI.set _
  have BK : Boxed W1 bK 4 (.bool true) := by rw [← hW1]; exact bput aK (Ne.symm hIK) _
  have BW : Boxed W1 bW 25 (.slice (some ⟨b, o, none⟩) wt.length c) := by rw [← hW1]; exact bput aW hIW _
  have e1 : W1.cell? ⟨b, o, none⟩ = some (.int .i64 x1) := (World.cell?_of_block (G1.block b blt (fun h => by rcases h with h | h; exact hd1 h; exact hd2 h))).trans d1
  have e2 : W1.cell? ⟨b, o + 1, none⟩ = some (.int .i64 x2) := (World.cell?_of_block (G1.block b blt (fun h => by rcases h with h | h; exact hd1 h; exact hd2 h))).trans d2
  have bE : W1.heap[W.heap.size]? = some (.cells #[.int .i64 x1, .int .i64 x2] 37 (0, 0)) := by
    rw [← hW1, heap_setCell_other _ _ _ _ (by show W.heap.size ≠ bI; omega), heap_alloc_any, if_pos rfl]
  have cE0 : W1.cell? ⟨W.heap.size, 0, none⟩ = some (.int .i64 x1) := by simp [World.cell?, bE]
  have cE1 : W1.cell? ⟨W.heap.size, 1, none⟩ = some (.int .i64 x2) := by simp [World.cell?, bE]
  have cI1 := BI.cell
  have cK1 := BK.cell
  have fK1 := BK.frozen
  have cW1 := BW.cell
  have HF : Hid (Boxed (W1.setCell ⟨bK, 0, none⟩ (.bool true)) bI 3 (.int .i64 1) ∧ Boxed (W1.setCell ⟨bK, 0, none⟩ (.bool true)) bK 4 (.bool true) ∧ Grow (fun k => k = bI ∨ k = bK) W (W1.setCell ⟨bK, 0, none⟩ (.bool true))) :=
    ⟨bput BI hIK _, BK.set _, grow_set G1 (.inl (.inr rfl)) _ _⟩
  clear aI aK aW hI hK hW d1 d2 hd g0 G1 BI BK BW bE hIK hIW hd1 hd2 blt hlI
  go_enter Try.func25, Try.ntmps25
  go_wp2
  go_region
  all_goals
    go_wp2
    go_ret
    refine ⟨rfl, ?_⟩
    first
    | exact HF.out
    | exact ⟨HF.out.1, HF.out.2.1, grow_drew HF.out.2.2⟩
/-- what stands while TraceSince's loop runs: its variables' boxes -/
structure St (bS bR bK bW bA b1 b2 bT bG bO R : Nat) (vW : Value) (n stop : Int) (all : Bool) (W : World) (g : Int) (ov : Bool) : Prop where
  s : Boxed W bS 3 (.int .i64 stop)
  r : Boxed W bR 23 (.pointer (some ⟨R, 0, none⟩))
  k : Boxed W bK 4 (.bool true)
  w : Boxed W bW 25 vW
  a : Boxed W bA 4 (.bool all)
  t : Boxed W bT 58 (.func (.func 39) #[] #[.pointer (some ⟨b1, 0, none⟩), .pointer (some ⟨b2, 0, none⟩)])
  g : Boxed W bG 3 (.int .i64 g)
  o : Boxed W bO 4 (.bool ov)
  c1 : Boxed W b1 23 (.pointer (some ⟨R, 0, none⟩))
  c2 : Boxed W b2 3 (.int .i64 n)
/-- the boxes in their order -/
def Ord (bS bR bK bW bA b1 b2 bT bG bO : Nat) : Prop := bS < bR ∧ bR < bK ∧ bK < bW ∧ bW < bA ∧ bA < b1 ∧ b1 < b2 ∧ b2 < bT ∧ bT < bG ∧ bG < bO
def IsBox (bS bR bK bW bA b1 b2 bT bG bO k : Nat) : Prop := k = bS ∨ k = bR ∨ k = bK ∨ k = bW ∨ k = bA ∨ k = b1 ∨ k = b2 ∨ k = bT ∨ k = bG ∨ k = bO
theorem St.grow {bS bR bK bW bA b1 b2 bT bG bO R : Nat} {vW : Value} {n stop : Int} {all : Bool} {W W' : World} {g : Int} {ov : Bool} {S : Nat → Prop} (h : St bS bR bK bW bA b1 b2 bT bG bO R vW n stop all W g ov) (hg : Grow S W W') (hn : ∀ k, IsBox bS bR bK bW bA b1 b2 bT bG bO k → ¬ S k) : St bS bR bK bW bA b1 b2 bT bG bO R vW n stop all W' g ov :=
  ⟨bgrow h.s hg (hn _ (by simp [IsBox])), bgrow h.r hg (hn _ (by simp [IsBox])), bgrow h.k hg (hn _ (by simp [IsBox])), bgrow h.w hg (hn _ (by simp [IsBox])), bgrow h.a hg (hn _ (by simp [IsBox])), bgrow h.t hg (hn _ (by simp [IsBox])), bgrow h.g hg (hn _ (by simp [IsBox])), bgrow h.o hg (hn _ (by simp [IsBox])), bgrow h.c1 hg (hn _ (by simp [IsBox])), bgrow h.c2 hg (hn _ (by simp [IsBox]))⟩
theorem St.below {bS bR bK bW bA b1 b2 bT bG bO R : Nat} {vW : Value} {n stop : Int} {all : Bool} {W W' : World} {g : Int} {ov : Bool} (h : St bS bR bK bW bA b1 b2 bT bG bO R vW n stop all W g ov) (hg : Below W.heap.size W W') : St bS bR bK bW bA b1 b2 bT bG bO R vW n stop all W' g ov :=
  h.grow (S := fun _ => False) (Grow.of_below hg) (fun _ _ h => h)
theorem St.lt {bS bR bK bW bA b1 b2 bT bG bO R : Nat} {vW : Value} {n stop : Int} {all : Bool} {W : World} {g : Int} {ov : Bool} (h : St bS bR bK bW bA b1 b2 bT bG bO R vW n stop all W g ov) : ∀ k, IsBox bS bR bK bW bA b1 b2 bT bG bO k → k < W.heap.size := by
  rintro k (rfl | rfl | rfl | rfl | rfl | rfl | rfl | rfl | rfl | rfl)
  · exact h.s.lt
  · exact h.r.lt
  · exact h.k.lt
  · exact h.w.lt
  · exact h.a.lt
  · exact h.c1.lt
  · exact h.c2.lt
  · exact h.t.lt
  · exact h.g.lt
  · exact h.o.lt
theorem St.not_blk {bS bR bK bW bA b1 b2 bT bG bO R : Nat} {vW : Value} {n stop : Int} {all : Bool} {W : World} {g : Int} {ov : Bool} (h : St bS bR bK bW bA b1 b2 bT bG bO R vW n stop all W g ov) {B : Nat} {vs : Value} {l : List (Int × Int)} (r : Rec B W R vs l) : ∀ k, IsBox bS bR bK bW bA b1 b2 bT bG bO k → ¬ Blk R vs k := by
  rintro k (rfl | rfl | rfl | rfl | rfl | rfl | rfl | rfl | rfl | rfl)
  · exact bnot_blk h.s (by decide) r
  · exact bnot_blk h.r (by decide) r
  · exact bnot_blk h.k (by decide) r
  · exact bnot_blk h.w (by decide) r
  · exact bnot_blk h.a (by decide) r
  · exact bnot_blk h.c1 (by decide) r
  · exact bnot_blk h.c2 (by decide) r
  · exact bnot_blk h.t (by decide) r
  · exact bnot_blk h.g (by decide) r
  · exact bnot_blk h.o (by decide) r
theorem St.put_k {bS bR bK bW bA b1 b2 bT bG bO R : Nat} {vW : Value} {n stop : Int} {all : Bool} {W : World} {g : Int} {ov : Bool} (hd : Ord bS bR bK bW bA b1 b2 bT bG bO) (h : St bS bR bK bW bA b1 b2 bT bG bO R vW n stop all W g ov) : St bS bR bK bW bA b1 b2 bT bG bO R vW n stop all (W.setCell ⟨bK, 0, none⟩ (.bool true)) g ov := by
  unfold Ord at hd
  exact ⟨bput h.s (by omega) _, bput h.r (by omega) _, h.k.set _, bput h.w (by omega) _, bput h.a (by omega) _, bput h.t (by omega) _, bput h.g (by omega) _, bput h.o (by omega) _, bput h.c1 (by omega) _, bput h.c2 (by omega) _⟩
theorem St.put_g {bS bR bK bW bA b1 b2 bT bG bO R : Nat} {vW : Value} {n stop : Int} {all : Bool} {W : World} {g : Int} {ov : Bool} (hd : Ord bS bR bK bW bA b1 b2 bT bG bO) (h : St bS bR bK bW bA b1 b2 bT bG bO R vW n stop all W g ov) (g' : Int) : St bS bR bK bW bA b1 b2 bT bG bO R vW n stop all (W.setCell ⟨bG, 0, none⟩ (.int .i64 g')) g' ov := by
  unfold Ord at hd
  exact ⟨bput h.s (by omega) _, bput h.r (by omega) _, bput h.k (by omega) _, bput h.w (by omega) _, bput h.a (by omega) _, bput h.t (by omega) _, h.g.set _, bput h.o (by omega) _, bput h.c1 (by omega) _, bput h.c2 (by omega) _⟩
theorem St.put_o {bS bR bK bW bA b1 b2 bT bG bO R : Nat} {vW : Value} {n stop : Int} {all : Bool} {W : World} {g : Int} {ov : Bool} (hd : Ord bS bR bK bW bA b1 b2 bT bG bO) (h : St bS bR bK bW bA b1 b2 bT bG bO R vW n stop all W g ov) (ov' : Bool) : St bS bR bK bW bA b1 b2 bT bG bO R vW n stop all (W.setCell ⟨bO, 0, none⟩ (.bool ov')) g ov' := by
  unfold Ord at hd
  exact ⟨bput h.s (by omega) _, bput h.r (by omega) _, bput h.k (by omega) _, bput h.w (by omega) _, bput h.a (by omega) _, bput h.t (by omega) _, bput h.g (by omega) _, h.o.set _, bput h.c1 (by omega) _, bput h.c2 (by omega) _⟩
set_option maxRecDepth 100000 in
set_option maxHeartbeats 1000000 in
theorem sn2_any (bL : Nat) (c : Nat) (x1 x2 : Int) (W : World) (hc : c ≤ 1000000) (hL : Boxed W bL 3 (.int .i64 c)) :
    Calls Try.prog 26 #[.agg #[.int .i64 x1, .int .i64 x2], .pointer (some ⟨bL, 0, none⟩)] W fun e W' => e = .returned (.bool (decide (c + 1 ≤ 4000))) ∧ Boxed W' bL 3 (.int .i64 (c + 1 : Nat)) ∧ Grow (fun k => k = bL) W W' := by
  have aL := hL.alloc (.cells #[.int .i64 x1, .int .i64 x2] 37)
  have g0 : Below W.heap.size W (W.alloc (.cells #[.int .i64 x1, .int .i64 x2] 37)) := (Below.refl _ _).alloc (Nat.le_refl _) _
  have hlL := hL.lt
  obtain ⟨W0, hW0⟩ : ∃ W0, W.alloc (.cells #[.int .i64 x1, .int .i64 x2] 37) = W0 := ⟨_, rfl⟩
  rw [hW0] at aL g0
  have cL := aL.cell
  have fL := aL.frozen
  obtain ⟨W1, hW1⟩ : ∃ W1, W0.setCell ⟨bL, 0, none⟩ (.int .i64 (c + 1)) = W1 := ⟨_, rfl⟩
  have BL : Boxed W1 bL 3 (.int .i64 (c + 1)) := by rw [← hW1]; exact aL.set _
  have G1 : Grow (fun k => k = bL) W W1 := by rw [← hW1]; exact grow_set (S := fun k => k = bL) (Grow.of_below g0) (.inl rfl) _ _
  have cL1 := BL.cell
  have H : Hid (Boxed W1 bL 3 (.int .i64 (c + 1 : Nat)) ∧ Grow (fun k => k = bL) W W1) := ⟨by push_cast; exact BL, G1⟩
  clear hL aL g0 BL G1 hlL
  go_enter Try.func26, Try.ntmps26
  go_wp2
  go_ret
  refine ⟨?_, H.out⟩
  show Ending.returned (.bool (decide ((c : Int) + 1 ≤ 4000))) = _
  have hiff : ((c : Int) + 1 ≤ 4000) ↔ (c + 1 ≤ 4000) := by omega
  rw [decide_eq_decide.2 hiff]
end Go.Proofs.Ytigapdfefapdgaa
