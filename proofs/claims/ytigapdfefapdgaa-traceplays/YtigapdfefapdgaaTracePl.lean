import Derived.Test.YtigapdfefapdgaaTraceTw
namespace Go.Proofs.Ytigapdfefapdgaa
set_option linter.unusedSimpArgs false
open Go.ChangeShapes Go.WideShapes Go.ChangeAt Go.RowKit Go.Pin
/-- two Recorders, and a list of one's own beside them -/
def Play (B : Nat) (w0 w : World) (R1 : Nat) (vs1 : Value) (la : List (Int × Int)) (R2 : Nat) (vs2 : Value) (lb : List (Int × Int)) (vw : Value) (lw : List (Int × Int)) : Prop :=
  Two B w0 w R1 vs1 la R2 vs2 lb ∧ w.ownsRow B 37 2 vw lw.length (evC lw) ∧ ∀ k, vw.ownBlock = some k → ¬ Blk R1 vs1 k ∧ ¬ Blk R2 vs2 k
theorem blk_new {R : Nat} {vs vs' : Value} {w : World} {k : Nat} (hv : vs'.ownBlock = vs.ownBlock ∨ ∃ g, vs'.ownBlock = some g ∧ w.heap.size ≤ g) (hk : k < w.heap.size) (hn : ¬ Blk R vs k) : ¬ Blk R vs' k := by
  rintro (h | h)
  · exact hn (.inl h)
  · rcases hv with hv | ⟨g, hv, hge⟩
    · exact hn (.inr (hv ▸ h))
    · rw [hv] at h
      cases h
      omega
theorem Play.left {B : Nat} {w0 w w' : World} {R1 : Nat} {vs1 : Value} {la : List (Int × Int)} {R2 : Nat} {vs2 : Value} {lb : List (Int × Int)} {vw : Value} {lw : List (Int × Int)} {o : Option (Int × Int)} (h : Play B w0 w R1 vs1 la R2 vs2 lb vw lw) (hl : LoggedO B R1 vs1 la o w w') :
    ∃ vs, Play B w0 w' R1 vs (la ++ o.toList) R2 vs2 lb vw lw := by
  obtain ⟨⟨r1, r2, hd, hb, hB⟩, ho, hw⟩ := h
  obtain ⟨vs, r1', hg, hv⟩ := hl
  refine ⟨vs, ⟨r1', r2.grow hg (fun k hk h => hd k h hk), ?_, hb.trans (hg.below r1.ge hB), Nat.le_trans hB hg.size⟩, hg.owns ho (fun k hk => (hw k hk).1), ?_⟩
  · intro k hk hk2
    exact blk_new hv (r2.lt k hk2) (fun h => hd k h hk2) hk
  · intro k hk
    exact ⟨blk_new hv (ho.lt k hk).2 (hw k hk).1, (hw k hk).2⟩
theorem Play.swap {B : Nat} {w0 w : World} {R1 : Nat} {vs1 : Value} {la : List (Int × Int)} {R2 : Nat} {vs2 : Value} {lb : List (Int × Int)} {vw : Value} {lw : List (Int × Int)} (h : Play B w0 w R1 vs1 la R2 vs2 lb vw lw) : Play B w0 w R2 vs2 lb R1 vs1 la vw lw :=
  ⟨h.1.swap, h.2.1, fun k hk => ⟨(h.2.2 k hk).2, (h.2.2 k hk).1⟩⟩
theorem Play.right {B : Nat} {w0 w w' : World} {R1 : Nat} {vs1 : Value} {la : List (Int × Int)} {R2 : Nat} {vs2 : Value} {lb : List (Int × Int)} {vw : Value} {lw : List (Int × Int)} {o : Option (Int × Int)} (h : Play B w0 w R1 vs1 la R2 vs2 lb vw lw) (hl : LoggedO B R2 vs2 lb o w w') :
    ∃ vs, Play B w0 w' R1 vs1 la R2 vs (lb ++ o.toList) vw lw := by
  obtain ⟨vs, h'⟩ := h.swap.left hl
  exact ⟨vs, h'.swap⟩
theorem Play.below {B : Nat} {w0 w w' : World} {R1 : Nat} {vs1 : Value} {la : List (Int × Int)} {R2 : Nat} {vs2 : Value} {lb : List (Int × Int)} {vw : Value} {lw : List (Int × Int)} (h : Play B w0 w R1 vs1 la R2 vs2 lb vw lw) (hb : Below w.heap.size w w') : Play B w0 w' R1 vs1 la R2 vs2 lb vw lw :=
  ⟨h.1.below hb, owns_below h.2.1 hb, h.2.2⟩
theorem Play.append {B : Nat} {w0 w w' : World} {R1 : Nat} {vs1 : Value} {la : List (Int × Int)} {R2 : Nat} {vs2 : Value} {lb : List (Int × Int)} {vw vw' : Value} {lw lw' : List (Int × Int)} (h : Play B w0 w R1 vs1 la R2 vs2 lb vw lw)
    (ho : w'.ownsRow B 37 2 vw' lw'.length (evC lw')) (hg : w.grownBy w' vw.ownBlock) (hat : vw'.ownBlock = vw.ownBlock ∨ vw'.ownBlock = some w.heap.size) : Play B w0 w' R1 vs1 la R2 vs2 lb vw' lw' := by
  obtain ⟨⟨r1, r2, hd, hb, hB⟩, ho', hw⟩ := h
  have G : Grow (fun k => vw.ownBlock = some k) w w' := ⟨hg.os, hg.tape, hg.output, hg.size, fun k hk hn => hg.block k hk (fun e => hn e.symm)⟩
  refine ⟨⟨r1.grow G (fun k hk h => (hw k h).1 hk), r2.grow G (fun k hk h => (hw k h).2 hk), hd, hb.trans (G.below (fun k hk => (ho'.lt k hk).1) hB), Nat.le_trans hB G.size⟩, ho, ?_⟩
  intro k hk
  rcases hat with hat | hat
  · exact hw k (hat ▸ hk)
  · rw [hat] at hk
    cases hk
    exact ⟨fun h => by have := r1.lt _ h; omega, fun h => by have := r2.lt _ h; omega⟩
theorem play_new (w : World) : Play w.heap.size w ((w.alloc (.cells #[.slice none 0 0, .int .i64 0] 32)).alloc (.cells #[.slice none 0 0, .int .i64 0] 32)) w.heap.size (.slice none 0 0) [] (w.heap.size + 1) (.slice none 0 0) [] (.slice none 0 0) [] :=
  ⟨two_new w, World.ownsRow_nil _ _ _ _, fun k hk => by cases hk⟩
/-- a step's box -/
def Bx (w : World) (b : Nat) (k v : Int) (c : Bool) : Prop := w.heap[b]? = some (.cells #[.int .i64 k, .int .i64 v, .bool c] 34 (0, 0))
theorem Bx.c0 {w : World} {b : Nat} {k v : Int} {c : Bool} (h : Bx w b k v c) : w.cell? ⟨b, 0, none⟩ = some (.int .i64 k) := by simp [World.cell?, show w.heap[b]? = _ from h]
theorem Bx.c1 {w : World} {b : Nat} {k v : Int} {c : Bool} (h : Bx w b k v c) : w.cell? ⟨b, 1, none⟩ = some (.int .i64 v) := by simp [World.cell?, show w.heap[b]? = _ from h]
theorem Bx.c2 {w : World} {b : Nat} {k v : Int} {c : Bool} (h : Bx w b k v c) : w.cell? ⟨b, 2, none⟩ = some (.bool c) := by simp [World.cell?, show w.heap[b]? = _ from h]
theorem Bx.lt {w : World} {b : Nat} {k v : Int} {c : Bool} (h : Bx w b k v c) : b < w.heap.size := (Array.getElem?_eq_some_iff.1 h).1
theorem Bx.below {w w' : World} {b : Nat} {k v : Int} {c : Bool} (h : Bx w b k v c) (hb : Below w.heap.size w w') : Bx w' b k v c := (hb.block b h.lt).trans h
theorem Bx.not_row {w : World} {b : Nat} {k v : Int} {c : Bool} (h : Bx w b k v c) {B n : Nat} {u : Value} {xs : List Value} (ho : w.ownsRow B 37 2 u n xs) : u.ownBlock ≠ some b := by
  intro e
  rcases ho.2 with ⟨rfl, _⟩ | ⟨g, cap, cur, rfl, _, hg, _⟩
  · cases e
  · cases e
    have := (show w.heap[g]? = _ from h).symm.trans hg
    simp at this
theorem Bx.log {w w' : World} {b : Nat} {k v : Int} {c : Bool} (h : Bx w b k v c) {B R : Nat} {vs : Value} {l : List (Int × Int)} {o : Option (Int × Int)} (r : Rec B w R vs l) (hl : LoggedO B R vs l o w w') : Bx w' b k v c := by
  obtain ⟨_, _, hg, _⟩ := hl
  refine (hg.block b h.lt ?_).trans h
  rintro (rfl | e)
  · have := (show w.heap[b]? = _ from h).symm.trans r.2.1
    simp at this
  · exact h.not_row r.2.2 e
theorem Bx.grown {w w' : World} {b : Nat} {k v : Int} {c : Bool} (h : Bx w b k v c) {B n : Nat} {u : Value} {xs : List Value} (ho : w.ownsRow B 37 2 u n xs) (hg : w.grownBy w' u.ownBlock) : Bx w' b k v c :=
  (hg.block b h.lt (fun e => h.not_row ho e.symm)).trans h
theorem bx_new (w : World) (k v : Int) (c : Bool) : Bx (w.alloc (.cells #[.int .i64 k, .int .i64 v, .bool c] 34)) w.heap.size k v c := by
  show _ = _
  rw [heap_alloc_any, if_pos rfl]
theorem two_new_cells (w : World) (x y : Value) (t : TypeId) : ∀ j u, [x, y][j]? = some u → (w.alloc (.cells #[x, y] t)).cell? ((⟨w.heap.size, 0, none⟩ : Addr).add j) = some u := by
  intro j u hj
  match j, hj with
  | 0, hj => simp at hj; subst hj; simp [Addr.add]
  | 1, hj => simp at hj; subst hj; simp [Addr.add]
end Go.Proofs.Ytigapdfefapdgaa
