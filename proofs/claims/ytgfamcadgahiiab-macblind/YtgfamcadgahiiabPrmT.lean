import Derived.Test.YtgfamcadgahiiabPrmH
namespace Go.Proofs.Ytgfamcadgahiiab
set_option linter.unusedSimpArgs false
open Go.ChangeShapes Go.WideShapes Go.ChangeAt Go.RowKit Go.Pin Go.Prm
/-- boxes of keys and of Elements -/
structure Bs (w0 : World) (ks bx : List (Nat × List Int)) (W : World) : Prop where
  old : Below w0.heap.size w0 W
  keys : ∀ p ∈ ks, rowB W p.1 p.2 71
  rows : ∀ p ∈ bx, rowAt W p.1 p.2 69
theorem Bs.refl (w : World) : Bs w [] [] w := ⟨Below.refl _ _, by simp, by simp⟩
theorem Bs.below {w0 W W' : World} {ks bx : List (Nat × List Int)} (h : Bs w0 ks bx W) (hb : Below W.heap.size W W') : Bs w0 ks bx W' :=
  ⟨h.old.trans (hb.mono h.old.size), fun p hp => (hb.block _ (Array.getElem?_eq_some_iff.1 (h.keys p hp)).1).trans (h.keys p hp), fun p hp => row_below (h.rows p hp) hb⟩
theorem Bs.new {w0 W : World} {ks bx : List (Nat × List Int)} (h : Bs w0 ks bx W) (x : List Int) : Bs w0 ks ((W.heap.size, x) :: bx) (W.alloc (.cells (VI .u64 x) 69)) := by
  have hb := h.below ((Below.refl _ _).alloc (Nat.le_refl _) (.cells (VI .u64 x) 69))
  refine ⟨hb.old, hb.keys, fun p hp => ?_⟩
  rcases List.mem_cons.1 hp with rfl | hp
  · simp only [rowAt, heap_alloc_any, if_true]
  · exact hb.rows p hp
theorem Bs.newk {w0 W : World} {ks bx : List (Nat × List Int)} (h : Bs w0 ks bx W) (x : List Int) : Bs w0 ((W.heap.size, x) :: ks) bx (W.alloc (.cells (VI .u8 x) 71)) := by
  have hb := h.below ((Below.refl _ _).alloc (Nat.le_refl _) (.cells (VI .u8 x) 71))
  refine ⟨hb.old, fun p hp => ?_, hb.rows⟩
  rcases List.mem_cons.1 hp with rfl | hp
  · simp only [rowB, heap_alloc_any, if_true]
  · exact hb.keys p hp
theorem Bs.row {w0 W : World} {ks bx : List (Nat × List Int)} (h : Bs w0 ks bx W) {g : Nat} {x : List Int} (hp : (g, x) ∈ bx) : rowAt W g x 69 := h.rows _ hp
theorem Bs.key {w0 W : World} {ks bx : List (Nat × List Int)} (h : Bs w0 ks bx W) {g : Nat} {x : List Int} (hp : (g, x) ∈ ks) : rowB W g x 71 := h.keys _ hp
theorem Bs.lt {w0 W : World} {ks bx : List (Nat × List Int)} (h : Bs w0 ks bx W) {g : Nat} {x : List Int} (hp : (g, x) ∈ bx) : g < W.heap.size := (Array.getElem?_eq_some_iff.1 (h.row hp)).1
theorem Bs.ltk {w0 W : World} {ks bx : List (Nat × List Int)} (h : Bs w0 ks bx W) {g : Nat} {x : List Int} (hp : (g, x) ∈ ks) : g < W.heap.size := (Array.getElem?_eq_some_iff.1 (h.key hp)).1
theorem bs_start2 (w : World) (x y : List Int) : Bs w [(w.heap.size + 1, y), (w.heap.size, x)] [] ((w.alloc (.cells (VI .u8 x) 71)).alloc (.cells (VI .u8 y) 71)) := by
  have := ((Bs.refl w).newk x).newk y
  rw [size_alloc] at this
  exact this
theorem bs_start3 (w : World) (x y z : List Int) : Bs w [(w.heap.size + 2, z), (w.heap.size + 1, y), (w.heap.size, x)] [] (((w.alloc (.cells (VI .u8 x) 71)).alloc (.cells (VI .u8 y) 71)).alloc (.cells (VI .u8 z) 71)) := by
  have := (((Bs.refl w).newk x).newk y).newk z
  rw [size_alloc, size_alloc] at this
  exact this
theorem bs_start1 (w : World) (x : List Int) : Bs w [(w.heap.size, x)] [] (w.alloc (.cells (VI .u8 x) 71)) := (Bs.refl w).newk x
theorem Bs.sub {w0 W : World} {ks bx by' : List (Nat × List Int)} (h : Bs w0 ks bx W) (hs : ∀ p ∈ by', p ∈ bx) : Bs w0 ks by' W := ⟨h.old, h.keys, fun p hp => h.rows p (hs p hp)⟩
theorem Bs.store5 {w0 W : World} {ks bx : List (Nat × List Int)} {g : Nat} {a : List Int} (h : Bs w0 ks ((g, a) :: bx) W) (hg : w0.heap.size ≤ g) (hbx : ∀ p ∈ bx, p.1 ≠ g) (hks : ∀ p ∈ ks, p.1 ≠ g) (ha : a.length = 5) (x0 x1 x2 x3 x4 : Int) :
    Bs w0 ks ((g, [x0, x1, x2, x3, x4]) :: bx) (((((W.setCell ⟨g, 0, none⟩ (.int .u64 x0)).setCell ⟨g, 1, none⟩ (.int .u64 x1)).setCell ⟨g, 2, none⟩ (.int .u64 x2)).setCell ⟨g, 3, none⟩ (.int .u64 x3)).setCell ⟨g, 4, none⟩ (.int .u64 x4)) := by
  have hr := h.row (g := g) (x := a) (by simp)
  obtain ⟨a0, a1, a2, a3, a4, rfl⟩ := five ha
  refine ⟨((((h.old.setCell hg _).setCell hg _).setCell hg _).setCell hg _).setCell hg _, fun p hp => ?_, fun p hp => ?_⟩
  · have hn := hks p hp
    exact row_other (row_other (row_other (row_other (row_other (h.keys p hp) hn _) hn _) hn _) hn _) hn _
  · rcases List.mem_cons.1 hp with rfl | hp
    · exact row_set (row_set (row_set (row_set (row_set hr 0 x0) 1 x1) 2 x2) 3 x3) 4 x4
    · have hn := hbx p hp
      exact row_other (row_other (row_other (row_other (row_other (h.rows p (by simp [hp])) hn _) hn _) hn _) hn _) hn _
theorem Bs.drew {w0 W : World} {ks bx : List (Nat × List Int)} (h : Bs w0 ks bx W) : Bs w0 ks bx W.drew := ⟨h.old.drew, h.keys, h.rows⟩
theorem Bs.fresh {w0 W : World} {ks bx : List (Nat × List Int)} (h : Bs w0 ks bx W) {g : Nat} (hg : W.heap.size = g) : w0.heap.size ≤ g ∧ (∀ p ∈ bx, p.1 ≠ g) ∧ (∀ p ∈ ks, p.1 ≠ g) := by
  subst hg
  exact ⟨h.old.size, fun p hp => Nat.ne_of_lt (h.lt (g := p.1) (x := p.2) hp), fun p hp => Nat.ne_of_lt (h.ltk (g := p.1) (x := p.2) hp)⟩
theorem eq17t {k : List Int} (hk : k.length = 17) (w : World) : (Op.equalIn 10000 71 (.agg (VI .u8 k)) (.agg (VI .u8 k))).run Try.prog w = .ok true w := (eq17 hk hk w).trans (by rw [beq_self_eq_true])
theorem wp_as {P : Program} {c c' : Code} {Q : Exit → Act → World → Prop} {a : Act} {w : World} (h : c = c') (hc : Code.wp P c' Q a w) : Code.wp P c Q a w := by rw [h]; exact hc
theorem yields17 {ops : Array Oper} {S : World → Prop} {op : Oper} {a : Act} (hw : Region.wanted op (yielded ops a.tmps) = true) (x : Operand) (ho : op.op = .load 71 x) (g : Nat) (hx : a.eval x = .pointer (some ⟨g, 0, none⟩)) (l : List Int) (hl : Key17 l) (h : ∀ Y, S Y → rowB Y g l 71) : YieldsIf Try.prog ops S op (.agg (VI .u8 l)) a :=
  yieldsIf_load_row hw 71 x ho g hx 71 (VI .u8 l) (0, 0) _ h Try.underlying71 rfl hl.info
def findReg (n : Nat) : Code → Option Code
  | .region i ops d => if i = n then some (.region i ops d) else none
  | .seq a b => match findReg n a with
    | some c => some c
    | none => findReg n b
  | .block _ c => findReg n c
  | .loop c => findReg n c
  | .scope c => findReg n c
  | .cond _ a b => match findReg n a with
    | some c => some c
    | none => findReg n b
  | _ => none
end Go.Proofs.Ytgfamcadgahiiab
