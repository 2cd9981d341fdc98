import Derived.Test.YtfkbgodfcnmepabDoorDgV
namespace Go.Proofs.YtfkbgodfcnmepabDoor
set_option linter.unusedSimpArgs false
set_option linter.unusedVariables false
open Go.ChangeShapes Go.WideShapes Go.ChangeAt Go.RowKit Go.Pin Go.Str Go.Dig
/-! the Hash -/
def hsP (rv : Value) (size : Nat) : List Value := [rv, .int .i64 (size : Int)]
def hsQ (pr : Nat) (blk : List Int) (held : Nat) : List Value := .int .u64 (pr : Int) :: (blk.map (Value.int .u8) ++ [.int .i64 (held : Int)])
def hsO (rv : Value) (size : Nat) (st : List Nat) (pr : Nat) (blk : List Int) (held : Nat) : Obj := .cells (hsP rv size ++ (cellsW st ++ hsQ pr blk held)).toArray 51
section
variable {w : World} {g : Nat} {rv : Value} {size : Nat} {st : List Nat} {pr : Nat} {blk : List Int} {held : Nat}
theorem hs_rs (hg : w.heap[g]? = some (hsO rv size st pr blk held)) : RS w g (hsP rv size) (hsQ pr blk held) st 51 := hg
theorem hs_r (hg : w.heap[g]? = some (hsO rv size st pr blk held)) : w.cell? ⟨g, 0, none⟩ = some rv := by rw [cell_of_row w _ _ _ _ _ hg]; rfl
theorem hs_size (hg : w.heap[g]? = some (hsO rv size st pr blk held)) : w.cell? ⟨g, 1, none⟩ = some (.int .i64 (size : Int)) := by rw [cell_of_row w _ _ _ _ _ hg]; rfl
theorem hs_tail (hs : st.length = 8) (hg : w.heap[g]? = some (hsO rv size st pr blk held)) (k : Nat) : w.cell? ⟨g, 10 + k, none⟩ = (hsQ pr blk held)[k]? := by
  rw [cell_of_row w _ _ _ _ _ hg]
  simp only [List.getElem?_toArray]
  rw [List.getElem?_append_right (by simp [hsP]; omega), List.getElem?_append_right (by simp [hsP, cellsW_len, hs]; omega)]
  congr 1
  simp [hsP, cellsW_len, hs]
  omega
theorem hs_pr (hs : st.length = 8) (hg : w.heap[g]? = some (hsO rv size st pr blk held)) : w.cell? ⟨g, 10, none⟩ = some (.int .u64 (pr : Int)) := by
  have := hs_tail hs hg 0
  exact this
theorem hs_blk (hs : st.length = 8) (hb : blk.length = 64) (hg : w.heap[g]? = some (hsO rv size st pr blk held)) {i : Nat} (hi : i < 64) : w.cell? ⟨g, 11 + i, none⟩ = some (.int .u8 (blk.getD i 0)) := by
  have := hs_tail hs hg (1 + i)
  rw [show 10 + (1 + i) = 11 + i by omega] at this
  rw [this, Nat.add_comm 1 i]
  unfold hsQ
  rw [List.getElem?_cons_succ, List.getElem?_append_left (by rw [List.length_map]; omega)]
  simp [List.getD, List.getElem?_eq_getElem (show i < blk.length by omega)]
theorem hs_held (hs : st.length = 8) (hb : blk.length = 64) (hg : w.heap[g]? = some (hsO rv size st pr blk held)) : w.cell? ⟨g, 75, none⟩ = some (.int .i64 (held : Int)) := by
  have := hs_tail hs hg 65
  rw [show 10 + 65 = 75 from rfl] at this
  rw [this]
  unfold hsQ
  rw [List.getElem?_cons_succ, List.getElem?_append_right (by rw [List.length_map, hb]; decide), List.length_map, hb]
  rfl
theorem hs_froz (hg : w.heap[g]? = some (hsO rv size st pr blk held)) (j : Nat) : w.frozen? ⟨g, j, none⟩ = false := frozen_of_row w _ _ _ _ hg
theorem hs_set (hs : st.length = 8) (hg : w.heap[g]? = some (hsO rv size st pr blk held)) (k : Nat) (v : Value) : (w.setCell ⟨g, 10 + k, none⟩ v).heap[g]? = some (.cells (hsP rv size ++ (cellsW st ++ (hsQ pr blk held).set k v)).toArray 51) := by
  rw [heap_setCell_same w _ _ _ _ _ hg]
  congr 2
  rw [List.setIfInBounds_toArray]
  congr 1
  rw [List.set_append_right _ _ (by simp [hsP]; omega), List.set_append_right _ _ (by simp [hsP, cellsW_len, hs]; omega)]
  congr 3
  simp [hsP, cellsW_len, hs]
  omega
theorem hs_setPr (hs : st.length = 8) (hg : w.heap[g]? = some (hsO rv size st pr blk held)) (pr' : Nat) : (w.setCell ⟨g, 10, none⟩ (.int .u64 (pr' : Int))).heap[g]? = some (hsO rv size st pr' blk held) := hs_set hs hg 0 _
theorem hs_setHeld (hs : st.length = 8) (hb : blk.length = 64) (hg : w.heap[g]? = some (hsO rv size st pr blk held)) (h' : Nat) : (w.setCell ⟨g, 75, none⟩ (.int .i64 (h' : Int))).heap[g]? = some (hsO rv size st pr blk h') := by
  have := hs_set hs hg 65 (.int .i64 (h' : Int))
  rw [show 10 + 65 = 75 from rfl] at this
  rw [this]
  unfold hsO
  congr 5
  unfold hsQ
  rw [List.set_cons_succ, List.set_append_right _ _ (by rw [List.length_map, hb]; decide), List.length_map, hb]
  rfl
/-- bytes come into the block -/
def putb : List Int → Nat → List Int → List Int
  | L, _, [] => L
  | L, o, v :: r => putb (L.set o v) (o + 1) r
theorem putb_len : ∀ (vs L : List Int) (o : Nat), (putb L o vs).length = L.length
  | [], _, _ => rfl
  | v :: r, L, o => by rw [putb, putb_len r]; simp
theorem putb_cons : ∀ (vs L : List Int) (x : Int) (o : Nat), putb (x :: L) (o + 1) vs = x :: putb L o vs
  | [], _, _, _ => rfl
  | v :: r, L, x, o => by rw [putb, putb, List.set_cons_succ, putb_cons r]
theorem putb_zero : ∀ (vs L : List Int), vs.length ≤ L.length → putb L 0 vs = vs ++ L.drop vs.length
  | [], L, _ => rfl
  | v :: r, [], h => by simp at h
  | v :: r, x :: L, h => by
    rw [putb, List.set_cons_zero, putb_cons, putb_zero r L (by simpa using h)]
    rfl
theorem putb_at : ∀ (o : Nat) (vs L : List Int), o + vs.length ≤ L.length → putb L o vs = L.take o ++ (vs ++ L.drop (o + vs.length))
  | 0, vs, L, h => by rw [putb_zero vs L (by omega), Nat.zero_add]; rfl
  | o + 1, vs, [], h => by simp at h
  | o + 1, vs, x :: L, h => by
    rw [putb_cons, putb_at o vs L (by simp at h; omega), show o + 1 + vs.length = (o + vs.length) + 1 by omega]
    rfl
theorem hs_puts (hs : st.length = 8) : ∀ (vs : List Int) {w : World} {blk : List Int} {o : Nat}, blk.length = 64 → o + vs.length ≤ 64 → w.heap[g]? = some (hsO rv size st pr blk held) → (w.setCells g (11 + o) (vs.map (Value.int .u8))).heap[g]? = some (hsO rv size st pr (putb blk o vs) held)
  | [], _, _, _, _, _, h => h
  | v :: r, w, blk, o, hb, ho, h => by
    have h1 := hs_set hs h (1 + o) (.int .u8 v)
    rw [show 10 + (1 + o) = 11 + o by omega] at h1
    have e : (hsQ pr blk held).set (1 + o) (.int .u8 v) = hsQ pr (blk.set o v) held := by
      unfold hsQ
      simp only [List.length_cons] at ho
      rw [Nat.add_comm 1 o, List.set_cons_succ, List.set_append_left _ _ (by rw [List.length_map]; omega), List.map_set]
    rw [e] at h1
    have := hs_puts hs r (blk := blk.set o v) (o := o + 1) (by rw [List.length_set]; exact hb) (by simp only [List.length_cons] at ho; omega) h1
    exact this
end
/-- what a Hash that has taken A is -/
def HSt (rv : Value) (size : Nat) (h : List Nat) (A : List Int) (o : Obj) : Prop :=
  ∃ blk, blk.length = 64 ∧ Byb blk ∧ blk.take (hld A).length = hld A ∧ o = hsO rv size (prn h A (nbl A.length)) (64 * nbl A.length) blk (hld A).length
end Go.Proofs.YtfkbgodfcnmepabDoor
