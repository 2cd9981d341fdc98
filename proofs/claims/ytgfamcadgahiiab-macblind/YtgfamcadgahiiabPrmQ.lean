import Derived.Test.YtgfamcadgahiiabPrmC
import Derived.Test.YtgfamcadgahiiabTrC
namespace Go.Proofs.Ytgfamcadgahiiab
set_option linter.unusedSimpArgs false
open Go.ChangeShapes Go.WideShapes Go.ChangeAt Go.RowKit Go.Pin Go.Prm
theorem infoE : (Try.prog.info? 69).map (·.size) = some 5 := by kernel_rfl
theorem infoA5 : (Try.prog.info? 67).map (·.size) = some 5 := by kernel_rfl
theorem VI5 (k : IntKind) {l : List Int} (h : l.length = 5) : (VI k l).size = 5 := by simp [h]
/-- a row of limbs in its box -/
abbrev rowAt (w : World) (g : Nat) (l : List Int) (T : TypeId) : Prop := w.heap[g]? = some (.cells (VI .u64 l) T (0, 0))
theorem row_cell {w : World} {g : Nat} {l : List Int} {T : TypeId} (h : rowAt w g l T) {i : Nat} (hi : i < l.length) : w.cell? ⟨g, i, none⟩ = some (.int .u64 (l.getD i 0)) := by
  rw [cell_of_row w _ _ _ _ _ h, VI_at _ _ _ hi]
theorem row_set {w : World} {g : Nat} {l : List Int} {T : TypeId} (h : rowAt w g l T) (i : Nat) (v : Int) : rowAt (w.setCell ⟨g, i, none⟩ (.int .u64 v)) g (l.set i v) T := by
  unfold rowAt
  rw [heap_setCell_same w _ _ _ _ _ h, VI_set]
theorem row_other {w : World} {g : Nat} {o : Option Obj} (h : w.heap[g]? = o) {p : Addr} (hp : g ≠ p.block) (v : Value) : (w.setCell p v).heap[g]? = o := by
  rw [heap_setCell_other _ _ _ _ hp]; exact h
theorem fill_step (b R : List Int) (k : Nat) (hl : R.length = 10) (hk : k < 5) (h : ∀ j, j < k → R.getD j 0 = 5 * b.getD j 0 ∧ R.getD (j + 5) 0 = b.getD j 0) :
    ∀ j, j < k + 1 → ((R.set k (5 * b.getD k 0)).set (k + 5) (b.getD k 0)).getD j 0 = 5 * b.getD j 0 ∧ ((R.set k (5 * b.getD k 0)).set (k + 5) (b.getD k 0)).getD (j + 5) 0 = b.getD j 0 := by
  intro j hj
  simp only [List.getD_eq_getElem?_getD, List.getElem?_set, List.length_set] at h ⊢
  by_cases e : j = k
  · subst e
    constructor
    · rw [if_neg (by omega), if_pos rfl, if_pos (by omega)]; rfl
    · rw [if_pos rfl, if_pos (by omega)]; rfl
  · have := h j (by omega)
    constructor
    · rw [if_neg (by omega), if_neg (by omega)]; exact this.1
    · rw [if_neg (by omega), if_neg (by omega)]; exact this.2
theorem fill_done (b R : List Int) (hl : R.length = 10) (hb : b.length = 5) (h : ∀ j, j < 5 → R.getD j 0 = 5 * b.getD j 0 ∧ R.getD (j + 5) 0 = b.getD j 0) : R = rw10 b := by
  obtain ⟨b0, b1, b2, b3, b4, rfl⟩ := five hb
  match R, hl with
  | [r0, r1, r2, r3, r4, r5, r6, r7, r8, r9], _ =>
    have h0 := h 0 (by omega)
    have h1 := h 1 (by omega)
    have h2 := h 2 (by omega)
    have h3 := h 3 (by omega)
    have h4 := h 4 (by omega)
    simp at h0 h1 h2 h3 h4
    simp [rw10, h0, h1, h2, h3, h4]
theorem lim_at {a : List Int} (h : Lim a) {k : Nat} (hk : k < 5) : 0 ≤ a.getD k 0 ∧ a.getD k 0 < 134217728 := by
  have : k < a.length := by rw [h.len]; exact hk
  exact h.bd _ (by rw [List.getD_eq_getElem?_getD, List.getElem?_eq_getElem this]; exact List.getElem_mem this)
theorem rw10_len {b : List Int} (h : b.length = 5) : (rw10 b).length = 10 := by simp [rw10, h]
theorem rw10_bd {b : List Int} (h : Lim b) : ∀ x ∈ rw10 b, 0 ≤ x ∧ x < 671088640 := by
  intro x hx
  simp only [rw10, List.mem_append, List.mem_map] at hx
  rcases hx with ⟨y, hy, rfl⟩ | hx
  · have := h.bd y hy; omega
  · have := h.bd x hx; omega
theorem rw10_at {b : List Int} (h : Lim b) {k : Nat} (hk : k < 10) : 0 ≤ (rw10 b).getD k 0 ∧ (rw10 b).getD k 0 < 671088640 := by
  have : k < (rw10 b).length := by rw [rw10_len h.len]; exact hk
  exact rw10_bd h _ (by rw [List.getD_eq_getElem?_getD, List.getElem?_eq_getElem this]; exact List.getElem_mem this)
theorem bdq {x y : Int} (x0 : 0 ≤ x) (x1 : x < 134217728) (y0 : 0 ≤ y) (y1 : y < 671088640) : 0 ≤ x * y ∧ x * y < 90071992547409920 :=
  ⟨Int.mul_nonneg x0 y0, by
    have h1 : x * y ≤ 134217728 * y := Int.mul_le_mul_of_nonneg_right (by omega) y0
    omega⟩
theorem sm_bd {a b : List Int} (ha : Lim a) (hb : Lim b) (p : Nat) : ∀ k : Nat, 0 ≤ sm a (rw10 b) p k ∧ sm a (rw10 b) p k ≤ k * 90071992547409920
  | 0 => by simp [sm]
  | k + 1 => by
    have ih := sm_bd ha hb p k
    have ga : 0 ≤ a.getD k 0 ∧ a.getD k 0 < 134217728 := by
      by_cases h : k < 5
      · exact lim_at ha h
      · rw [List.getD_eq_getElem?_getD, List.getElem?_eq_none (by rw [ha.len]; omega)]; simp
    have gb : 0 ≤ (rw10 b).getD (p + 5 - k) 0 ∧ (rw10 b).getD (p + 5 - k) 0 < 671088640 := by
      by_cases h : p + 5 - k < 10
      · exact rw10_at hb h
      · rw [List.getD_eq_getElem?_getD, List.getElem?_eq_none (by rw [rw10_len hb.len]; omega)]; simp
    have := bdq ga.1 ga.2 gb.1 gb.2
    simp only [sm]
    generalize a.getD k 0 * (rw10 b).getD (p + 5 - k) 0 = z at *
    omega
theorem sums_at (a b : List Int) (k : Nat) (hk : k < 5) {s : Int} {r : List Int} (h : s :: r = (sums a b).drop k) : s = sm a (rw10 b) k 5 := by
  have h5 : k = 0 ∨ k = 1 ∨ k = 2 ∨ k = 3 ∨ k = 4 := by omega
  rcases h5 with rfl | rfl | rfl | rfl | rfl <;> simp [sums] at h <;> exact h.1
theorem cells5 {w : World} {g : Nat} {x0 x1 x2 x3 x4 : Int} {T : TypeId} (h : rowAt w g [x0, x1, x2, x3, x4] T) : w.cell? ⟨g, 0, none⟩ = some (.int .u64 x0) ∧ w.cell? ⟨g, 1, none⟩ = some (.int .u64 x1) ∧ w.cell? ⟨g, 2, none⟩ = some (.int .u64 x2) ∧ w.cell? ⟨g, 3, none⟩ = some (.int .u64 x3) ∧ w.cell? ⟨g, 4, none⟩ = some (.int .u64 x4) :=
  ⟨row_cell h (i := 0) (by simp), row_cell h (i := 1) (by simp), row_cell h (i := 2) (by simp), row_cell h (i := 3) (by simp), row_cell h (i := 4) (by simp)⟩
theorem row_below {w w' : World} {g : Nat} {l : List Int} {T : TypeId} (h : rowAt w g l T) (hb : Below w.heap.size w w') : rowAt w' g l T :=
  (hb.block g (Array.getElem?_eq_some_iff.1 h).1).trans h
theorem row_grow {S : Nat → Prop} {w w' : World} {g : Nat} {l : List Int} {T : TypeId} (h : rowAt w g l T) (hb : Grow S w w') (hS : ¬ S g) : rowAt w' g l T :=
  (hb.block g (Array.getElem?_eq_some_iff.1 h).1 hS).trans h
end Go.Proofs.Ytgfamcadgahiiab
