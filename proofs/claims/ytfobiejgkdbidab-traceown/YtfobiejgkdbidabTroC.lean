import Derived.Test.YtfobiejgkdbidabTroB
namespace Go.Proofs.Ytfobiejgkdbidab
set_option linter.unusedSimpArgs false
set_option linter.unusedVariables false
open Go.ChangeShapes Go.WideShapes Go.ChangeAt Go.RowKit Go.Pin
theorem evC_set (l : List (Int × Int)) (k : Nat) (x y : Int) : ((evC l).set (k * 2) (.int .i64 x)).set (k * 2 + 1) (.int .i64 y) = evC (l.set k (x, y)) := by
  induction l generalizing k with
  | nil => simp [evC]
  | cons a r ih =>
    cases k with
    | zero => simp [evC]
    | succ k =>
      have e : evC (a :: r) = .int .i64 a.1 :: .int .i64 a.2 :: evC r := by simp [evC]
      rw [e, show (k + 1) * 2 = k * 2 + 2 by omega]
      show Value.int .i64 a.1 :: Value.int .i64 a.2 :: ((evC r).set (k * 2) (.int .i64 x)).set (k * 2 + 1) (.int .i64 y) = _
      rw [ih, List.set_cons_succ]
      simp [evC]
theorem rnC_set (l : List (Int × Int × Int)) (k : Nat) (x y z : Int) : (((rnC l).set (k * 3) (.int .i64 x)).set (k * 3 + 1) (.int .i64 y)).set (k * 3 + 2) (.int .i64 z) = rnC (l.set k (x, y, z)) := by
  induction l generalizing k with
  | nil => simp [rnC]
  | cons a r ih =>
    cases k with
    | zero => simp [rnC]
    | succ k =>
      have e : rnC (a :: r) = .int .i64 a.1 :: .int .i64 a.2.1 :: .int .i64 a.2.2 :: rnC r := by simp [rnC]
      rw [e, show (k + 1) * 3 = k * 3 + 3 by omega]
      show Value.int .i64 a.1 :: Value.int .i64 a.2.1 :: Value.int .i64 a.2.2 :: (((rnC r).set (k * 3) (.int .i64 x)).set (k * 3 + 1) (.int .i64 y)).set (k * 3 + 2) (.int .i64 z) = _
      rw [ih, List.set_cons_succ]
      simp [rnC]
theorem grow_grown {W W' : World} {g : Nat} (h : W.grownBy W' (some g)) : Grow (fun k => k = g) W W' := ⟨h.os, h.tape, h.output, h.size, fun k hk hn => h.block k hk (fun q => hn (by cases q; rfl))⟩
/-- one event written into a list of one's own -/
theorem Os.st2 {B : Nat} {w W : World} {it : Nat → It} (h : Os B w it W) (c : Nat) {e : TypeId} {g n cap : Nat} {l : List (Int × Int)} (he : it c = itRow B e 2 (.slice (some ⟨g, 0, none⟩) n cap) n (evC l)) (k : Nat) (x y : Int) :
    Os B w (upd it c (itRow B e 2 (.slice (some ⟨g, 0, none⟩) n cap) n (evC (l.set k (x, y))))) ((W.setCell ⟨g, k * 2, none⟩ (.int .i64 x)).setCell ⟨g, k * 2 + 1, none⟩ (.int .i64 y)) := by
  have h0 := h.row c he
  obtain ⟨h1, g1⟩ := h0.stored (k * 2) (.int .i64 x)
  obtain ⟨h2, g2⟩ := h1.stored (k * 2 + 1) (.int .i64 y)
  rw [evC_set] at h2
  refine h.grow c ?_ _ h2 (fun k hk => .inl (by rw [he]; exact hk))
  rw [he]
  exact ((grow_grown g1).trans (grow_grown g2)).mono (fun k hk => by subst hk; rfl)
theorem Os.st3 {B : Nat} {w W : World} {it : Nat → It} (h : Os B w it W) (c : Nat) {e : TypeId} {g n cap : Nat} {l : List (Int × Int × Int)} (he : it c = itRow B e 3 (.slice (some ⟨g, 0, none⟩) n cap) n (rnC l)) (k : Nat) (x y z : Int) :
    Os B w (upd it c (itRow B e 3 (.slice (some ⟨g, 0, none⟩) n cap) n (rnC (l.set k (x, y, z))))) (((W.setCell ⟨g, k * 3, none⟩ (.int .i64 x)).setCell ⟨g, k * 3 + 1, none⟩ (.int .i64 y)).setCell ⟨g, k * 3 + 2, none⟩ (.int .i64 z)) := by
  have h0 := h.row c he
  obtain ⟨h1, g1⟩ := h0.stored (k * 3) (.int .i64 x)
  obtain ⟨h2, g2⟩ := h1.stored (k * 3 + 1) (.int .i64 y)
  obtain ⟨h3, g3⟩ := h2.stored (k * 3 + 2) (.int .i64 z)
  rw [rnC_set] at h3
  refine h.grow c ?_ _ h3 (fun k hk => .inl (by rw [he]; exact hk))
  rw [he]
  exact (((grow_grown g1).trans (grow_grown g2)).trans (grow_grown g3)).mono (fun k hk => by subst hk; rfl)
theorem sit_ext (p0 p1 p2 p3 p4 p5 p6 : It) {xL xR yL yR : Nat → It} (h1 : ∀ j, j < 4 → xL j = yL j) (h2 : ∀ j, j < 4 → xR j = yR j) : sit p0 p1 p2 p3 p4 p5 p6 xL xR = sit p0 p1 p2 p3 p4 p5 p6 yL yR := by
  funext c; unfold sit
  repeat' (split <;> try rfl)
  · exact h1 _ (by omega)
  · exact h2 _ (by omega)
def updF {α : Type} (f : Nat → α) (i : Nat) (x : α) : Nat → α := fun j => if j = i then x else f j
theorem updF_at {α : Type} (f : Nat → α) (i : Nat) (x : α) : updF f i x i = x := if_pos rfl
theorem updF_ne {α : Type} (f : Nat → α) {i j : Nat} (x : α) (h : j ≠ i) : updF f i x j = f j := if_neg h
theorem upd_row2 (B : Nat) (e : TypeId) (v : Nat → Value) (n : Nat) (c : Nat → List (Int × Int)) (i : Nat) (x : List (Int × Int)) : upd (fun j => itRow B e 2 (v j) n (evC (c j))) i (itRow B e 2 (v i) n (evC x)) = fun j => itRow B e 2 (v j) n (evC (updF c i x j)) := by
  funext j
  by_cases h : j = i
  · subst h; rw [upd_at, updF_at]
  · rw [upd_ne _ _ h, updF_ne _ _ h]
theorem upd_row3 (B : Nat) (e : TypeId) (v : Nat → Value) (n : Nat) (c : Nat → List (Int × Int × Int)) (i : Nat) (x : List (Int × Int × Int)) : upd (fun j => itRow B e 3 (v j) n (rnC (c j))) i (itRow B e 3 (v i) n (rnC x)) = fun j => itRow B e 3 (v j) n (rnC (updF c i x j)) := by
  funext j
  by_cases h : j = i
  · subst h; rw [upd_at, updF_at]
  · rw [upd_ne _ _ h, updF_ne _ _ h]
end Go.Proofs.Ytfobiejgkdbidab
