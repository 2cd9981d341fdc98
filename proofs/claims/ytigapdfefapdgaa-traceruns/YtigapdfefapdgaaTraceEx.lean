import Derived.Test.YtigapdfefapdgaaTraceTw
namespace Go.Proofs.Ytigapdfefapdgaa
set_option linter.unusedSimpArgs false
open Go.ChangeShapes Go.WideShapes Go.ChangeAt Go.RowKit Go.Pin
/-- rows written out -/
def ex (M : List (Int × Int × Int)) : List (Int × Int) := M.flatMap fun x => List.replicate x.2.2.toNat (x.1, x.2.1)
def evs (M : List (Int × Int × Int)) : List (Int × Int) := M.map fun x => (x.1, x.2.1)
def Adj (E : List (Int × Int)) : Prop := ∀ i a b, E[i]? = some a → E[i + 1]? = some b → a ≠ b
theorem ex_app (a b : List (Int × Int × Int)) : ex (a ++ b) = ex a ++ ex b := by simp [ex]
theorem adj_snoc {E : List (Int × Int)} {y x : Int × Int} (h : Adj (E ++ [y])) (hne : y ≠ x) : Adj (E ++ [y] ++ [x]) := by
  intro i a b ha hb
  by_cases h1 : i + 1 < (E ++ [y]).length
  · rw [List.getElem?_append_left h1] at hb
    rw [List.getElem?_append_left (by omega)] at ha
    exact h i a b ha hb
  · have hlt := (List.getElem?_eq_some_iff.1 hb).1
    simp only [List.length_append, List.length_cons, List.length_nil] at h1 hlt
    have hi : i = E.length := by omega
    subst hi
    simp at ha hb
    subst ha hb
    exact hne
theorem rn_good (A : List (Int × Int)) : ex (rn A) = A ∧ Adj (evs (rn A)) := by
  have key : ∀ (n : Nat) (A : List (Int × Int)), A.length = n → ex (rn A) = A ∧ Adj (evs (rn A)) := by
    intro n
    induction n with
    | zero => intro A h; rw [List.length_eq_zero_iff.1 h]; exact ⟨rfl, fun i a b ha _ => by simp [rn, evs] at ha⟩
    | succ n ih =>
      intro A h
      rcases List.eq_nil_or_concat A with rfl | ⟨C, x, rfl⟩
      · simp at h
      rw [List.concat_eq_append] at h ⊢
      have h1 := ih C (by simpa using h)
      have hb := rn_bound C
      rw [rn_snoc]
      generalize rn C = acc at *
      rcases List.eq_nil_or_concat acc with rfl | ⟨q, ⟨k, v, t⟩, rfl⟩
      · rw [rnStep_new]
        have hC : C = [] := h1.1.symm
        subst hC
        refine ⟨rfl, fun i a b _ hb => ?_⟩
        simp [evs] at hb
      · rw [List.concat_eq_append] at h1 hb ⊢
        have ht := (hb.2 (k, v, t) (by simp)).1
        simp only at ht
        by_cases hc : k = x.1 ∧ v = x.2
        · have hx : x = (k, v) := by rw [hc.1, hc.2]
          rw [hx, rnStep_like]
          refine ⟨?_, ?_⟩
          · have := h1.1
            rw [ex_app] at this ⊢
            rw [← this, List.append_assoc]
            congr 1
            show List.replicate (t + 1).toNat (k, v) ++ [] = (List.replicate t.toNat (k, v) ++ []) ++ [(k, v)]
            rw [show (t + 1).toNat = t.toNat + 1 by omega, List.replicate_succ', List.append_nil, List.append_nil]
          · have := h1.2
            simpa [evs] using this
        · rw [rnStep_unlike _ _ _ _ _ hc]
          refine ⟨?_, ?_⟩
          · rw [ex_app, h1.1]
            rfl
          · have := h1.2
            have e1 : evs (q ++ [(k, v, t)] ++ [(x.1, x.2, 1)]) = evs q ++ [(k, v)] ++ [x] := by simp [evs]
            have e2 : evs (q ++ [(k, v, t)]) = evs q ++ [(k, v)] := by simp [evs]
            rw [e1]
            rw [e2] at this
            exact adj_snoc this (fun e => hc ⟨by rw [← e], by rw [← e]⟩)
  exact key _ A rfl
theorem ex_at (M : List (Int × Int × Int)) (i : Nat) (k v t : Int) (h : M[i]? = some (k, v, t)) (j : Nat) (hj : j < t.toNat) : (ex M)[(ex (M.take i)).length + j]? = some (k, v) := by
  have hi := (List.getElem?_eq_some_iff.1 h).1
  have hd : M.drop i = (k, v, t) :: M.drop (i + 1) := by
    rw [List.drop_eq_getElem_cons hi]
    rw [List.getElem?_eq_getElem hi] at h
    rw [Option.some.inj h]
  have : ex M = ex (M.take i) ++ (List.replicate t.toNat (k, v) ++ ex (M.drop (i + 1))) := by
    conv => lhs; rw [← List.take_append_drop i M, ex_app, hd]
    rfl
  rw [this, List.getElem?_append_right (by omega), Nat.add_sub_cancel_left, List.getElem?_append_left (by simpa using hj)]
  simp [hj]
theorem ex_step (M : List (Int × Int × Int)) (i : Nat) (k v t : Int) (h : M[i]? = some (k, v, t)) : (ex (M.take (i + 1))).length = (ex (M.take i)).length + t.toNat := by
  rw [List.take_add_one, h, ex_app, List.length_append]
  simp [ex]
end Go.Proofs.Ytigapdfefapdgaa
