import Derived.Test.YtdakhiafagambaaDoorFwB
import Derived.Test.YtdakhiafagambaaDoorFrO
/- stage 20: FrameOwn's helpers -/
namespace Go.Proofs.YtdakhiafagambaaDoor
set_option linter.unusedSimpArgs false
set_option linter.unusedVariables false
set_option maxRecDepth 100000
open Go.ChangeShapes Go.WideShapes Go.ChangeAt Go.RowKit Go.Pin
theorem put_new (hP : PutC) {ea : Int → Addr} {W : World} (hE : Errs ea W) {vm : Value} {M : List Int} (hm : RdB W vm M) (hl : M.length ≤ 65535) :
    Calls Tryd.prog 10 #[.slice none 0 0, vm] W fun e w' => ∃ a c, e = .returned (.tuple #[.slice a (M.length + 2) c, .nilIface]) ∧ w'.ownsRow W.heap.size 5 1 (.slice a (M.length + 2) c) (frm M).length ((frm M).map (Value.int .u8)) ∧ Below W.heap.size W w' := by
  refine (hP ea W (.slice none 0 0) vm [] M hE ⟨none, 0, rfl, ⟨Nat.le_refl _, fun _ => rfl⟩, by decide, .inl rfl⟩ hm (by decide) (by omega)).mono ?_
  rintro e w' ⟨v, c, rfl, ⟨-, h2⟩, hb⟩
  obtain ⟨rfl, ho⟩ := h2 (by omega)
  have e1 : ([] : List Int).length + 2 + M.length = (frm M).length := by rw [frm_len]; simp; omega
  rw [e1, List.nil_append] at ho
  obtain ⟨a, k, rfl⟩ := own_slice' ho
  rw [frm_len] at ho ⊢
  exact ⟨a, k, rfl, ho, hb⟩
/-- each frame twice -/
def dbl (Ms : List (List Int)) : List (List Int) := Ms.flatMap fun M => [frm M, frm M]
theorem dbl_snoc (Ms : List (List Int)) {i : Nat} (h : i < Ms.length) : dbl (Ms.take (i + 1)) = dbl (Ms.take i) ++ [frm (Ms.getD i []), frm (Ms.getD i [])] := by
  unfold dbl
  rw [List.take_add_one, List.getElem?_eq_getElem h, List.flatMap_append]
  simp [List.getD, h]
theorem dbl_len (Ms : List (List Int)) : (dbl Ms).length = 2 * Ms.length := by
  induction Ms with
  | nil => rfl
  | cons M r ih => simp only [dbl, List.flatMap_cons, List.length_append, List.length_cons, List.length_nil] at ih ⊢; omega
theorem dbl_at (Ms : List (List Int)) : ∀ {i : Nat}, i < Ms.length → (dbl Ms)[2 * i]? = some (frm (Ms.getD i [])) ∧ (dbl Ms)[2 * i + 1]? = some (frm (Ms.getD i [])) := by
  induction Ms with
  | nil => intro i h; simp at h
  | cons M r ih =>
    intro i h
    have e : dbl (M :: r) = frm M :: frm M :: dbl r := rfl
    rw [e]
    cases i with
    | zero => exact ⟨rfl, rfl⟩
    | succ i =>
      have := ih (i := i) (by simpa using h)
      rw [show 2 * (i + 1) = 2 * i + 1 + 1 by omega]
      simpa using this
theorem lin_app (Ms : List (List Int)) (M : List Int) : lin (Ms ++ [M]) = lin Ms ++ frm M := by simp [lin]
/-- what the Reader keeps: all frames, without the last byte of the last one, t messages told -/
def kpt (Ms : List (List Int)) (La : List Int) (t : Nat) : List Int := ((lin (Ms ++ [La])).take ((lin (Ms ++ [La])).length - 1)).drop (lin ((Ms ++ [La]).take t)).length
theorem kpt_zero (Ms : List (List Int)) (La : List Int) : kpt Ms La 0 = lin Ms ++ (frm La).take (La.length + 1) := by
  unfold kpt
  have hf := frm_len La
  rw [lin_app]
  simp only [List.take_zero, lin, List.flatMap_nil, List.length_nil, List.drop_zero, List.length_append]
  rw [List.take_append]
  congr 1
  · exact List.take_of_length_le (by omega)
  · congr 1; omega
theorem kpt_len (Ms : List (List Int)) (La : List Int) (t : Nat) : (kpt Ms La t).length ≤ (lin Ms).length + La.length + 2 := by
  unfold kpt
  rw [List.length_drop, List.length_take, lin_app, List.length_append, frm_len]
  omega
theorem kpt_byb {Ms : List (List Int)} {La : List Int} (hl : ∀ M ∈ Ms, M.length ≤ 65535) (h : ∀ M ∈ Ms, Byb M) (hl2 : La.length ≤ 65535) (h2 : Byb La) (t : Nat) : Byb (kpt Ms La t) := fun x hx => by
  have hx := List.mem_of_mem_take (List.mem_of_mem_drop hx)
  rw [lin_app] at hx
  have hf : ∀ M : List Int, M.length ≤ 65535 → Byb M → x ∈ frm M → 0 ≤ x ∧ x < 256 := fun M h1 h3 hx => by
    simp only [frm, List.cons_append, List.nil_append, List.mem_cons] at hx
    rcases hx with rfl | rfl | hx
    · omega
    · omega
    · exact h3 x hx
  rcases List.mem_append.1 hx with hx | hx
  · obtain ⟨M, hM, hx⟩ := List.mem_flatMap.1 hx
    exact hf M (hl M hM) (h M hM) hx
  · exact hf La hl2 h2 hx
theorem kpt_next (Ms : List (List Int)) (La : List Int) (hl : ∀ M ∈ Ms, M.length ≤ 65535) (hl2 : La.length ≤ 65535) {t : Nat} (ht : t < Ms.length) : nxt (kpt Ms La t) = some (Ms.getD t [], kpt Ms La (t + 1)) := by
  have hM : ∀ M ∈ Ms ++ [La], M.length ≤ 65535 := fun M hm => by
    rcases List.mem_append.1 hm with h | h
    · exact hl M h
    · rw [List.mem_singleton.1 h]; exact hl2
  have hlen := frm_len La
  have hpre : ∀ t, t ≤ Ms.length → (lin ((Ms ++ [La]).take t)).length ≤ (lin (Ms ++ [La])).length - 1 := fun t h => by
    rw [List.take_append_of_le_length h]
    have h1 : (lin (Ms.take t)).length ≤ (lin Ms).length := by
      have e : lin Ms = lin (Ms.take t) ++ lin (Ms.drop t) := by unfold lin; rw [← List.flatMap_append, List.take_append_drop]
      rw [e, List.length_append]
      omega
    rw [lin_app, List.length_append]
    omega
  unfold kpt
  rw [nxt_lin (Ms ++ [La]) hM (by simp; omega) (Nat.sub_le _ _) (hpre t (by omega)), if_pos ⟨by simp; omega, hpre (t + 1) (by omega)⟩]
  congr 2
  rw [List.getD_eq_getElem?_getD, List.getElem?_append_left ht, ← List.getD_eq_getElem?_getD]
theorem kpt_end (Ms : List (List Int)) (La : List Int) : kpt Ms La Ms.length = (frm La).take (La.length + 1) := by
  unfold kpt
  have hf := frm_len La
  rw [List.take_left, lin_app, List.length_append, List.take_append, List.take_of_length_le (by omega), List.drop_left]
  congr 1
  omega
theorem end_none (La : List Int) (hl : La.length ≤ 65535) : nxt ((frm La).take (La.length + 1)) = none := by
  have := nxt_pre (M := La) (R := []) hl (La.length + 1)
  rw [List.append_nil, if_pos (by omega)] at this
  exact this
theorem end_some (La : List Int) (hl : La.length ≤ 65535) : nxt (frm La) = some (La, []) := by
  have := nxt_pre (M := La) (R := []) hl (La.length + 2)
  rw [List.append_nil, if_neg (by omega), List.take_of_length_le (by rw [frm_len]; exact Nat.le_refl _)] at this
  simpa using this
theorem end_nil : (frm []).take 1 ++ [0] = frm [] := by decide
theorem end_cons (La : List Int) (h : 0 < La.length) : (frm La).take (La.length + 1) ++ (La.drop (La.length - 1)) = frm La := by
  have hf := frm_len La
  have e : La.drop (La.length - 1) = (frm La).drop (La.length + 1) := by
    unfold frm
    rw [show La.length + 1 = 2 + (La.length - 1) by omega, ← List.drop_drop]
    simp
  rw [e, List.take_append_drop]
end Go.Proofs.YtdakhiafagambaaDoor
