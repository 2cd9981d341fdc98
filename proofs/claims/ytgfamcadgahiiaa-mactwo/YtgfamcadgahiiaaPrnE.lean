import Derived.Test.YtgfamcadgahiiaaPrnD
namespace Go.Proofs.Ytgfamcadgahiiaa
set_option linter.unusedSimpArgs false
open Go.ChangeShapes Go.WideShapes Go.ChangeAt Go.RowKit Go.Pin Go.Prm
theorem infoNum : (Try.prog.info? 91).map (·.size) = some 17 := by kernel_rfl
abbrev rowI (w : World) (g : Nat) (l : List Int) (T : TypeId) : Prop := w.heap[g]? = some (.cells (VI .i64 l) T (0, 0))
theorem rowI_cell {w : World} {g : Nat} {l : List Int} {T : TypeId} (h : rowI w g l T) {i : Nat} (hi : i < l.length) : w.cell? ⟨g, i, none⟩ = some (.int .i64 (l.getD i 0)) := by
  rw [cell_of_row w _ _ _ _ _ h, VI_at _ _ _ hi]
theorem rowI_set {w : World} {g : Nat} {l : List Int} {T : TypeId} (h : rowI w g l T) (i : Nat) (v : Int) : rowI (w.setCell ⟨g, i, none⟩ (.int .i64 v)) g (l.set i v) T := by
  unfold rowI
  rw [heap_setCell_same w _ _ _ _ _ h, VI_set]
/-- what a slice reads -/
def rdl (w : World) : Value → List Int
  | .slice (some p) n _ => (List.range n).map fun j => match w.cell? ⟨p.block, p.off + j, none⟩ with
    | some (.int _ x) => x
    | _ => 0
  | _ => []
theorem Rd.rdl {w : World} {v : Value} {l : List Int} (h : Rd w v l) : rdl w v = l := by
  obtain ⟨a, c, rfl, hc, h⟩ := h
  rcases h with rfl | ⟨b, rfl, _, h⟩
  · cases a <;> simp [Go.Proofs.Ytgfamcadgahiiaa.rdl]
  · apply List.ext_getElem
    · simp [Go.Proofs.Ytgfamcadgahiiaa.rdl]
    · intro i h1 h2
      simp only [Go.Proofs.Ytgfamcadgahiiaa.rdl, List.getElem_map, List.getElem_range, Nat.zero_add, h i h2]
      rw [List.getD_eq_getElem?_getD, List.getElem?_eq_getElem h2]; rfl
theorem fold_math (V : Int) (h0 : 0 ≤ V) : (V % 1361129467683753853853498429727072845824 + 5 * (V / 1361129467683753853853498429727072845824)) % 1361129467683753853853498429727072845819 = V % 1361129467683753853853498429727072845819 ∧ 0 ≤ V % 1361129467683753853853498429727072845824 + 5 * (V / 1361129467683753853853498429727072845824) ∧
    (1361129467683753853853498429727072845824 ≤ V → V % 1361129467683753853853498429727072845824 + 5 * (V / 1361129467683753853853498429727072845824) < V) ∧ (¬ 1361129467683753853853498429727072845824 ≤ V → V % 1361129467683753853853498429727072845824 + 5 * (V / 1361129467683753853853498429727072845824) = V) := by
  omega
def mm (j : Nat) : Int := if j = 16 then 3 else 255
/-- is it p or above? -/
theorem high_math {N : Nat} (hN : N < 1361129467683753853853498429727072845824) {hb : Bool} (hh : hb = true ↔ ∀ j, 1 ≤ j → j < 17 → (bts N).getD j 0 = mm j) :
    (hb = true → 251 ≤ (bts N).getD 0 0 → N % P = N - P ∧ bts (N - P) = (List.replicate 17 (0 : Int)).set 0 ((bts N).getD 0 0 - 251)) ∧ (hb = false → N % P = N) ∧ (hb = true → ¬ 251 ≤ (bts N).getD 0 0 → N % P = N) := by
  have hn : nb (bts N) = N := nb_bts N (Nat.lt_trans hN (by decide))
  have h3 : (bts N).getD 16 0 ≤ 3 := by
    rw [bts_getD _ _ (by decide)]
    have : N / 256 ^ 16 < 4 := by
      rw [show (256 : Nat) ^ 16 = 340282366920938463463374607431768211456 by decide]; omega
    omega
  refine ⟨fun ht h251 => ?_, fun hf => ?_, fun ht h251 => ?_⟩
  · have hm := hh.1 ht
    have he := below_end (bts_bd N) h3 (fun j h1 h2 => by rw [hm j h1 (by omega), mm, if_neg (by omega)])
    rw [hn, hm 16 (by decide) (by decide), mm, if_pos rfl] at he
    have hge : P ≤ N := by
      have : ¬ N < P := fun hlt => by have := he.1 hlt; omega
      omega
    have hs := nb_sum (bts_bd N)
    rw [hn, hm 1 (by decide) (by decide), hm 2 (by decide) (by decide), hm 3 (by decide) (by decide), hm 4 (by decide) (by decide), hm 5 (by decide) (by decide), hm 6 (by decide) (by decide), hm 7 (by decide) (by decide), hm 8 (by decide) (by decide), hm 9 (by decide) (by decide), hm 10 (by decide) (by decide), hm 11 (by decide) (by decide), hm 12 (by decide) (by decide), hm 13 (by decide) (by decide), hm 14 (by decide) (by decide), hm 15 (by decide) (by decide), hm 16 (by decide) (by decide)] at hs
    have hb0 := byte_at (bts_bd N) 0
    have hv : N - P = ((bts N).getD 0 0 - 251).toNat := by
      clear he hh hm hn h3
      generalize (bts N).getD 0 0 = y at *
      simp [mm] at hs
      unfold P at hge ⊢
      omega
    refine ⟨?_, ?_⟩
    · unfold P at *; omega
    · rw [hv]
      have hk : Key17 ((List.replicate 17 (0 : Int)).set 0 ((bts N).getD 0 0 - 251)) := ⟨rfl, set_bd (by decide) 0 (by omega)⟩
      have hnb : nb ((List.replicate 17 (0 : Int)).set 0 ((bts N).getD 0 0 - 251)) = ((bts N).getD 0 0 - 251).toNat := by
        rw [nb_sum hk.bd]
        rw [show (List.replicate 17 (0 : Int)).set 0 ((bts N).getD 0 0 - 251) = rw17 ((bts N).getD 0 0 - 251) 0 0 from rfl]
        simp [rw17]
      rw [← hnb]
      exact bts_nb _ hk.len hk.bd
  · apply Nat.mod_eq_of_lt
    by_cases hmid : ∀ j, 1 ≤ j → j < 16 → (bts N).getD j 0 = 255
    · have he := below_end (bts_bd N) h3 hmid
      rw [hn] at he
      apply he.2
      left
      have : ¬ (bts N).getD 16 0 = 3 := fun e => by
        have : hb = true := hh.2 (fun j h1 h2 => by
          by_cases h16 : j = 16
          · rw [h16, e]; rfl
          · rw [hmid j h1 (by omega), mm, if_neg h16])
        rw [hf] at this
        cases this
      omega
    · obtain ⟨j, hj⟩ := Classical.not_forall.1 hmid
      have h1 : 1 ≤ j := Classical.byContradiction fun h => hj (fun h' => absurd h' h)
      have h2 : j < 16 := Classical.byContradiction fun h => hj (fun _ h' => absurd h' h)
      have h4 : (bts N).getD j 0 ≠ 255 := fun e => hj (fun _ _ => e)
      have := below_mid (bts_bd N) h3 j h1 h2 h4
      rwa [hn] at this
  · have hm := hh.1 ht
    have he := below_end (bts_bd N) h3 (fun j h1 h2 => by rw [hm j h1 (by omega), mm, if_neg (by omega)])
    rw [hn] at he
    exact Nat.mod_eq_of_lt (he.2 (.inr (by omega)))
end Go.Proofs.Ytgfamcadgahiiaa
