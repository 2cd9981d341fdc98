import Derived.Test.YtacofgmnmofkpaaMfal
namespace Go.Proofs.Ytacofgmnmofkpaa
set_option linter.unusedSimpArgs false
set_option linter.unusedVariables false
open Go.ChangeShapes Go.WideShapes Go.ChangeAt Go.RowKit Go.Pin Go.Fld
theorem swp_lim {s : Int} {a b : List Int} (ha : Lim a) (hb : Lim b) : Lim (swp s a b) := by unfold swp; split; exact hb; exact ha
theorem Bn.swI {g : Nat} {es : Nat → List Int} {ns : Nat → Nat} {vs : Value} {W1 w' : World} {i k : Nat} {x y : List Int} (h : Bn g es ns vs W1) (hi : i < 8) (hk : k < 8) (hs : SwI g (i * 5) g (k * 5) W1 (es i) (es k) x y 5 w') (hx : Lim x) (hy : Lim y) :
    Bn g (upd (upd es i x) k y) ns vs w' ∧ But (fun j => j = g) W1 w' := by
  obtain ⟨cs, h1, h2⟩ := h.obj
  obtain ⟨cs', g1, g2, g3⟩ := hs.cw.obj g _ _ _ h2
  have hcell : ∀ j, ¬ SS g (i * 5) g (k * 5) g j → w'.cell? ⟨g, j, none⟩ = W1.cell? ⟨g, j, none⟩ := fun j hj => by
    rw [cell_of_row w' g j _ _ _ g2, cell_of_row W1 g j _ _ _ h2, g3 j hj]
  refine ⟨⟨⟨cs', g1.trans h1, g2⟩, fun t ht j hj => ?_, fun t ht j hj => ?_, ?_, fun t ht => ?_, h.nl⟩, ⟨hs.cw.os, hs.cw.tape, hs.cw.output, hs.cw.size, fun t ht => hs.cw.other t (fun j hj => ?_)⟩⟩
  · by_cases e1 : t = k
    · subst e1
      rw [upd_same]
      have := hs.cb j hj
      rw [if_pos hj] at this
      exact this
    · rw [upd_ne _ _ e1]
      by_cases e2 : t = i
      · subst e2
        rw [upd_same]
        have := hs.ca j hj
        rw [if_pos hj] at this
        exact this
      · rw [upd_ne _ _ e2, hcell _ (by unfold SS; omega)]
        exact h.e t ht j hj
  · rw [hcell _ (by unfold SS; omega)]; exact h.n t ht j hj
  · rw [hcell _ (by unfold SS; omega)]; exact h.l
  · by_cases e1 : t = k
    · subst e1; rw [upd_same]; exact hy
    · rw [upd_ne _ _ e1]
      by_cases e2 : t = i
      · subst e2; rw [upd_same]; exact hx
      · rw [upd_ne _ _ e2]; exact h.lim t ht
  · unfold SS at hj; omega
theorem sb_swap {B : Nat} {w : World} {rv : Value} {lr : List (Int × Int)} {g : Nat} {es : Nat → List Int} {ns : Nat → Nat} {vs : Value} {ll : List (Int × Int)} {bx : List (Nat × Obj)} {W : World} (h : SB B w rv lr g es ns vs ll bx W) {i k : Nat} (hi : i < 8) (hk : k < 8) {T : Int} (t0 : 0 ≤ T) (t1 : T < 18446744073709551616) (hl : lr.length ≤ 1000000) :
    Calls Try.prog 46 #[rv, .int .u64 T, .pointer (some ⟨g, i * 5, none⟩), .pointer (some ⟨g, k * 5, none⟩)] W fun e w' => e = .returned (.tuple #[]) ∧ SB B w rv (lr ++ [(3, 7)]) g (upd (upd es i (swp T (es i) (es k))) k (swp T (es k) (es i))) ns vs ll bx w' := by
  have hc := h.calls (fun b he => v_op he hl 7)
  refine (fswap_any rv T t0 t1 g (i * 5) g (k * 5) (es i) (es k) (h.bn.lim i hi) (h.bn.lim k hk) W _ hc (fun W1 hq => ?_) ?_).mono fun e w' hh => ⟨hh.1, ?_⟩
  · exact ⟨CW.refl _ _, fun j hj => by rw [if_neg (by omega)]; exact hq.bn.e i hi j hj, fun j hj => by rw [if_neg (by omega)]; exact hq.bn.e k hk j hj, fun j => hq.bn.fz _, fun j => hq.bn.fz _⟩
  · by_cases e : i = k
    · subst e; exact .inr ⟨rfl, rfl, rfl⟩
    · refine .inl (fun a b ha hb e2 => ?_)
      injection e2 with _ e3
      omega
  · obtain ⟨W1, hq, hs⟩ := hh.2
    obtain ⟨hb, hbut⟩ := hq.bn.swI hi hk hs (swp_lim (h.bn.lim i hi) (h.bn.lim k hk)) (swp_lim (h.bn.lim k hk) (h.bn.lim i hi))
    exact hq.put hbut hb
end Go.Proofs.Ytacofgmnmofkpaa
