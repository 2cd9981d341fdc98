import Derived.Test.YteimmjdiaophoabFldH
namespace Go.Proofs.Yteimmjdiaophoab
set_option linter.unusedSimpArgs false
open Go.ChangeShapes Go.WideShapes Go.ChangeAt Go.RowKit Go.Pin Go.Fld
theorem Bs.sub {w0 W : World} {ks bx by' : List (Nat × List Int)} (h : Bs w0 ks bx W) (hs : ∀ p ∈ by', p ∈ bx) : Bs w0 ks by' W := ⟨h.old, h.keys, fun p hp => h.rows p (hs p hp)⟩
theorem swp_odd {s : Int} {a b : List Int} (h : s % 2 = 1) : swp s a b = b := if_pos h
theorem swp_even {s : Int} {a b : List Int} (h : ¬ s % 2 = 1) : swp s a b = a := if_neg h
theorem bs_swap {w0 W : World} {ks bx : List (Nat × List Int)} {gp gq : Nat} {a b : List Int} (h : Bs w0 ks ((gp, a) :: (gq, b) :: bx) W) (ha : Lim a) (hb : Lim b) (hne : gp ≠ gq) (hp : w0.heap.size ≤ gp) (hq : w0.heap.size ≤ gq) (hbx : ∀ p ∈ bx, p.1 ≠ gp ∧ p.1 ≠ gq) (hks : ∀ p ∈ ks, p.1 ≠ gp ∧ p.1 ≠ gq) (s : Int) (s0 : 0 ≤ s) (s1 : s < 18446744073709551616) :
    Calls Try.prog 5 #[.pointer none, .int .u64 s, .pointer (some ⟨gp, 0, none⟩), .pointer (some ⟨gq, 0, none⟩)] W fun e w' => e = .returned (.tuple #[]) ∧ Bs w0 ks ((gp, swp s a b) :: (gq, swp s b a) :: bx) w' := by
  have ra := h.row (g := gp) (x := a) (by simp)
  have rb := h.row (g := gq) (x := b) (by simp)
  have hla : (swp s a b).length = 5 := by unfold swp; split; exact hb.len; exact ha.len
  have hlb : (swp s b a).length = 5 := by unfold swp; split; exact ha.len; exact hb.len
  refine (fswap_any _ s s0 s1 gp 0 gq 0 a b ha hb W (fun W1 => W1 = W) (rOp_nil 7 W) (fun W1 hq => by rw [hq]; exact swI_rows ra rb ha.len hb.len) (.inl fun i j _ _ e => hne (congrArg Addr.block e))).mono ?_
  rintro e w' ⟨he, W1, hq1, hs⟩
  subst hq1
  obtain ⟨q1, q2, q3⟩ := swI_done hs ra rb ha.len hb.len hla hlb
  refine ⟨he, h.old.trans (q3.below (fun k hk => by omega)), fun p hp' => ?_, fun p hp' => ?_⟩
  · have := hks p hp'
    exact (q3.block _ (by omega)).trans (h.keys p hp')
  · simp only [List.mem_cons] at hp'
    rcases hp' with rfl | rfl | hp'
    · exact q1
    · exact q2
    · have := hbx p hp'
      exact (q3.block _ (by omega)).trans (h.rows p (by simp [hp']))
theorem bs_swap1 {w0 W : World} {ks bx : List (Nat × List Int)} {gp : Nat} {a : List Int} (h : Bs w0 ks ((gp, a) :: bx) W) (ha : Lim a) (hp : w0.heap.size ≤ gp) (hbx : ∀ p ∈ bx, p.1 ≠ gp) (hks : ∀ p ∈ ks, p.1 ≠ gp) (s : Int) (s0 : 0 ≤ s) (s1 : s < 18446744073709551616) :
    Calls Try.prog 5 #[.pointer none, .int .u64 s, .pointer (some ⟨gp, 0, none⟩), .pointer (some ⟨gp, 0, none⟩)] W fun e w' => e = .returned (.tuple #[]) ∧ Bs w0 ks ((gp, a) :: bx) w' := by
  have ra := h.row (g := gp) (x := a) (by simp)
  have e0 : swp s a a = a := by unfold swp; split <;> rfl
  refine (fswap_any _ s s0 s1 gp 0 gp 0 a a ha ha W (fun W1 => W1 = W) (rOp_nil 7 W) (fun W1 hq => by rw [hq]; exact swI_rows ra ra ha.len ha.len) (.inr ⟨rfl, rfl, rfl⟩)).mono ?_
  rintro e w' ⟨he, W1, hq1, hs⟩
  subst hq1
  rw [e0] at hs
  obtain ⟨q1, q2, q3⟩ := swI_done hs ra ra ha.len ha.len ha.len ha.len
  refine ⟨he, h.old.trans (q3.below (fun k hk => by omega)), fun p hp' => ?_, fun p hp' => ?_⟩
  · have := hks p hp'
    exact (q3.block _ (by omega)).trans (h.keys p hp')
  · simp only [List.mem_cons] at hp'
    rcases hp' with rfl | hp'
    · exact q1
    · have := hbx p hp'
      exact (q3.block _ (by omega)).trans (h.rows p (by simp [hp']))
end Go.Proofs.Yteimmjdiaophoab
