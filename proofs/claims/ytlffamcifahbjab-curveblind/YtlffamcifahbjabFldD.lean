import Derived.Test.YtlffamcifahbjabFldB
namespace Go.Fld
/-- what least leaves -/
def lst (a : List Int) : List Int := cy 0 ((stl a).set 0 ((stl a).getD 0 0 + 19 * co 0 ((stl a).set 0 ((stl a).getD 0 0 + 19))))
theorem V_bd52 {l : List Int} (h : Lim l) : 0 ≤ V l := by
  obtain ⟨a, b, c, d, e, rfl⟩ := five h.len
  have hb := h.bd
  simp only [List.mem_cons, List.not_mem_nil, or_false, forall_eq_or_imp, forall_eq] at hb
  simp only [V_cons, V_nil]
  omega
theorem lst_facts {a : List Int} (h : Lim a) : ∃ s0 s1 s2 s3 s4 c, stl a = [s0, s1, s2, s3, s4] ∧ 0 ≤ s0 ∧ s0 < 4503599627370496 ∧ 0 ≤ s1 ∧ s1 < 4503599627370496 ∧ 0 ≤ s2 ∧ s2 < 4503599627370496 ∧ 0 ≤ s3 ∧ s3 < 4503599627370496 ∧ 0 ≤ s4 ∧ s4 < 4503599627370496 ∧ co 0 [s0 + 19, s1, s2, s3, s4] = c ∧ 0 ≤ c ∧ c ≤ 1 ∧ lst a = cy 0 [s0 + 19 * c, s1, s2, s3, s4] ∧ V (lst a) = V a % 57896044618658097711785492504343953926634992332820282019728792003956564819949 ∧ (∀ x ∈ lst a, 0 ≤ x ∧ x < 2251799813685248) ∧ (lst a).length = 5 := by
  obtain ⟨hl, hv, v0, v1, o0, o1⟩ := stl_lim a h.len (fun x hx => by have := h.bd x hx; omega)
  have hob := co_bd a 0 2 (by decide) (by decide) (fun x hx => by have := h.bd x hx; omega)
  have hb := hl.bd
  obtain ⟨s0, s1, s2, s3, s4, hs⟩ := five hl.len
  unfold lst
  rw [hs] at hb hv v0 v1 ⊢
  simp only [List.mem_cons, List.not_mem_nil, or_false, forall_eq_or_imp, forall_eq] at hb
  simp only [List.getD_cons_zero, List.set_cons_zero]
  have e1 := cy_V [s0 + 19, s1, s2, s3, s4] 0
  have l1 := cy_lt [s0 + 19, s1, s2, s3, s4] 0
  have k1 := V_lt _ l1
  generalize hc : co 0 [s0 + 19, s1, s2, s3, s4] = c at *
  have e2 := cy_V [s0 + 19 * c, s1, s2, s3, s4] 0
  have l2 := cy_lt [s0 + 19 * c, s1, s2, s3, s4] 0
  have k2 := V_lt _ l2
  simp only [cy_len, List.length_cons, List.length_nil] at e1 e2 k1 k2
  rw [show (2251799813685248 : Int) ^ (0 + 1 + 1 + 1 + 1 + 1) = 57896044618658097711785492504343953926634992332820282019728792003956564819968 by decide] at e1 e2 k1 k2
  have f1 : V [s0 + 19, s1, s2, s3, s4] = V [s0, s1, s2, s3, s4] + 19 := by simp only [V_cons]; omega
  have f2 : V [s0 + 19 * c, s1, s2, s3, s4] = V [s0, s1, s2, s3, s4] + 19 * c := by simp only [V_cons]; omega
  rw [f1] at e1
  rw [f2] at e2
  generalize V (cy 0 [s0 + 19, s1, s2, s3, s4]) = y1 at *
  generalize V (cy 0 [s0 + 19 * c, s1, s2, s3, s4]) = y2 at *
  generalize co 0 [s0 + 19 * c, s1, s2, s3, s4] = c2 at *
  generalize V [s0, s1, s2, s3, s4] = v at *
  have hc01 : 0 ≤ c ∧ c ≤ 1 := by omega
  refine ⟨s0, s1, s2, s3, s4, c, rfl, hb.1.1, hb.1.2, hb.2.1.1, hb.2.1.2, hb.2.2.1.1, hb.2.2.1.2, hb.2.2.2.1.1, hb.2.2.2.1.2, hb.2.2.2.2.1, hb.2.2.2.2.2, hc, hc01.1, hc01.2, rfl, ?_, l2, by simp⟩
  rw [← hv]
  have h01 : c = 0 ∨ c = 1 := by omega
  clear hb l1 l2 hc
  rcases h01 with h | h
  · have : c2 = 0 := by omega
    omega
  · have : c2 = 1 := by omega
    omega
end Go.Fld
