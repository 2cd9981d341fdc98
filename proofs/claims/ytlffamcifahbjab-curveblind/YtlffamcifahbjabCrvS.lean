import Derived.Test.YtlffamcifahbjabCrvD
namespace Go.Proofs.Ytlffamcifahbjab
set_option linter.unusedSimpArgs false
set_option linter.unusedVariables false
open Go.ChangeShapes Go.WideShapes Go.ChangeAt Go.RowKit Go.Pin Go.Fld
theorem VI_get (k : IntKind) (l : List Int) (j : Nat) : (VI k l)[j]? = (l[j]?).map (Value.int k) := by simp [VI]
theorem getD_some {x : List Int} {j : Nat} (h : j < x.length) : x[j]? = some (x.getD j 0) := by simp [List.getD, h]
theorem four_get {a b c d : List Int} (ha : a.length = 5) (hb : b.length = 5) (hc : c.length = 5) (j : Nat) :
    (a ++ (b ++ (c ++ d)))[j]? = if j < 5 then a[j]? else if j < 10 then b[j - 5]? else if j < 15 then c[j - 10]? else d[j - 15]? := by
  split
  · rw [List.getElem?_append_left (by omega)]
  · rw [List.getElem?_append_right (by omega), ha]
    split
    · rw [List.getElem?_append_left (by omega)]
    · rw [List.getElem?_append_right (by omega), hb]
      split
      · rw [List.getElem?_append_left (by omega), show j - 5 - 5 = j - 10 by omega]
      · rw [List.getElem?_append_right (by omega), hc, show j - 5 - 5 - 5 = j - 15 by omega]
section
variable {W1 w' : World} {T : Nat} {a b c d x y : List Int} (ha : a.length = 5) (hb : b.length = 5) (hc : c.length = 5) (hd : d.length = 5) (hx : x.length = 5) (hy : y.length = 5) (hW : W1.heap[T]? = some (ro a b c d))
include ha hb hc hd hx hy hW
theorem swI_ro0 (h : SwI T 0 T 10 W1 a c x y 5 w') : w'.heap[T]? = some (ro x b y d) ∧ But (fun k => k = T) W1 w' := by
  refine ⟨?_, ⟨h.cw.os, h.cw.tape, h.cw.output, h.cw.size, fun k hk => h.cw.other k (fun j hs => ?_)⟩⟩
  · obtain ⟨cs', h1, h2, h3⟩ := h.cw.obj T _ _ (0, 0) hW
    rw [h2, ro]
    congr 2
    apply Array.ext_getElem?
    intro j
    rw [VI_get, four_get hx hb hy]
    have hs : cs'.size = 20 := by rw [h1, VI_size]; simp [ha, hb, hc, hd]
    by_cases j1 : j < 5
    · have := h.ca j j1
      rw [Nat.zero_add, cell_of_row w' T j _ _ _ h2, if_pos j1] at this
      rw [this, if_pos j1, getD_some (by omega)]; rfl
    rw [if_neg j1]
    by_cases j2 : j < 10
    · rw [if_pos j2, h3 j (by unfold SS; omega), VI_get, four_get ha hb hc, if_neg j1, if_pos j2]
    rw [if_neg j2]
    by_cases j3 : j < 15
    · have := h.cb (j - 10) (by omega)
      rw [show 10 + (j - 10) = j by omega, cell_of_row w' T j _ _ _ h2, if_pos (by omega)] at this
      rw [this, if_pos j3, getD_some (by omega)]; rfl
    · rw [if_neg j3, h3 j (by unfold SS; omega), VI_get, four_get ha hb hc, if_neg j1, if_neg j2, if_neg j3]
  · unfold SS at hs; omega
theorem swI_ro5 (h : SwI T 5 T 15 W1 b d x y 5 w') : w'.heap[T]? = some (ro a x c y) ∧ But (fun k => k = T) W1 w' := by
  refine ⟨?_, ⟨h.cw.os, h.cw.tape, h.cw.output, h.cw.size, fun k hk => h.cw.other k (fun j hs => ?_)⟩⟩
  · obtain ⟨cs', h1, h2, h3⟩ := h.cw.obj T _ _ (0, 0) hW
    rw [h2, ro]
    congr 2
    apply Array.ext_getElem?
    intro j
    rw [VI_get, four_get ha hx hc]
    have hs : cs'.size = 20 := by rw [h1, VI_size]; simp [ha, hb, hc, hd]
    by_cases j1 : j < 5
    · rw [if_pos j1, h3 j (by unfold SS; omega), VI_get, four_get ha hb hc, if_pos j1]
    rw [if_neg j1]
    by_cases j2 : j < 10
    · have := h.ca (j - 5) (by omega)
      rw [show 5 + (j - 5) = j by omega, cell_of_row w' T j _ _ _ h2, if_pos (by omega)] at this
      rw [this, if_pos j2, getD_some (by omega)]; rfl
    rw [if_neg j2]
    by_cases j3 : j < 15
    · rw [if_pos j3, h3 j (by unfold SS; omega), VI_get, four_get ha hb hc, if_neg j1, if_neg j2, if_pos j3]
    rw [if_neg j3]
    by_cases j4 : j < 20
    · have := h.cb (j - 15) (by omega)
      rw [show 15 + (j - 15) = j by omega, cell_of_row w' T j _ _ _ h2, if_pos (by omega)] at this
      rw [this, getD_some (by omega)]; rfl
    · rw [Array.getElem?_eq_none (by omega), List.getElem?_eq_none (by omega)]; rfl
  · unfold SS at hs; omega
end
theorem ro_fr {w : World} {T : Nat} {a b c d : List Int} (h : w.heap[T]? = some (ro a b c d)) (j : Nat) : w.frozen? ⟨T, j, none⟩ = false := by unfold ro at h; simp [World.frozen?, h]
section
variable {B : Nat} {w : World} {rv : Value} {l : List (Int × Int)} {bx : List (Nat × Obj)} {wr : World} {T : Nat} {a b c d : List Int}
theorem swp_lim {s : Int} {a b : List Int} (ha : Lim a) (hb : Lim b) : Lim (swp s a b) := by unfold swp; split; exact hb; exact ha
theorem range_cell {w : World} {b o : Nat} {a : List Int} (h : w.rangeAt b o (a.map (Value.int .u64))) (j : Nat) (hj : j < a.length) : w.cell? ⟨b, o + j, none⟩ = some (.int .u64 (a.getD j 0)) :=
  h j _ (by rw [List.getElem?_map, getD_some hj]; rfl)
theorem swap0 (h : Ev B w rv l ((T, ro a b c d) :: bx) wr) (hT : ∀ p ∈ bx, p.1 ≠ T) (hl : l.length ≤ 1000000) (ha : Lim a) (hb : Lim b) (hc : Lim c) (hd : Lim d) (s : Int) (s0 : 0 ≤ s) (s1 : s < 18446744073709551616) :
    Calls Try.prog 24 #[rv, .int .u64 s, .pointer (some ⟨T, 0, none⟩), .pointer (some ⟨T, 10, none⟩)] wr fun e w' => e = .returned (.tuple #[]) ∧ Ev B w rv (l ++ [(3, 7)]) ((T, ro (swp s a c) b (swp s c a) d) :: bx) w' := by
  refine (fswap_any rv s s0 s1 T 0 T 10 a c ha hc wr (fun W1 => Ev B w rv (l ++ [(3, 7)]) ((T, ro a b c d) :: bx) W1) (v_op h hl 7) (fun W1 hq => ?_) (.inl fun i j _ _ e => by injection e; omega)).mono ?_
  · have hr := hq.row (g := T) (x := ro a b c d) (by simp)
    refine ⟨CW.refl _ _, fun j hj => ?_, fun j hj => ?_, fun j => ro_fr hr _, fun j => ro_fr hr _⟩
    · rw [if_neg (by omega)]; exact range_cell (ro_0 ha.len hb.len hc.len hd.len hr) j (by rw [ha.len]; exact hj)
    · rw [if_neg (by omega)]; exact range_cell (ro_10 ha.len hb.len hc.len hd.len hr) j (by rw [hc.len]; exact hj)
  · rintro e w' ⟨he, W1, hq, hs⟩
    obtain ⟨q1, q2⟩ := swI_ro0 ha.len hb.len hc.len hd.len (swp_lim ha hc).len (swp_lim hc ha).len (hq.row (g := T) (x := ro a b c d) (by simp)) hs
    exact ⟨he, hq.set rfl hT q2 q1⟩
theorem swap5 (h : Ev B w rv l ((T, ro a b c d) :: bx) wr) (hT : ∀ p ∈ bx, p.1 ≠ T) (hl : l.length ≤ 1000000) (ha : Lim a) (hb : Lim b) (hc : Lim c) (hd : Lim d) (s : Int) (s0 : 0 ≤ s) (s1 : s < 18446744073709551616) :
    Calls Try.prog 24 #[rv, .int .u64 s, .pointer (some ⟨T, 5, none⟩), .pointer (some ⟨T, 15, none⟩)] wr fun e w' => e = .returned (.tuple #[]) ∧ Ev B w rv (l ++ [(3, 7)]) ((T, ro a (swp s b d) c (swp s d b)) :: bx) w' := by
  refine (fswap_any rv s s0 s1 T 5 T 15 b d hb hd wr (fun W1 => Ev B w rv (l ++ [(3, 7)]) ((T, ro a b c d) :: bx) W1) (v_op h hl 7) (fun W1 hq => ?_) (.inl fun i j _ _ e => by injection e; omega)).mono ?_
  · have hr := hq.row (g := T) (x := ro a b c d) (by simp)
    refine ⟨CW.refl _ _, fun j hj => ?_, fun j hj => ?_, fun j => ro_fr hr _, fun j => ro_fr hr _⟩
    · rw [if_neg (by omega)]; exact range_cell (ro_5 ha.len hb.len hc.len hd.len hr) j (by rw [hb.len]; exact hj)
    · rw [if_neg (by omega)]; exact range_cell (ro_15 ha.len hb.len hc.len hd.len hr) j (by rw [hd.len]; exact hj)
  · rintro e w' ⟨he, W1, hq, hs⟩
    obtain ⟨q1, q2⟩ := swI_ro5 ha.len hb.len hc.len hd.len (swp_lim hb hd).len (swp_lim hd hb).len (hq.row (g := T) (x := ro a b c d) (by simp)) hs
    exact ⟨he, hq.set rfl hT q2 q1⟩
set_option maxRecDepth 100000 in
set_option maxHeartbeats 2000000 in
theorem rswap_any (h : Ev B w rv l ((T, ro a b c d) :: bx) wr) (hT : ∀ p ∈ bx, p.1 ≠ T) (hl : l.length ≤ 900000) (ha : Lim a) (hb : Lim b) (hc : Lim c) (hd : Lim d) (s : Int) (s0 : 0 ≤ s) (s1 : s < 18446744073709551616) :
    Calls Try.prog 14 #[.pointer (some ⟨T, 0, none⟩), rv, .int .u64 s] wr fun e w' => e = .returned (.tuple #[]) ∧ Ev B w rv (l ++ [(3, 7), (3, 7)]) ((T, ro (swp s a c) (swp s b d) (swp s c a) (swp s d b)) :: bx) w' := by
  have C0 : Hid (Calls Try.prog 24 #[rv, .int .u64 s, .pointer (some ⟨T, 0, none⟩), .pointer (some ⟨T, 10, none⟩)] wr.drew fun e w' => e = .returned (.tuple #[]) ∧ Ev B w rv (l ++ [(3, 7)]) ((T, ro (swp s a c) b (swp s c a) d) :: bx) w') := swap0 h.drew hT (by omega) ha hb hc hd s s0 s1
  have C5 : Hid (∀ W, Ev B w rv (l ++ [(3, 7)]) ((T, ro (swp s a c) b (swp s c a) d) :: bx) W → Calls Try.prog 24 #[rv, .int .u64 s, .pointer (some ⟨T, 5, none⟩), .pointer (some ⟨T, 15, none⟩)] W.drew fun e w' => e = .returned (.tuple #[]) ∧ Ev B w rv ((l ++ [(3, 7)]) ++ [(3, 7)]) ((T, ro (swp s a c) (swp s b d) (swp s c a) (swp s d b)) :: bx) w') :=
    fun W hW => swap5 hW.drew hT (by simp; omega) (swp_lim ha hc) hb (swp_lim hc ha) hd s s0 s1
  clear h hT hl ha hb hc hd s0 s1
  go_enter Try.func14, Try.ntmps14
  go_wp2_with fail
  go_region_with (go_at_call 24; refine C0.out.mono ?_; rintro e W1 ⟨rfl, h1⟩)
  all_goals (
    have H1 : Hid _ := h1
    clear h1
    go_wp2_with fail
    go_region_with (go_at_call 24; refine (C5.out W1 H1.out).mono ?_; rintro e W2 ⟨rfl, h2⟩)
    all_goals (
      have H2 : Hid _ := h2
      clear h2
      go_wp2
      go_end0
      have h3 := H2.out
      simp only [List.append_assoc, List.cons_append, List.nil_append] at h3
      exact ⟨rfl, h3⟩))
end
end Go.Proofs.Ytlffamcifahbjab
