import Derived.Test.YtgfamcadgahiiaaPrnB
namespace Go.Proofs.Ytgfamcadgahiiaa
set_option linter.unusedSimpArgs false
open Go.ChangeShapes Go.WideShapes Go.ChangeAt Go.RowKit Go.Pin Go.Prm
/-- a row that one number was put behind -/
theorem own_app {B : Nat} {w2 : World} {v' : Value} {q : List Int} {x : Int} (h : w2.ownsRow B 3 1 v' (q.length + 1) (ints q ++ [.int .i64 x])) : Own B w2 v' (q ++ [x]) := by
  unfold Own
  rw [List.length_append, ints, List.map_append]
  exact h
set_option maxRecDepth 100000 in
set_option maxHeartbeats 4000000 in
theorem carried_any (v : Value) (d : List Int) (w : World) (h : Rd w v d) (hl : d.length < 100) (hb : ∀ x ∈ d, 0 ≤ x ∧ x < 1099511627776) :
    Calls Try.prog 64 #[v] w fun e w' => (∃ v', e = .returned v' ∧ Own w.heap.size w' v' (crd d)) ∧ Below w.heap.size w w' := by
  obtain ⟨i0, hi, hz0, hz1, hz2⟩ := info_parts info_int
  have HI : Hid _ := And.intro hi (And.intro hz0 (And.intro hz1 hz2))
  have HD : Hid (Rd w v d) := h
  have HB : Hid (∀ x ∈ d, 0 ≤ x ∧ x < 1099511627776) := hb
  obtain ⟨a, c, rfl, hc, _⟩ := h
  clear hi hz0 hz1 hz2 hb
  go_enter Try.func64, Try.ntmps64
  go_wp2
  go_loopw [3, 4, 5] (fun o k i w' => ∃ (q r : List Int) (cr : Int), i = .int .i64 (q.length : Nat) ∧ k = .int .i64 cr ∧ 0 ≤ cr ∧ cr < 1099511627776 ∧ q.length + r.length = d.length ∧ r = d.drop q.length ∧ cd 0 d = q ++ cd cr r ∧ cc 0 d = cc cr r ∧ Own w.heap.size w' o q ∧ Below w.heap.size w w') (fun _ _ i _ => d.length - (intOf i).toNat)
  case atStart => exact ⟨[], d, 0, rfl, rfl, by decide, by decide, by simp, rfl, rfl, rfl, World.ownsRow_nil _ _ _ _, Below.refl _ _⟩
  case round =>
    obtain ⟨q, r, cr, rfl, rfl, c0, c1, hlen, hdt, hcd, hcc, hown, hbel⟩ := hrel
    cases r with
    | cons x r =>
      have hlt : q.length < d.length := by simp at hlen; omega
      rw [List.drop_eq_getElem_cons hlt] at hdt
      injection hdt with hxe hre
      obtain ⟨x0, x1⟩ := HB.out x (by rw [hxe]; exact List.getElem_mem hlt)
      have hx : d.getD q.length 0 = x := by
        rw [List.getD_eq_getElem?_getD, List.getElem?_eq_getElem hlt, hxe]; rfl
      have hrd := HD.out.below hbel
      obtain ⟨a', c', e1, _, hrd⟩ := hrd
      have ha : a' = a := by injection e1 with e1; exact e1.symm
      subst ha
      obtain ⟨b, rfl, hbs, hcell⟩ := hrd.resolve_left (fun e => by subst e; simp at hlt)
      have hcl := hcell q.length hlt
      rw [hx] at hcl
      have hlt' : (q.length : Int) < (d.length : Int) := by omega
      have HO : Hid (Own w.heap.size wr u3 q) := hown
      have HBL : Hid (Below w.heap.size w wr) := hbel
      have H1 : Hid (cd 0 d = q ++ cd cr (x :: r)) := hcd
      have H2 : Hid (cc 0 d = cc cr (x :: r)) := hcc
      have H3 : Hid (r = d.drop (q.length + 1)) := hre
      have H4 : Hid (q.length + (x :: r).length = d.length) := hlen
      have hb9 : b < w.heap.size := by
        obtain ⟨_, _, e, _, hh⟩ := HD.out
        injection e with e
        rcases hh with hh | ⟨b', e', hb', _⟩
        · rw [hh] at hlt; simp at hlt
        · rw [← e] at e'; injection e' with e'; injection e' with e'; omega
      clear hown hbel hcd hcc hxe hre hlen hcell hx e1 hrd
      go_wp2_with (first | (at_builtin; refine wpList_append_own_at _ rfl _ _ 55 rfl w.heap.size 3 i0 (.int .i64 0) 1 8 Try.underlying55 HI.out.1 HI.out.2.1 HI.out.2.2.1 HI.out.2.2.2 rfl (by decide) _ q.length (ints q) rfl (World.ownsRow.alloc HO.out _) ⟨wr.heap.size, 0, none⟩ 1 1 [.int .i64 ((cr + x) % 256)] rfl rfl ?_ ?_ ?_ ?_ ?_ ?_))
      · intro j u hj
        match j, hj with
        | 0, hj => simp at hj; subst hj; simp [Addr.add]
      · intro u hu
        simp at hu
        rcases hu with rfl; rfl
      · unfold maxLen; omega
      · omega
      · have := HBL.out.size
        simp; omega
      · intro v' w1 hown' hgrow hnn hat
        have HO' : Hid (Own w.heap.size w1 v' (q ++ [(cr + x) % 256])) := own_app hown'
        have HBL' : Hid (Below w.heap.size w w1) := Below.grown (HBL.out.alloc HBL.out.size _) hgrow (fun k hk => (World.ownsRow.lt HO.out k hk).1) (by have := HBL.out.size; simp; omega)
        clear hown' hgrow hnn hat
        go_wp2
        go_roundw
        case rel =>
          exact ⟨q ++ [(cr + x) % 256], r, (cr + x) / 256, by simp, rfl, by omega, by omega, by have := H4.out; simp at this ⊢; omega, by rw [List.length_append]; exact H3.out, by rw [H1.out]; simp [cd], H2.out, HO'.out, HBL'.out⟩
        case measure => simp [intOf]; omega
    | nil =>
      have hq : q.length = d.length := by simpa using hlen
      have hlt' : ¬ q.length < d.length := by omega
      have hge : 0 ≤ cc 0 d ∧ cc 0 d < 1099511627776 := by have := crd_facts HB.out; exact ⟨this.2.2.2.1, this.2.2.2.2⟩
      have hcr : crd d = q ++ dgs cr.toNat := by unfold crd; rw [hcd, hcc]; simp [cd, cc]
      have HC : Hid (crd d = q ++ dgs cr.toNat) := hcr
      have HO : Hid (Own w.heap.size wr u3 q) := hown
      have HBL : Hid (Below w.heap.size w wr) := hbel
      have HQ : Hid (q.length = d.length) := hq
      clear hown hbel hcd hcc hdt hlen hge hcr hq
      go_wp2
      go_loopw [3, 4] (fun o k w' => ∃ (q : List Int) (n : Nat), k = .int .i64 (n : Int) ∧ n < 1099511627776 ∧ q.length + (dgs n).length ≤ 105 ∧ crd d = q ++ dgs n ∧ Own w.heap.size w' o q ∧ Below w.heap.size w w') (fun _ k _ => (intOf k).toNat)
      case atStart =>
        refine ⟨q, cr.toNat, by rw [Int.toNat_of_nonneg c0], by omega, ?_, HC.out, HO.out, HBL.out⟩
        have := dgs_len 5 cr.toNat (by omega)
        have := HQ.out
        omega
      case round =>
        clear HO HBL HC HQ c0 c1 hlt'
        obtain ⟨p, n, rfl, hn, hql, hcr, hown, hbel⟩ := hrel
        have HO : Hid (Own w.heap.size wr u3 p) := hown
        have HBL : Hid (Below w.heap.size w wr) := hbel
        have HC : Hid (crd d = p ++ dgs n) := hcr
        by_cases h0 : 0 < n
        · have h0' : (0 : Int) < (n : Int) := by omega
          have hdl := dgs_pos n h0
          rw [hdl, List.length_cons] at hql
          have HQ : Hid (p.length + ((dgs (n / 256)).length + 1) ≤ 105) := hql
          have HDG : Hid (dgs n = ((n % 256 : Nat) : Int) :: dgs (n / 256)) := hdl
          have hq105 : p.length < 105 := by omega
          clear hown hbel hcr hdl hql
          go_wp2_with (first | (at_builtin; refine wpList_append_own_at _ rfl _ _ 55 rfl w.heap.size 3 i0 (.int .i64 0) 1 8 Try.underlying55 HI.out.1 HI.out.2.1 HI.out.2.2.1 HI.out.2.2.2 rfl (by decide) _ p.length (ints p) rfl (World.ownsRow.alloc HO.out _) ⟨wr.heap.size, 0, none⟩ 1 1 [.int .i64 ((n : Int) % 256)] rfl rfl ?_ ?_ ?_ ?_ ?_ ?_))
          · intro j u hj
            match j, hj with
            | 0, hj => simp at hj; subst hj; simp [Addr.add]
          · intro u hu
            simp at hu
            rcases hu with rfl; rfl
          · unfold maxLen; omega
          · omega
          · have := HBL.out.size
            simp; omega
          · intro v' w1 hown' hgrow hnn hat
            have HO' : Hid (Own w.heap.size w1 v' (p ++ [(n : Int) % 256])) := own_app hown'
            have HBL' : Hid (Below w.heap.size w w1) := Below.grown (HBL.out.alloc HBL.out.size _) hgrow (fun k hk => (World.ownsRow.lt HO.out k hk).1) (by have := HBL.out.size; simp; omega)
            clear hown' hgrow hnn hat
            go_wp2
            go_roundw
            case rel =>
              exact ⟨p ++ [(n : Int) % 256], n / 256, by simp, by omega, by have := HQ.out; simp; omega, by rw [HC.out, HDG.out]; simp, HO'.out, HBL'.out⟩
            case measure => simp [intOf]; omega
        · have hn0 : n = 0 := by omega
          subst hn0
          rw [dgs_zero, List.append_nil] at hcr
          have HC' : Hid (crd d = p) := hcr
          clear hown hbel hcr hql HC
          rw [show ((0 : Nat) : Int) = 0 from rfl]
          go_wp2
          go_ret
          exact ⟨⟨_, rfl, by rw [HC'.out]; exact HO.out⟩, HBL.out⟩
end Go.Proofs.Ytgfamcadgahiiaa
