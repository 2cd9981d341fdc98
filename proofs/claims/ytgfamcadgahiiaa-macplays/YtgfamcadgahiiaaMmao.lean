import Derived.Test.YtgfamcadgahiiaaMman
namespace Go.Proofs.Ytgfamcadgahiiaa
set_option linter.unusedSimpArgs false
open Go.ChangeShapes Go.WideShapes Go.ChangeAt Go.RowKit Go.Pin Go.Prm
/-- a row that one number was put behind -/
theorem own_app {B : Nat} {w2 : World} {v' : Value} {q : List Int} {x : Int} (h : w2.ownsRow B 3 1 v' (q.length + 1) (ints q ++ [.int .i64 x])) : Own B w2 v' (q ++ [x]) := by
  unfold Own
  rw [List.length_append, ints, List.map_append]
  exact h
set_option maxRecDepth 100000 in
set_option maxHeartbeats 4000000 in
theorem carried_any (v : Value) (d : List Int) (w : World) (h : Rd w v d) (hl : d.length < 100) (hb : ∀ x ∈ d, 0 ≤ x ∧ x < 1099511627776) :
    Calls Try.prog 64 #[v] w fun e w' => (∃ v', e = .returned v' ∧ Own w.heap.size w' v' (crd d)) ∧ Below w.heap.size w w' := by
  obtain ⟨i0, hi, hz0, hz1, hz2⟩ := info_parts info_int
  have HI : Hid _ := And.intro hi (And.intro hz0 (And.intro hz1 hz2))
  have HD : Hid (Rd w v d) := h
  have HB : Hid (∀ x ∈ d, 0 ≤ x ∧ x < 1099511627776) := hb
  obtain ⟨a, c, rfl, hc, _⟩ := h
  clear hi hz0 hz1 hz2 hb
  go_enter Try.func64, Try.ntmps64
  go_wp2
  go_loopw [3, 4, 5] (fun o k i w' => ∃ (q r : List Int) (cr : Int), i = .int .i64 (q.length : Nat) ∧ k = .int .i64 cr ∧ 0 ≤ cr ∧ cr < 1099511627776 ∧ q.length + r.length = d.length ∧ r = d.drop q.length ∧ cd 0 d = q ++ cd cr r ∧ cc 0 d = cc cr r ∧ Own w.heap.size w' o q ∧ Below w.heap.size w w') (fun _ _ i _ => d.length - (intOf i).toNat)
  case atStart => exact ⟨[], d, 0, rfl, rfl, by decide, by decide, by simp, rfl, rfl, rfl, World.ownsRow_nil _ _ _ _, Below.refl _ _⟩
  case round =>
    obtain ⟨q, r, cr, rfl, rfl, c0, c1, hlen, hdt, hcd, hcc, hown, hbel⟩ := hrel
    cases r with
    | cons x r =>
      have hlt : q.length < d.length := by simp at hlen; omega
      rw [List.drop_eq_getElem_cons hlt] at hdt
      injection hdt with hxe hre
      obtain ⟨x0, x1⟩ := HB.out x (by rw [hxe]; exact List.getElem_mem hlt)
      have hx : d.getD q.length 0 = x := by
        rw [List.getD_eq_getElem?_getD, List.getElem?_eq_getElem hlt, hxe]; rfl
      have hrd := HD.out.below hbel
      obtain ⟨a', c', e1, _, hrd⟩ := hrd
      have ha : a' = a := by injection e1 with e1; exact e1.symm
      subst ha
      obtain ⟨b, rfl, hbs, hcell⟩ := hrd.resolve_left (fun e => by subst e; simp at hlt)
      have hcl := hcell q.length hlt
      rw [hx] at hcl
      have hlt' : (q.length : Int) < (d.length : Int) := by omega
      have HO : Hid (Own w.heap.size wr u3 q) := hown
      have HBL : Hid (Below w.heap.size w wr) := hbel
      have H1 : Hid (cd 0 d = q ++ cd cr (x :: r)) := hcd
      have H2 : Hid (cc 0 d = cc cr (x :: r)) := hcc
      have H3 : Hid (r = d.drop (q.length + 1)) := hre
      have H4 : Hid (q.length + (x :: r).length = d.length) := hlen
      have hb9 : b < w.heap.size := by
        obtain ⟨_, _, e, _, hh⟩ := HD.out
        injection e with e
        rcases hh with hh | ⟨b', e', hb', _⟩
        · rw [hh] at hlt; simp at hlt
        · rw [← e] at e'; injection e' with e'; injection e' with e'; omega
      clear hown hbel hcd hcc hxe hre hlen hcell hx e1 hrd
      go_wp2_with (first | (at_builtin; refine wpList_append_own_at _ rfl _ _ 55 rfl w.heap.size 3 i0 (.int .i64 0) 1 8 Try.underlying55 HI.out.1 HI.out.2.1 HI.out.2.2.1 HI.out.2.2.2 rfl (by decide) _ q.length (ints q) rfl (World.ownsRow.alloc HO.out _) ⟨wr.heap.size, 0, none⟩ 1 1 [.int .i64 ((cr + x) % 256)] rfl rfl ?_ ?_ ?_ ?_ ?_ ?_))
      · intro j u hj
        match j, hj with
        | 0, hj => simp at hj; subst hj; simp [Addr.add]
      · intro u hu
        simp at hu
        rcases hu with rfl; rfl
      · unfold maxLen; omega
      · omega
      · have := HBL.out.size
        simp; omega
      · intro v' w1 hown' hgrow hnn hat
        have HO' : Hid (Own w.heap.size w1 v' (q ++ [(cr + x) % 256])) := own_app hown'
        have HBL' : Hid (Below w.heap.size w w1) := Below.grown (HBL.out.alloc HBL.out.size _) hgrow (fun k hk => (World.ownsRow.lt HO.out k hk).1) (by have := HBL.out.size; simp; omega)
        clear hown' hgrow hnn hat
        go_wp2
        go_roundw
        case rel =>
          exact ⟨q ++ [(cr + x) % 256], r, (cr + x) / 256, by simp, rfl, by omega, by omega, by have := H4.out; simp at this ⊢; omega, by rw [List.length_append]; exact H3.out, by rw [H1.out]; simp [cd], H2.out, HO'.out, HBL'.out⟩
        case measure => simp [intOf]; omega
    | nil =>
      have hq : q.length = d.length := by simpa using hlen
      have hlt' : ¬ q.length < d.length := by omega
      have hge : 0 ≤ cc 0 d ∧ cc 0 d < 1099511627776 := by have := crd_facts HB.out; exact ⟨this.2.2.2.1, this.2.2.2.2⟩
      have hcr : crd d = q ++ dgs cr.toNat := by unfold crd; rw [hcd, hcc]; simp [cd, cc]
      have HC : Hid (crd d = q ++ dgs cr.toNat) := hcr
      have HO : Hid (Own w.heap.size wr u3 q) := hown
      have HBL : Hid (Below w.heap.size w wr) := hbel
      have HQ : Hid (q.length = d.length) := hq
      clear hown hbel hcd hcc hdt hlen hge hcr hq
      go_wp2
      go_loopw [3, 4] (fun o k w' => ∃ (q : List Int) (n : Nat), k = .int .i64 (n : Int) ∧ n < 1099511627776 ∧ q.length + (dgs n).length ≤ 105 ∧ crd d = q ++ dgs n ∧ Own w.heap.size w' o q ∧ Below w.heap.size w w') (fun _ k _ => (intOf k).toNat)
      case atStart =>
        refine ⟨q, cr.toNat, by rw [Int.toNat_of_nonneg c0], by omega, ?_, HC.out, HO.out, HBL.out⟩
        have := dgs_len 5 cr.toNat (by omega)
        have := HQ.out
        omega
      case round =>
        clear HO HBL HC HQ c0 c1 hlt'
        obtain ⟨p, n, rfl, hn, hql, hcr, hown, hbel⟩ := hrel
        have HO : Hid (Own w.heap.size wr u3 p) := hown
        have HBL : Hid (Below w.heap.size w wr) := hbel
        have HC : Hid (crd d = p ++ dgs n) := hcr
        by_cases h0 : 0 < n
        · have h0' : (0 : Int) < (n : Int) := by omega
          have hdl := dgs_pos n h0
          rw [hdl, List.length_cons] at hql
          have HQ : Hid (p.length + ((dgs (n / 256)).length + 1) ≤ 105) := hql
          have HDG : Hid (dgs n = ((n % 256 : Nat) : Int) :: dgs (n / 256)) := hdl
          have hq105 : p.length < 105 := by omega
          clear hown hbel hcr hdl hql
          go_wp2_with (first | (at_builtin; refine wpList_append_own_at _ rfl _ _ 55 rfl w.heap.size 3 i0 (.int .i64 0) 1 8 Try.underlying55 HI.out.1 HI.out.2.1 HI.out.2.2.1 HI.out.2.2.2 rfl (by decide) _ p.length (ints p) rfl (World.ownsRow.alloc HO.out _) ⟨wr.heap.size, 0, none⟩ 1 1 [.int .i64 ((n : Int) % 256)] rfl rfl ?_ ?_ ?_ ?_ ?_ ?_))
          · intro j u hj
            match j, hj with
            | 0, hj => simp at hj; subst hj; simp [Addr.add]
          · intro u hu
            simp at hu
            rcases hu with rfl; rfl
          · unfold maxLen; omega
          · omega
          · have := HBL.out.size
            simp; omega
          · intro v' w1 hown' hgrow hnn hat
            have HO' : Hid (Own w.heap.size w1 v' (p ++ [(n : Int) % 256])) := own_app hown'
            have HBL' : Hid (Below w.heap.size w w1) := Below.grown (HBL.out.alloc HBL.out.size _) hgrow (fun k hk => (World.ownsRow.lt HO.out k hk).1) (by have := HBL.out.size; simp; omega)
            clear hown' hgrow hnn hat
            go_wp2
            go_roundw
            case rel =>
              exact ⟨p ++ [(n : Int) % 256], n / 256, by simp, by omega, by have := HQ.out; simp; omega, by rw [HC.out, HDG.out]; simp, HO'.out, HBL'.out⟩
            case measure => simp [intOf]; omega
        · have hn0 : n = 0 := by omega
          subst hn0
          rw [dgs_zero, List.append_nil] at hcr
          have HC' : Hid (crd d = p) := hcr
          clear hown hbel hcr hql HC
          rw [show ((0 : Nat) : Int) = 0 from rfl]
          go_wp2
          go_ret
          exact ⟨⟨_, rfl, by rw [HC'.out]; exact HO.out⟩, HBL.out⟩
end Go.Proofs.Ytgfamcadgahiiaa
namespace Go.Proofs.Ytgfamcadgahiiaa
set_option linter.unusedSimpArgs false
open Go.ChangeShapes Go.WideShapes Go.ChangeAt Go.RowKit Go.Pin Go.Prm
theorem Own.cell {B : Nat} {w : World} {g n cap : Nat} {l : List Int} (h : Own B w (.slice (some ⟨g, 0, none⟩) n cap) l) {j : Nat} (hj : j < l.length) : w.cell? ⟨g, j, none⟩ = some (.int .i64 (l.getD j 0)) := by
  have := World.ownsRow.cells h (g := g) rfl j (.int .i64 (l.getD j 0)) (by rw [List.getElem?_map, List.getElem?_eq_getElem hj, List.getD_eq_getElem?_getD, List.getElem?_eq_getElem hj]; rfl)
  rwa [add_mid, Nat.zero_add] at this
theorem Own.shape {B : Nat} {w : World} {v : Value} {l : List Int} (h : Own B w v l) (h0 : 0 < l.length) : ∃ g cap, v = .slice (some ⟨g, 0, none⟩) l.length cap ∧ l.length ≤ cap ∧ B ≤ g ∧ g < w.heap.size := by
  rcases h.2 with ⟨_, e⟩ | ⟨g, cap, cur, rfl, hb, hg, hnc, _⟩
  · omega
  · exact ⟨g, cap, rfl, hnc, hb, heap_lt hg⟩
theorem Own.frozen {B : Nat} {w : World} {g n cap : Nat} {l : List Int} (h : Own B w (.slice (some ⟨g, 0, none⟩) n cap) l) (j : Nat) : w.frozen? ⟨g, j, none⟩ = false := by
  rcases h.2 with ⟨e, _⟩ | ⟨g', cap', cur, e, hb, hg, hnc, _⟩
  · simp at e
  · injection e with e1 e2 e3
    injection e1 with e1
    injection e1 with e1
    subst e1
    exact frozen_of_row w _ _ _ _ hg
theorem Own.set {B : Nat} {w : World} {g cap : Nat} {l : List Int} (h : Own B w (.slice (some ⟨g, 0, none⟩) l.length cap) l) (j : Nat) (x : Int) : Own B (w.setCell ⟨g, j, none⟩ (.int .i64 x)) (.slice (some ⟨g, 0, none⟩) l.length cap) (l.set j x) := by
  have := (World.ownsRow.stored h j (.int .i64 x)).1
  unfold Own ints
  rw [List.length_set, List.map_set]
  exact this
/-- the length of a slice -/
def slen : Value → Nat
  | .slice _ n _ => n
  | _ => 0
theorem own_zeros (w : World) (n : Nat) (hn : n ≤ 1000) : Own w.heap.size (w.alloc (.cells (VI .i64 (List.replicate n 0)) 3)) (.slice (some ⟨w.heap.size, 0, none⟩) n n) (List.replicate n 0) := by
  refine ⟨by simp [ints], .inr ⟨w.heap.size, n, VI .i64 (List.replicate n 0), by simp, Nat.le_refl _, by rw [heap_alloc_any, if_pos rfl], by simp, ?_, by simp, ?_⟩⟩
  · unfold maxLen; omega
  · simp [ints, VI]
set_option maxRecDepth 100000 in
theorem mk_n (n : Nat) (hn : n ≤ 1000) (w : World) : (Instr.makeSlice 55 (.int .i64 (n : Int)) (.int .i64 (n : Int))).run Try.prog w = .ok (.slice (some ⟨w.heap.size, 0, none⟩) n n) (w.alloc (.cells (VI .i64 (List.replicate n 0)) 3)) := by
  obtain ⟨i0, hi, hz0, hz1, hz2⟩ := info_parts info_int
  have := run_makeSlice (P := Try.prog) w 55 3 i0 (.int .i64 0) Try.underlying55 hi hz0 .i64 .i64 (n : Int) (n : Int) (by omega) (Int.le_refl _) (by rw [hz1]; omega) (by rw [hz2]; omega) (by omega)
  rw [this, hz1, Int.toNat_natCast]
  congr 3
  apply Array.ext'
  simp [madeCells, Value.cells, VI]
  refine List.eq_replicate_iff.2 ⟨by simp, ?_⟩
  simp
  intro a _
  rw [Nat.mod_one]
  rfl
theorem mk17 (w : World) : (Instr.makeSlice 55 (.int .i64 17) (.int .i64 17)).run Try.prog w = .ok (.slice (some ⟨w.heap.size, 0, none⟩) 17 17) (w.alloc (.cells (VI .i64 (List.replicate 17 0)) 3)) := mk_n 17 (by decide) w
set_option maxRecDepth 100000 in
set_option maxHeartbeats 8000000 in
theorem fold_any (v : Value) (d : List Int) (w : World) (h : Rd w v d) (hl : d.length ≤ 50) (hb : ∀ x ∈ d, 0 ≤ x ∧ x < 256) :
    Calls Try.prog 65 #[v] w fun e w' => (∃ v' d', e = .returned (.tuple #[v', .bool (decide (1361129467683753853853498429727072845824 ≤ VB d))]) ∧ Own w.heap.size w' v' d' ∧ (∀ x ∈ d', 0 ≤ x ∧ x < 256) ∧ VB d' = VB d % 1361129467683753853853498429727072845824 + 5 * (VB d / 1361129467683753853853498429727072845824) ∧ d'.length ≤ max 17 (d.length - 16) + 5) ∧ Below w.heap.size w w' := by
  obtain ⟨i0, hi, hz0, hz1, hz2⟩ := info_parts info_int
  have HI : Hid _ := And.intro hi (And.intro hz0 (And.intro hz1 hz2))
  have HDG : Hid (∀ W i, Below w.heap.size w W → Calls Try.prog 66 #[v, .int .i64 ((i : Nat) : Int)] W fun e w' => e = .returned (.int .i64 (d.getD i 0)) ∧ w' = W) := fun W i hW => digit_any v d i W (h.below hW) (by omega)
  have HB : Hid (∀ x ∈ d, 0 ≤ x ∧ x < 256) := hb
  have HBD : Hid (∀ i, 0 ≤ d.getD i 0 ∧ d.getD i 0 < 256) := byte_at hb
  obtain ⟨a, c, rfl, hc, _⟩ := h
  clear hi hz0 hz1 hz2 hb
  have hO := own_zeros w 17 (by decide)
  have hBz : Below w.heap.size w (w.alloc (.cells (VI .i64 (List.replicate 17 0)) 3)) := (Below.refl _ _).alloc (Nat.le_refl _) _
  obtain ⟨W0, hW0⟩ : ∃ W, w.alloc (.cells (VI .i64 (List.replicate 17 0)) 3) = W := ⟨_, rfl⟩
  have hW0'' := hW0
  rw [hW0] at hO hBz
  have HO : Hid (Own w.heap.size W0 (.slice (some ⟨w.heap.size, 0, none⟩) 17 17) (List.replicate 17 0)) := hO
  have HBZ : Hid (Below w.heap.size w W0) := hBz
  clear hO hBz hW0
  have hmk := mk17 w
  rw [hW0''] at hmk
  clear hW0''
  go_enter Try.func65, Try.ntmps65
  go_wp2
  go_loopw [5] (fun i w' => ∃ k : Nat, k ≤ 16 ∧ i = .int .i64 k ∧ Own w.heap.size w' (.slice (some ⟨w.heap.size, 0, none⟩) 17 17) ((dg1 d 17).take k ++ (List.replicate 17 (0 : Int)).drop k) ∧ Below w.heap.size w w') (fun i _ => 16 - (intOf i).toNat)
  case atStart => exact ⟨0, Nat.zero_le _, rfl, HO.out, HBZ.out⟩
  case round =>
    clear HO HBZ
    obtain ⟨k, hk, rfl, hown, hbel⟩ := hrel
    have HBL : Hid (Below w.heap.size w wr) := hbel
    have hll : ((dg1 d 17).take k ++ (List.replicate 17 (0 : Int)).drop k).length = 17 := by simp; omega
    by_cases hlt : k < 16
    · have hcell := Own.cell hown (j := k) (by omega)
      have hfz := Own.frozen hown k
      have hst := Own.set (by rw [hll]; exact hown) k ((dg1 d 17)[k]'(by simp; omega))
      rw [set_step _ _ _ (by simp; omega) (by simp; omega), dg1_at _ _ _ (by omega), hll] at hst
      have HST : Hid (Own w.heap.size (wr.setCell ⟨w.heap.size, k, none⟩ (.int .i64 (d.getD k 0))) (.slice (some ⟨w.heap.size, 0, none⟩) 17 17) ((dg1 d 17).take (k + 1) ++ (List.replicate 17 (0 : Int)).drop (k + 1))) := hst
      have HC : Hid (Calls Try.prog 66 #[.slice a d.length c, .int .i64 (k : Int)] wr fun e w' => e = .returned (.int .i64 (d.getD k 0)) ∧ w' = wr) := HDG.out wr k hbel
      clear hown hbel hll hst
      generalize d.getD k 0 = x at *
      generalize List.getD _ k 0 = z at hcell
      go_wp2_with (go_at_call 66; refine HC.out.mono ?_; rintro e w2 ⟨rfl, rfl⟩)
      go_roundw
      case rel => exact ⟨k + 1, by omega, by go_num, HST.out, HBL.out.setCell (Nat.le_refl _) _⟩
      case measure => simp [intOf]; omega
    · have hk' : k = 16 := by omega
      subst hk'
      have hcell := Own.cell hown (j := 16) (by omega)
      have hfz := Own.frozen hown 16
      have hst := Own.set (by rw [hll]; exact hown) 16 (d.getD 16 0 % 4)
      have e0 : ((dg1 d 17).take 16 ++ (List.replicate 17 (0 : Int)).drop 16).set 16 (d.getD 16 0 % 4) = dg1 d 16 ++ [d.getD 16 0 % 4] := rfl
      rw [e0, hll] at hst
      obtain ⟨f1, f2⟩ := fold_VB HB.out
      obtain ⟨L0, hL0⟩ : ∃ L0, dg1 d 16 ++ [d.getD 16 0 % 4] = L0 := ⟨_, rfl⟩
      have hf0 : Fdk L0 (d.drop 16) L0 0 := by
        rw [← hL0]
        have hb16 := HBD.out 16
        have hmem : ∀ x ∈ dg1 d 16 ++ [d.getD 16 0 % 4], 0 ≤ x ∧ x < 256 := fun x hx => by
          rcases List.mem_append.1 hx with hx | hx
          · simp only [dg1, List.mem_map] at hx
            obtain ⟨i, _, rfl⟩ := hx
            exact HBD.out i
          · rw [List.mem_singleton.1 hx]; omega
        exact ⟨by simp, fun x hx => by have := hmem x hx; omega, fun j _ => (byte_at hmem j).2, by simp [VB]⟩
      rw [hL0] at hst f1
      have HST : Hid (Own w.heap.size (wr.setCell ⟨w.heap.size, 16, none⟩ (.int .i64 (d.getD 16 0 % 4))) (.slice (some ⟨w.heap.size, 0, none⟩) 17 17) L0) := hst
      have HL17 : Hid (L0.length = 17) := by rw [← hL0]; simp [Hid]
      have HF : Hid (Fdk L0 (d.drop 16) L0 0) := hf0
      have H1 : Hid (VB L0 = VB d % 1361129467683753853853498429727072845824) := f1
      have H2 : Hid (VB (hs (d.drop 16)) = VB d / 1361129467683753853853498429727072845824) := f2
      have HC : Hid (Calls Try.prog 66 #[.slice a d.length c, .int .i64 16] wr fun e w' => e = .returned (.int .i64 (d.getD 16 0)) ∧ w' = wr) := HDG.out wr 16 hbel
      have HT : Hid (∀ x ∈ d.drop 16, 0 ≤ x ∧ x < 256) := fun x hx => HB.out x (List.mem_of_mem_drop hx)
      have b16 := HBD.out 16
      clear hown hbel hll hst e0 f1 f2 hf0 hL0 hlt hk
      generalize d.getD 16 0 = x16 at *
      generalize List.getD _ 16 0 = z at hcell
      obtain ⟨p16, q16⟩ := b16
      rw [show ((16 : Nat) : Int) = 16 from rfl]
      go_wp2_with (go_at_call 66; refine HC.out.mono ?_; rintro e w2 ⟨rfl, rfl⟩)
      go_loopw [4, 6, 7] (fun lv an i w' => ∃ (k : Nat) (L : List Int), i = .int .i64 ((16 + k : Nat) : Int) ∧ k ≤ (d.drop 16).length ∧ an = .bool (decide (0 < VB ((hs (d.drop 16)).take k))) ∧ Fdk L0 (d.drop 16) L k ∧ Own w.heap.size w' lv L ∧ Below w.heap.size w w') (fun _ _ i _ => d.length - (intOf i).toNat)
      case atStart =>
        refine ⟨0, L0, rfl, Nat.zero_le _, by simp [VB], HF.out, ?_, HBL.out.setCell (Nat.le_refl _) _⟩
        have := HST.out
        exact this
      case round =>
        clear HF HST HC hcell hfz p16 q16 HBL
        obtain ⟨k, L, rfl, hkt, rfl, hF, hown, hbel⟩ := hrel
        have hdl : (d.drop 16).length = d.length - 16 := by simp
        have HF : Hid (Fdk L0 (d.drop 16) L k) := hF
        have HO : Hid (Own w.heap.size wr u4 L) := hown
        have HBL : Hid (Below w.heap.size w wr) := hbel
        have hLl := hF.len
        by_cases hlt : 16 + k < d.length
        · have hkl : k < (d.drop 16).length := by omega
          have hg := hs_get (d.drop 16) k hkl
          rw [getD_drop, getD_drop, show 16 + (k + 1) = 16 + k + 1 by omega] at hg
          obtain ⟨x0, x1⟩ := HBD.out (16 + k)
          obtain ⟨y0, y1⟩ := HBD.out (16 + k + 1)
          have HC1 : Hid (Calls Try.prog 66 #[.slice a d.length c, .int .i64 ((16 + k : Nat) : Int)] wr fun e w' => e = .returned (.int .i64 (d.getD (16 + k) 0)) ∧ w' = wr) := HDG.out wr (16 + k) hbel
          have HC2 : Hid (Calls Try.prog 66 #[.slice a d.length c, .int .i64 ((16 + k + 1 : Nat) : Int)] wr fun e w' => e = .returned (.int .i64 (d.getD (16 + k + 1) 0)) ∧ w' = wr) := HDG.out wr (16 + k + 1) hbel
          have HAN : Hid (decide (0 < VB ((hs (d.drop 16)).take (k + 1))) = (decide (0 < VB ((hs (d.drop 16)).take k)) || decide (0 < (hs (d.drop 16)).getD k 0))) := any_step HT.out k hkl
          obtain ⟨hh, hhe⟩ : ∃ hh, (hs (d.drop 16)).getD k 0 = hh := ⟨_, rfl⟩
          rw [hhe] at hg HAN
          have HHE : Hid ((hs (d.drop 16)).getD k 0 = hh) := hhe
          obtain ⟨m, hm⟩ : ∃ m : Nat, m = 16 + k := ⟨_, rfl⟩
          rw [← hm] at hlt hg x0 x1 y0 y1 HC1 HC2 ⊢
          have hm16 : (m : Int) - 16 = (k : Int) := by omega
          have hmk : 16 ≤ m := by omega
          have HM : Hid (m = 16 + k) := hm
          have hg' := hg.symm
          clear hm hg
          generalize d.getD m 0 = dx at *
          generalize d.getD (m + 1) 0 = dy at *
          generalize decide (0 < VB ((hs (d.drop 16)).take k)) = ab at *
          have HC2' : Hid (Calls Try.prog 66 #[.slice a d.length c, .int .i64 ((m : Int) + 1)] wr fun e w' => e = .returned (.int .i64 dy) ∧ w' = wr) := HC2.out
          have HLL : Hid (L.length = max 17 k) := hLl
          have HKL : Hid (k < (d.drop 16).length) := hkl
          clear hown hbel hF hhe hdl hLl hkl hkt
          go_upto_region 11 with fail
          go_wp2_with (go_at_call 66; first | (with_reducible refine HC1.out.mono ?_; rintro e w2 ⟨rfl, rfl⟩) | (with_reducible refine HC2'.out.mono ?_; rintro e w2 ⟨rfl, rfl⟩))
          go_loopw [4] (fun lv w' => ∃ p : Nat, (L ++ List.replicate p 0).length ≤ max 17 (k + 1) ∧ Own w.heap.size w' lv (L ++ List.replicate p 0) ∧ Below w.heap.size w w') (fun lv _ => 200 - slen lv)
          case atStart => exact ⟨0, by have := HLL.out; simp; omega, by simpa using HO.out, HBL.out⟩
          case round =>
            obtain ⟨p, hpl, hown, hbel⟩ := hrel
            have HO2 : Hid (Own w.heap.size wr u4 (L ++ List.replicate p 0)) := hown
            have HBL2 : Hid (Below w.heap.size w wr) := hbel
            have hLl := HLL.out
            have hk50 : k < 50 := by have := HM.out; omega
            have hpos : 0 < (L ++ List.replicate p (0 : Int)).length := by simp; omega
            obtain ⟨g, cap, rfl, hcap, hg0, hg1⟩ := hown.shape hpos
            have HPL : Hid ((L ++ List.replicate p (0 : Int)).length ≤ max 17 (k + 1)) := hpl
            obtain ⟨n, hn⟩ : ∃ n, (L ++ List.replicate p (0 : Int)).length = n := ⟨_, rfl⟩
            have HN : Hid ((L ++ List.replicate p (0 : Int)).length = n) := hn
            rw [hn] at hcap hpl hpos HO2 ⊢
            have hn51 : n ≤ 51 := by omega
            clear hown hbel hn hpl HLL
            by_cases hle : n ≤ k
            · have hle' : (n : Int) ≤ (k : Int) := by omega
              go_wp2_with (first | (at_builtin; refine wpList_append_own_at _ rfl _ _ 55 rfl w.heap.size 3 i0 (.int .i64 0) 1 8 Try.underlying55 HI.out.1 HI.out.2.1 HI.out.2.2.1 HI.out.2.2.2 rfl (by decide) _ n (ints (L ++ List.replicate p 0)) rfl (World.ownsRow.alloc (by have := HO2.out; unfold Own at this; rw [HN.out] at this; exact this) _) ⟨wr.heap.size, 0, none⟩ 1 1 [.int .i64 0] rfl rfl ?_ ?_ ?_ ?_ ?_ ?_))
              · intro j u hj
                match j, hj with
                | 0, hj => simp at hj; subst hj; simp [Addr.add]
              · intro u hu
                simp at hu
                rcases hu with rfl; rfl
              · unfold maxLen; omega
              · omega
              · have := HBL2.out.size
                simp; omega
              · intro v' w1 hown' hgrow hnn hat
                have HO' : Hid (Own w.heap.size w1 v' (L ++ List.replicate (p + 1) 0)) := by
                  have h1 : Own w.heap.size w1 v' ((L ++ List.replicate p 0) ++ [0]) := own_app (by rw [HN.out]; simpa [ints] using hown')
                  rw [List.append_assoc, ← List.replicate_succ'] at h1
                  exact h1
                have hsl : slen v' = n + 1 := by
                  obtain ⟨g', cap', e, _⟩ := HO'.out.shape (by simp; omega)
                  rw [e, slen, List.length_append, List.length_replicate]
                  have := HN.out
                  rw [List.length_append, List.length_replicate] at this
                  omega
                have HSL : Hid (slen v' = n + 1) := hsl
                have HBL' : Hid (Below w.heap.size w w1) := Below.grown (HBL2.out.alloc HBL2.out.size _) hgrow (fun k hk => (World.ownsRow.lt HO2.out k hk).1) (by have := HBL2.out.size; simp; omega)
                clear hown' hgrow hnn hat hsl
                go_wp2
                go_roundw
                case rel =>
                  refine ⟨p + 1, ?_, HO'.out, HBL'.out⟩
                  have := HN.out
                  rw [List.length_append, List.length_replicate] at this ⊢
                  omega
                case measure =>
                  have := HSL.out
                  simp only [List.getElem?_toArray, List.getElem?_cons_succ, List.getElem?_cons_zero, Option.getD_some, Array.getD_eq_getD_getElem?, this]
                  simp only [slen]
                  omega
            · have hgt : ¬ ((n : Int) ≤ (k : Int)) := by omega
              have hkn : k < n := by omega
              have hown2 : Own w.heap.size wr (.slice (some ⟨g, 0, none⟩) (L ++ List.replicate p (0 : Int)).length cap) (L ++ List.replicate p 0) := by rw [HN.out]; exact HO2.out
              have hcell := Own.cell hown2 (j := k) (by rw [HN.out]; exact hkn)
              have hfz := Own.frozen hown2 k
              have hnm : n = max 17 (k + 1) := by
                have h1 := HPL.out
                have h2 := HN.out
                rw [HN.out] at h1
                rw [List.length_append, List.length_replicate] at h2
                omega
              have hpad := HF.out.pad HT.out HKL.out p (by rw [HN.out]; exact hnm)
              rw [HHE.out] at hpad
              have hset := hown2.set k ((L ++ List.replicate p (0 : Int)).getD k 0 + 5 * hh)
              rw [HN.out] at hset
              have hx : 0 ≤ (L ++ List.replicate p (0 : Int)).getD k 0 ∧ (L ++ List.replicate p (0 : Int)).getD k 0 < 2000 := by
                have hlt2 : k < (L ++ List.replicate p (0 : Int)).length := by rw [HN.out]; exact hkn
                rw [List.getD_eq_getElem?_getD, List.getElem?_eq_getElem hlt2, Option.getD_some]
                rcases List.mem_append.1 (List.getElem_mem hlt2) with hm | hm
                · exact HF.out.bd _ hm
                · rw [(List.mem_replicate.1 hm).2]; omega
              obtain ⟨x, hxe⟩ : ∃ x, (L ++ List.replicate p (0 : Int)).getD k 0 = x := ⟨_, rfl⟩
              rw [hxe] at hcell hpad hset hx
              have HPD : Hid (Fdk L0 (d.drop 16) ((L ++ List.replicate p 0).set k (x + 5 * hh)) (k + 1)) := hpad
              have HSET : Hid (Own w.heap.size (wr.setCell ⟨g, k, none⟩ (.int .i64 (x + 5 * hh))) (.slice (some ⟨g, 0, none⟩) n cap) ((L ++ List.replicate p 0).set k (x + 5 * hh))) := hset
              obtain ⟨q0, q1⟩ := hx
              have hh0 : 0 ≤ hh := by omega
              have hh1 : hh < 256 := by omega
              clear hown2 hnm hpad hset hxe
              cases ab
              · go_wp2
                go_roundw
                case rel =>
                  refine ⟨k + 1, _, ?_, ?_, ?_, HPD.out, HSET.out, HBL2.out.setCell hg0 _⟩
                  · have := HM.out; go_num
                  · have := HKL.out; omega
                  · rw [HAN.out]; rfl
                case measure => simp [intOf]; omega
              · go_wp2
                go_roundw
                case rel =>
                  refine ⟨k + 1, _, ?_, ?_, ?_, HPD.out, HSET.out, HBL2.out.setCell hg0 _⟩
                  · have := HM.out; go_num
                  · have := HKL.out; omega
                  · rw [HAN.out]; rfl
                case measure => simp [intOf]; omega
        · have hke : k = (d.drop 16).length ∨ d.length ≤ 16 := by omega
          have hkk : (hs (d.drop 16)).take k = hs (d.drop 16) := List.take_of_length_le (by rw [hs_len]; omega)
          have hval := hF.val
          rw [hkk, H1.out, H2.out] at hval
          have hcf := crd_facts (d := L) (fun x hx => by have := hF.bd x hx; omega)
          have HCAR : Hid (Calls Try.prog 64 #[u4] wr fun e w' => (∃ v', e = .returned v' ∧ Own wr.heap.size w' v' (crd L)) ∧ Below wr.heap.size wr w') := carried_any u4 L wr hown.rd (by omega) (fun x hx => by have := hF.bd x hx; omega)
          have HV : Hid (VB (crd L) = VB d % 1361129467683753853853498429727072845824 + 5 * (VB d / 1361129467683753853853498429727072845824)) := hcf.1.trans hval
          have HBY : Hid (∀ x ∈ crd L, 0 ≤ x ∧ x < 256) := hcf.2.1
          have HLN : Hid ((crd L).length ≤ max 17 (d.length - 16) + 5) := by have := hcf.2.2.1; show _ ≤ _; omega
          have HAB : Hid (decide (0 < VB ((hs (d.drop 16)).take k)) = decide (1361129467683753853853498429727072845824 ≤ VB d)) := by
            rw [hkk, H2.out]
            show decide _ = decide _
            congr 1
            exact propext (by omega)
          generalize decide (0 < VB ((hs (d.drop 16)).take k)) = ab at *
          obtain ⟨m, hm⟩ : ∃ m : Nat, m = 16 + k := ⟨_, rfl⟩
          rw [← hm] at hlt ⊢
          clear hown hbel hF hval hcf hkk hke hdl hLl hkt hm
          go_wp2_with (go_at_call 64; refine HCAR.out.mono ?_; rintro e w2 ⟨⟨v', rfl, hO'⟩, hb2⟩)
          go_ret2
          refine ⟨⟨v', crd L, by rw [← HAB.out]; rfl, ?_, HBY.out, HV.out, HLN.out⟩, HBL.out.trans (hb2.mono HBL.out.size)⟩
          exact owns_mono HBL.out.size hO'
end Go.Proofs.Ytgfamcadgahiiaa
namespace Go.Proofs.Ytgfamcadgahiiaa
set_option linter.unusedSimpArgs false
open Go.ChangeShapes Go.WideShapes Go.ChangeAt Go.RowKit Go.Pin Go.Prm
theorem infoNum : (Try.prog.info? 91).map (·.size) = some 17 := by kernel_rfl
abbrev rowI (w : World) (g : Nat) (l : List Int) (T : TypeId) : Prop := w.heap[g]? = some (.cells (VI .i64 l) T (0, 0))
theorem rowI_cell {w : World} {g : Nat} {l : List Int} {T : TypeId} (h : rowI w g l T) {i : Nat} (hi : i < l.length) : w.cell? ⟨g, i, none⟩ = some (.int .i64 (l.getD i 0)) := by
  rw [cell_of_row w _ _ _ _ _ h, VI_at _ _ _ hi]
theorem rowI_set {w : World} {g : Nat} {l : List Int} {T : TypeId} (h : rowI w g l T) (i : Nat) (v : Int) : rowI (w.setCell ⟨g, i, none⟩ (.int .i64 v)) g (l.set i v) T := by
  unfold rowI
  rw [heap_setCell_same w _ _ _ _ _ h, VI_set]
/-- what a slice reads -/
def rdl (w : World) : Value → List Int
  | .slice (some p) n _ => (List.range n).map fun j => match w.cell? ⟨p.block, p.off + j, none⟩ with
    | some (.int _ x) => x
    | _ => 0
  | _ => []
theorem Rd.rdl {w : World} {v : Value} {l : List Int} (h : Rd w v l) : rdl w v = l := by
  obtain ⟨a, c, rfl, hc, h⟩ := h
  rcases h with rfl | ⟨b, rfl, _, h⟩
  · cases a <;> simp [Go.Proofs.Ytgfamcadgahiiaa.rdl]
  · apply List.ext_getElem
    · simp [Go.Proofs.Ytgfamcadgahiiaa.rdl]
    · intro i h1 h2
      simp only [Go.Proofs.Ytgfamcadgahiiaa.rdl, List.getElem_map, List.getElem_range, Nat.zero_add, h i h2]
      rw [List.getD_eq_getElem?_getD, List.getElem?_eq_getElem h2]; rfl
theorem fold_math (V : Int) (h0 : 0 ≤ V) : (V % 1361129467683753853853498429727072845824 + 5 * (V / 1361129467683753853853498429727072845824)) % 1361129467683753853853498429727072845819 = V % 1361129467683753853853498429727072845819 ∧ 0 ≤ V % 1361129467683753853853498429727072845824 + 5 * (V / 1361129467683753853853498429727072845824) ∧
    (1361129467683753853853498429727072845824 ≤ V → V % 1361129467683753853853498429727072845824 + 5 * (V / 1361129467683753853853498429727072845824) < V) ∧ (¬ 1361129467683753853853498429727072845824 ≤ V → V % 1361129467683753853853498429727072845824 + 5 * (V / 1361129467683753853853498429727072845824) = V) := by
  omega
def mm (j : Nat) : Int := if j = 16 then 3 else 255
/-- is it p or above? -/
theorem high_math {N : Nat} (hN : N < 1361129467683753853853498429727072845824) {hb : Bool} (hh : hb = true ↔ ∀ j, 1 ≤ j → j < 17 → (bts N).getD j 0 = mm j) :
    (hb = true → 251 ≤ (bts N).getD 0 0 → N % P = N - P ∧ bts (N - P) = (List.replicate 17 (0 : Int)).set 0 ((bts N).getD 0 0 - 251)) ∧ (hb = false → N % P = N) ∧ (hb = true → ¬ 251 ≤ (bts N).getD 0 0 → N % P = N) := by
  have hn : nb (bts N) = N := nb_bts N (Nat.lt_trans hN (by decide))
  have h3 : (bts N).getD 16 0 ≤ 3 := by
    rw [bts_getD _ _ (by decide)]
    have : N / 256 ^ 16 < 4 := by
      rw [show (256 : Nat) ^ 16 = 340282366920938463463374607431768211456 by decide]; omega
    omega
  refine ⟨fun ht h251 => ?_, fun hf => ?_, fun ht h251 => ?_⟩
  · have hm := hh.1 ht
    have he := below_end (bts_bd N) h3 (fun j h1 h2 => by rw [hm j h1 (by omega), mm, if_neg (by omega)])
    rw [hn, hm 16 (by decide) (by decide), mm, if_pos rfl] at he
    have hge : P ≤ N := by
      have : ¬ N < P := fun hlt => by have := he.1 hlt; omega
      omega
    have hs := nb_sum (bts_bd N)
    rw [hn, hm 1 (by decide) (by decide), hm 2 (by decide) (by decide), hm 3 (by decide) (by decide), hm 4 (by decide) (by decide), hm 5 (by decide) (by decide), hm 6 (by decide) (by decide), hm 7 (by decide) (by decide), hm 8 (by decide) (by decide), hm 9 (by decide) (by decide), hm 10 (by decide) (by decide), hm 11 (by decide) (by decide), hm 12 (by decide) (by decide), hm 13 (by decide) (by decide), hm 14 (by decide) (by decide), hm 15 (by decide) (by decide), hm 16 (by decide) (by decide)] at hs
    have hb0 := byte_at (bts_bd N) 0
    have hv : N - P = ((bts N).getD 0 0 - 251).toNat := by
      clear he hh hm hn h3
      generalize (bts N).getD 0 0 = y at *
      simp [mm] at hs
      unfold P at hge ⊢
      omega
    refine ⟨?_, ?_⟩
    · unfold P at *; omega
    · rw [hv]
      have hk : Key17 ((List.replicate 17 (0 : Int)).set 0 ((bts N).getD 0 0 - 251)) := ⟨rfl, set_bd (by decide) 0 (by omega)⟩
      have hnb : nb ((List.replicate 17 (0 : Int)).set 0 ((bts N).getD 0 0 - 251)) = ((bts N).getD 0 0 - 251).toNat := by
        rw [nb_sum hk.bd]
        rw [show (List.replicate 17 (0 : Int)).set 0 ((bts N).getD 0 0 - 251) = rw17 ((bts N).getD 0 0 - 251) 0 0 from rfl]
        simp [rw17]
      rw [← hnb]
      exact bts_nb _ hk.len hk.bd
  · apply Nat.mod_eq_of_lt
    by_cases hmid : ∀ j, 1 ≤ j → j < 16 → (bts N).getD j 0 = 255
    · have he := below_end (bts_bd N) h3 hmid
      rw [hn] at he
      apply he.2
      left
      have : ¬ (bts N).getD 16 0 = 3 := fun e => by
        have : hb = true := hh.2 (fun j h1 h2 => by
          by_cases h16 : j = 16
          · rw [h16, e]; rfl
          · rw [hmid j h1 (by omega), mm, if_neg h16])
        rw [hf] at this
        cases this
      omega
    · obtain ⟨j, hj⟩ := Classical.not_forall.1 hmid
      have h1 : 1 ≤ j := Classical.byContradiction fun h => hj (fun h' => absurd h' h)
      have h2 : j < 16 := Classical.byContradiction fun h => hj (fun _ h' => absurd h' h)
      have h4 : (bts N).getD j 0 ≠ 255 := fun e => hj (fun _ _ => e)
      have := below_mid (bts_bd N) h3 j h1 h2 h4
      rwa [hn] at this
  · have hm := hh.1 ht
    have he := below_end (bts_bd N) h3 (fun j h1 h2 => by rw [hm j h1 (by omega), mm, if_neg (by omega)])
    rw [hn] at he
    exact Nat.mod_eq_of_lt (he.2 (.inr (by omega)))
end Go.Proofs.Ytgfamcadgahiiaa
namespace Go.Proofs.Ytgfamcadgahiiaa
set_option linter.unusedSimpArgs false
open Go.ChangeShapes Go.WideShapes Go.ChangeAt Go.RowKit Go.Pin Go.Prm
def bit : Value → Nat
  | .bool true => 1
  | _ => 0
theorem own_below' {n : Nat} {w w1 w2 : World} (h : Below n w w1) (hn : n ≤ w1.heap.size) (h2 : Below w1.heap.size w1 w2) : Below n w w2 := h.trans (h2.mono hn)
set_option maxRecDepth 100000 in
set_option maxHeartbeats 8000000 in
theorem rleast_any (v : Value) (d : List Int) (w : World) (h : Rd w v d) (hl : d.length ≤ 40) (hb : ∀ x ∈ d, 0 ≤ x ∧ x < 1099511627776) :
    Calls Try.prog 56 #[v] w fun e w' => e = .returned (.agg (VI .i64 (bts ((VB d).toNat % P)))) ∧ Below w.heap.size w w' := by
  have hV0 : 0 ≤ VB d := VB_nonneg d (fun x hx => (hb x hx).1)
  obtain ⟨c1, c2, c3, _, _⟩ := crd_facts hb
  have hbz : Below w.heap.size w (w.alloc (.cells (VI .i64 (List.replicate 17 0)) 91)) := (Below.refl _ _).alloc (Nat.le_refl _) _
  have hrz : rowI (w.alloc (.cells (VI .i64 (List.replicate 17 0)) 91)) w.heap.size (List.replicate 17 0) 91 := by simp only [rowI, heap_alloc_any, if_true]
  have hsz : (w.alloc (.cells (VI .i64 (List.replicate 17 0)) 91)).heap.size = w.heap.size + 1 := by simp
  obtain ⟨W0, hW0⟩ : ∃ W, w.alloc (.cells (VI .i64 (List.replicate 17 0)) 91) = W := ⟨_, rfl⟩
  have hW0' : w.alloc (.cells #[.int .i64 0, .int .i64 0, .int .i64 0, .int .i64 0, .int .i64 0, .int .i64 0, .int .i64 0, .int .i64 0, .int .i64 0, .int .i64 0, .int .i64 0, .int .i64 0, .int .i64 0, .int .i64 0, .int .i64 0, .int .i64 0, .int .i64 0] 91) = W0 := hW0
  rw [hW0] at hbz hrz hsz
  have hv : ∃ a n c, v = .slice a n c := by obtain ⟨a, c, e, _⟩ := h; exact ⟨a, _, c, e⟩
  have HCAR : Hid (Calls Try.prog 64 #[v] W0 fun e w' => (∃ v', e = .returned v' ∧ Own W0.heap.size w' v' (crd d)) ∧ Below W0.heap.size W0 w') := carried_any v d W0 (h.below hbz) (by omega) hb
  have HC1 : Hid (VB (crd d) = VB d) := c1
  have HC2 : Hid (∀ x ∈ crd d, 0 ≤ x ∧ x < 256) := c2
  have HC3 : Hid ((crd d).length ≤ 50) := by show _ ≤ _; omega
  have HBZ : Hid (Below w.heap.size w W0) := hbz
  have HRZ : Hid (rowI W0 w.heap.size (List.replicate 17 0) 91) := hrz
  have HSZ : Hid (W0.heap.size = w.heap.size + 1) := hsz
  have HV0 : Hid (0 ≤ VB d) := hV0
  clear hbz hrz hsz hW0 c1 c2 c3 h hb hV0
  obtain ⟨a, n, c, rfl⟩ := hv
  go_enter Try.func56, Try.ntmps56
  go_wp2_with (go_at_call 64; refine HCAR.out.mono ?_; rintro e w1 ⟨⟨v1, rfl, hO1⟩, hb1⟩)
  have HO1 : Hid (Own W0.heap.size w1 v1 (crd d)) := hO1
  have HB1 : Hid (Below W0.heap.size W0 w1) := hb1
  clear hO1 hb1 HCAR hW0'
  go_loopw [0, 3] (fun dv ag w' => ∃ (D : List Int) (again : Bool), ag = .bool again ∧ D.length ≤ 50 ∧ (∀ x ∈ D, 0 ≤ x ∧ x < 256) ∧ VB D % 1361129467683753853853498429727072845819 = VB d % 1361129467683753853853498429727072845819 ∧ (again = false → VB D < 1361129467683753853853498429727072845824) ∧ Rd w' dv D ∧ Below W0.heap.size W0 w') (fun dv ag w' => (VB (rdl w' dv)).toNat + bit ag)
  case atStart => exact ⟨crd d, true, rfl, HC3.out, HC2.out, by rw [HC1.out], (fun h => nomatch h), HO1.out.rd, HB1.out⟩
  case round =>
    clear HO1 HB1 HC1 HC2 HC3
    obtain ⟨D, again, rfl, hDl, hDb, hDv, hDa, hrd, hbel⟩ := hrel
    have hD0 := (VB_bd D hDb).1
    have HRD : Hid (Rd wr u0 D) := hrd
    have HBL : Hid (Below W0.heap.size W0 wr) := hbel
    cases again with
    | true =>
      obtain ⟨m1, m2, m3, m4⟩ := fold_math (VB D) hD0
      have HFO : Hid (Calls Try.prog 65 #[u0] wr fun e w' => (∃ v' d', e = .returned (.tuple #[v', .bool (decide (1361129467683753853853498429727072845824 ≤ VB D))]) ∧ Own wr.heap.size w' v' d' ∧ (∀ x ∈ d', 0 ≤ x ∧ x < 256) ∧ VB d' = VB D % 1361129467683753853853498429727072845824 + 5 * (VB D / 1361129467683753853853498429727072845824) ∧ d'.length ≤ max 17 (D.length - 16) + 5) ∧ Below wr.heap.size wr w') := fold_any u0 D wr hrd (by omega) hDb
      have HM : Hid ((VB D % 1361129467683753853853498429727072845824 + 5 * (VB D / 1361129467683753853853498429727072845824)) % 1361129467683753853853498429727072845819 = VB d % 1361129467683753853853498429727072845819) := m1.trans hDv
      have H3 : Hid (∀ x, x = VB D % 1361129467683753853853498429727072845824 + 5 * (VB D / 1361129467683753853853498429727072845824) → (decide (1361129467683753853853498429727072845824 ≤ VB D) = false → x < 1361129467683753853853498429727072845824) ∧ (x.toNat + bit (.bool (decide (1361129467683753853853498429727072845824 ≤ VB D))) < (VB D).toNat + 1)) := fun x hx => by
        by_cases hg : 1361129467683753853853498429727072845824 ≤ VB D
        · have := m3 hg
          simp only [hg, decide_true, bit]
          exact ⟨(fun h => nomatch h), by omega⟩
        · have := m4 hg
          simp only [hg, decide_false, bit]
          exact ⟨fun _ => by omega, by omega⟩
      have HRL : Hid (rdl wr u0 = D) := hrd.rdl
      clear hDv hDa hrd hbel m1 m2 m3 m4 hDb
      generalize decide (1361129467683753853853498429727072845824 ≤ VB D) = ag at *
      go_wp2_with (go_at_call 65; refine HFO.out.mono ?_; rintro e w2 ⟨⟨v2, d2, rfl, hO2, hb2, hv2, hl2⟩, hbw⟩)
      have HO2 : Hid (Own wr.heap.size w2 v2 d2) := hO2
      have HX : Hid ((∀ x ∈ d2, 0 ≤ x ∧ x < 256) ∧ d2.length ≤ 50) := ⟨hb2, by omega⟩
      have HV2 : Hid (VB d2 = VB D % 1361129467683753853853498429727072845824 + 5 * (VB D / 1361129467683753853853498429727072845824)) := hv2
      have HB2 : Hid (Below wr.heap.size wr w2) := hbw
      clear hO2 hb2 hv2 hl2 hbw
      go_roundw
      case rel =>
        have := H3.out _ HV2.out
        exact ⟨d2, ag, rfl, HX.out.2, HX.out.1, by rw [HV2.out]; exact HM.out, this.1, HO2.out.rd, own_below' HBL.out HBL.out.size HB2.out⟩
      case measure =>
        have := (H3.out _ HV2.out).2
        have e1 := HO2.out.rd.rdl
        have e2 := HRL.out
        show (VB (rdl w2 v2)).toNat + bit (.bool ag) < (VB (rdl wr u0)).toNat + bit (.bool true)
        rw [e1, e2]
        exact this
    | false =>
      have hD1 := hDa rfl
      obtain ⟨N, hN⟩ : ∃ N : Nat, (VB D).toNat = N := ⟨_, rfl⟩
      have hN1 : N < 1361129467683753853853498429727072845824 := by omega
      have hNP : N % P = (VB d).toNat % P := by
        have h0 := HV0.out
        unfold P
        omega
      have HNP : Hid (N % P = (VB d).toNat % P) := hNP
      have HN1 : Hid (N < 1361129467683753853853498429727072845824) := hN1
      have HDG : Hid (∀ W i, i < 17 → Below wr.heap.size wr W → Calls Try.prog 66 #[u0, .int .i64 ((i : Nat) : Int)] W fun e w' => e = .returned (.int .i64 ((bts N).getD i 0)) ∧ w' = W) := fun W i hi hW => by
        have := digit_any u0 D i W (hrd.below hW) (by omega)
        rw [VB_bts hDb i hi, hN] at this
        exact this
      have HLT : Hid (W0.heap.size ≤ wr.heap.size) := hbel.size
      have hu0 : ∃ a n c, u0 = .slice a n c := by obtain ⟨a, c, e, _⟩ := hrd; exact ⟨a, _, c, e⟩
      obtain ⟨a9, n9, c9, rfl⟩ := hu0
      clear hDv hDa hrd hbel hDb hD0 hD1 hN hNP hN1 hDl HRD
      go_wp2
      go_loopw [4, 5] (fun hv i w' => ∃ (k : Nat) (hb : Bool), 1 ≤ k ∧ k ≤ 17 ∧ i = .int .i64 (k : Int) ∧ hv = .bool hb ∧ (hb = true ↔ ∀ j, 1 ≤ j → j < k → (bts N).getD j 0 = mm j) ∧ w' = wr) (fun _ i _ => 17 - (intOf i).toNat)
      case atStart => exact ⟨1, true, by decide, by decide, rfl, rfl, ⟨fun _ j h1 h2 => by omega, fun _ => rfl⟩, rfl⟩
      case round =>
        obtain ⟨k, hb, hk1, hk2, rfl, rfl, hiff, rfl⟩ := hrel
        have HIF : Hid (hb = true ↔ ∀ j, 1 ≤ j → j < k → (bts N).getD j 0 = mm j) := hiff
        clear hiff
        by_cases hlt : k < 17
        · have hlt' : (k : Int) < 17 := by omega
          cases hb with
          | true =>
            obtain ⟨x, hx⟩ : ∃ x, (bts N).getD k 0 = x := ⟨_, rfl⟩
            have HC : Hid (Calls Try.prog 66 #[.slice a9 n9 c9, .int .i64 (k : Int)] wr fun e w' => e = .returned (.int .i64 x) ∧ w' = wr) := by
              have := HDG.out wr k hlt (Below.refl _ _)
              rw [hx] at this
              exact this
            have HX : Hid ((bts N).getD k 0 = x) := hx
            clear hx
            have HST : Hid (∀ b : Bool, (b = true ↔ x = mm k) → (b = true ↔ ∀ j, 1 ≤ j → j < k + 1 → (bts N).getD j 0 = mm j)) := fun b hbx => by
              rw [hbx]
              constructor
              · intro e j h1 h2
                by_cases hj : j = k
                · rw [hj, HX.out, e]
                · exact HIF.out.1 rfl j h1 (by omega)
              · intro hall
                rw [← HX.out]; exact hall k hk1 (by omega)
            by_cases h16 : k = 16
            · subst h16
              by_cases hx3 : x = 3
              · subst hx3
                rw [show ((16 : Nat) : Int) = 16 from rfl] at *
                go_wp2_with (go_at_call 66; refine HC.out.mono ?_; rintro e w2 ⟨rfl, rfl⟩)
                go_roundw
                case rel => exact ⟨17, true, by decide, by decide, rfl, rfl, HST.out true (by decide), by first | trivial | rfl⟩
                case measure => simp [intOf]
              · rw [show ((16 : Nat) : Int) = 16 from rfl] at *
                go_wp2_with (go_at_call 66; refine HC.out.mono ?_; rintro e w2 ⟨rfl, rfl⟩)
                go_roundw
                case rel => exact ⟨17, false, by decide, by decide, rfl, by simp [hx3], HST.out false ⟨(fun h => nomatch h), fun h => absurd h hx3⟩, by first | trivial | rfl⟩
                case measure => simp [intOf]
            · have h16' : ¬ (k : Int) = 16 := by omega
              have hmk : mm k = 255 := by rw [mm, if_neg h16]
              have HMK : Hid (mm k = 255) := hmk
              clear hmk
              by_cases hx3 : x = 255
              · subst hx3
                go_wp2_with (go_at_call 66; refine HC.out.mono ?_; rintro e w2 ⟨rfl, rfl⟩)
                go_roundw
                case rel => exact ⟨k + 1, true, by omega, by omega, by go_num, rfl, HST.out true (by rw [HMK.out]; exact ⟨fun _ => rfl, fun _ => rfl⟩), by first | trivial | rfl⟩
                case measure => simp [intOf]; omega
              · go_wp2_with (go_at_call 66; refine HC.out.mono ?_; rintro e w2 ⟨rfl, rfl⟩)
                go_roundw
                case rel => exact ⟨k + 1, false, by omega, by omega, by go_num, by simp [hx3], HST.out false (by rw [HMK.out]; exact ⟨(fun h => nomatch h), fun h => absurd h hx3⟩), by first | trivial | rfl⟩
                case measure => simp [intOf]; omega
          | false =>
            have HST : Hid ((false = true) ↔ ∀ j, 1 ≤ j → j < k + 1 → (bts N).getD j 0 = mm j) := ⟨(fun h => nomatch h), fun hall => HIF.out.2 (fun j h1 h2 => hall j h1 (by omega))⟩
            by_cases h16 : k = 16
            · subst h16
              rw [show ((16 : Nat) : Int) = 16 from rfl] at *
              go_wp2_with (fail)
              go_roundw
              case rel => exact ⟨17, false, by decide, by decide, rfl, rfl, HST.out, by first | trivial | rfl⟩
              case measure => simp [intOf]
            · have h16' : ¬ (k : Int) = 16 := by omega
              go_wp2_with (fail)
              go_roundw
              case rel => exact ⟨k + 1, false, by omega, by omega, by go_num, rfl, HST.out, by first | trivial | rfl⟩
              case measure => simp [intOf]; omega
        · have hk' : k = 17 := by omega
          subst hk'
          obtain ⟨hm1, hm2, hm3⟩ := high_math HN1.out HIF.out
          rw [HNP.out] at hm1 hm2 hm3
          have H1 : Hid (hb = true → 251 ≤ (bts N).getD 0 0 → (VB d).toNat % P = N - P ∧ bts (N - P) = (List.replicate 17 (0 : Int)).set 0 ((bts N).getD 0 0 - 251)) := hm1
          have H2 : Hid (hb = false → (VB d).toNat % P = N) := hm2
          have H3 : Hid (hb = true → ¬ 251 ≤ (bts N).getD 0 0 → (VB d).toNat % P = N) := hm3
          clear hm1 hm2 hm3 HIF hlt hk1 hk2
          obtain ⟨V9, hV9⟩ : ∃ V, V = wr := ⟨_, rfl⟩
          subst hV9
          obtain ⟨G, hG⟩ : ∃ G, V9.heap.size = G := ⟨_, rfl⟩
          have hrG : rowI (V9.alloc (.cells (VI .i64 (List.replicate 17 0)) 91)) G (List.replicate 17 0) 91 := by simp only [rowI, heap_alloc_any, hG, if_true]
          have hbG : Below V9.heap.size V9 (V9.alloc (.cells (VI .i64 (List.replicate 17 0)) 91)) := (Below.refl _ _).alloc (Nat.le_refl _) _
          obtain ⟨W4, hW4⟩ : ∃ W, V9.alloc (.cells (VI .i64 (List.replicate 17 0)) 91) = W := ⟨_, rfl⟩
          have hW4' : V9.alloc (.cells #[.int .i64 0, .int .i64 0, .int .i64 0, .int .i64 0, .int .i64 0, .int .i64 0, .int .i64 0, .int .i64 0, .int .i64 0, .int .i64 0, .int .i64 0, .int .i64 0, .int .i64 0, .int .i64 0, .int .i64 0, .int .i64 0, .int .i64 0] 91) = W4 := hW4
          rw [hW4] at hrG hbG
          have HRG : Hid (rowI W4 G (List.replicate 17 0) 91) := hrG
          have HBG : Hid (Below V9.heap.size V9 W4) := hbG
          clear hrG hbG hW4
          rw [show ((17 : Nat) : Int) = 17 from rfl]
          go_wp2
          go_loopw [8] (fun i w' => ∃ k : Nat, k ≤ 17 ∧ i = .int .i64 k ∧ rowI w' G ((bts N).take k ++ (List.replicate 17 (0 : Int)).drop k) 91 ∧ Below V9.heap.size V9 w') (fun i _ => 17 - (intOf i).toNat)
          case atStart => exact ⟨0, Nat.zero_le _, rfl, HRG.out, HBG.out⟩
          case round =>
            clear HRG HBG hW4'
            obtain ⟨k, hk, rfl, hrow, hbel⟩ := hrel
            have HBL2 : Hid (Below V9.heap.size V9 wr) := hbel
            have hG' : V9.heap.size ≤ G := by omega
            by_cases hlt : k < 17
            · have hlt' : (k : Int) < 17 := by omega
              have hcell := rowI_cell hrow (i := k) (by simp; omega)
              have hfz : wr.frozen? ⟨G, k, none⟩ = false := frozen_of_row wr _ _ _ _ hrow
              have hst := rowI_set hrow k ((bts N)[k]'(by simpa using hlt))
              rw [set_step _ _ _ (by simpa using hlt) (by simpa using hlt)] at hst
              have hge : (bts N).getD k 0 = (bts N)[k]'(by simpa using hlt) := by rw [List.getD_eq_getElem?_getD, List.getElem?_eq_getElem (by simpa using hlt)]; rfl
              have HC : Hid (Calls Try.prog 66 #[.slice a9 n9 c9, .int .i64 (k : Int)] wr fun e w' => e = .returned (.int .i64 ((bts N)[k]'(by simpa using hlt))) ∧ w' = wr) := by
                have := HDG.out wr k hlt hbel
                rw [hge] at this
                exact this
              have HST : Hid (rowI (wr.setCell ⟨G, k, none⟩ (.int .i64 ((bts N)[k]'(by simpa using hlt)))) G ((bts N).take (k + 1) ++ (List.replicate 17 (0 : Int)).drop (k + 1)) 91) := hst
              clear hrow hbel hst hge
              generalize (bts N)[k]'(by simpa using hlt) = x at *
              generalize List.getD _ k 0 = z at hcell
              go_wp2_with (go_at_call 66; refine HC.out.mono ?_; rintro e w2 ⟨rfl, rfl⟩)
              go_roundw
              case rel => exact ⟨k + 1, by omega, by go_num, HST.out, HBL2.out.setCell hG' _⟩
              case measure => simp [intOf]; omega
            · have hk' : k = 17 := by omega
              subst hk'
              rw [List.take_of_length_le (by simp), List.drop_of_length_le (by simp), List.append_nil] at hrow
              have hbw : Below W0.heap.size W0 wr := HBL.out.trans (hbel.mono HLT.out)
              have hres : rowI wr w.heap.size (List.replicate 17 0) 91 := (hbw.block _ (by rw [HSZ.out]; omega)).trans HRZ.out
              have hwn : Below w.heap.size w wr := HBZ.out.trans (hbw.mono (by rw [HSZ.out]; omega))
              have hGn : w.heap.size < G := by have := HLT.out; have := HSZ.out; omega
              have hcell := rowI_cell hrow (i := 0) (by simp)
              have hfz : wr.frozen? ⟨G, 0, none⟩ = false := frozen_of_row wr _ _ _ _ hrow
              have hby := byte_at (bts_bd N) 0
              have HROW : Hid (rowI wr G (bts N) 91) := hrow
              have HRES : Hid (rowI wr w.heap.size (List.replicate 17 0) 91) := hres
              have HWN : Hid (Below w.heap.size w wr) := hwn
              have HJ : Hid ((Try.prog.info? 91).map (·.size) = some (VI .i64 (bts N)).size) := by rw [VI_size, bts_len]; exact infoNum
              obtain ⟨x, hx⟩ : ∃ x, (bts N).getD 0 0 = x := ⟨_, rfl⟩
              rw [hx] at hcell hby H1 H3
              obtain ⟨x0, x1⟩ := hby
              clear hrow hbel hbw hres hwn hlt hk hx
              rw [show ((17 : Nat) : Int) = 17 from rfl]
              cases hb with
              | false =>
                have hfin := H2.out rfl
                have HFIN : Hid ((VB d).toNat % P = N) := hfin
                clear hfin
                go_wp2_with (with_reducible refine at_list ?_; first | (refine wpList_load_row rfl 91 (.tmp 7) rfl G rfl 91 (VI .i64 (bts N)) (0, 0) _ HROW.out Try.underlying91 rfl HJ.out ?_) | (refine wpList_store_row rfl 91 (.tmp 2) (.tmp 53) rfl w.heap.size (VI .i64 (bts N)) rfl rfl 91 (VI .i64 (List.replicate 17 0)) HRES.out HJ.out (by simp) (VI_one _ _) ?_))
                refine bodyPost_ret (v := .agg (VI .i64 (bts N))) ?_ rfl ⟨by rw [HFIN.out], below_setRow HWN.out _ (Nat.le_refl _) _⟩
                exact results_cell_row (P := Try.prog) (fn := Try.f56) (p := 2) (ty := 91) rfl _ _ w.heap.size 91 (VI .i64 (bts N)) (0, 0) _ rfl (setRow_heap wr _ _ _ 91 _ HRES.out) Try.underlying91 rfl HJ.out
              | true =>
                by_cases h251 : 251 ≤ x
                · obtain ⟨hf1, hf2⟩ := H1.out rfl h251
                  have HF1 : Hid ((VB d).toNat % P = N - P) := hf1
                  have HF2 : Hid (bts (N - P) = (List.replicate 17 (0 : Int)).set 0 (x - 251)) := hf2
                  have hr5 : rowI (wr.setRow G (VI .i64 (List.replicate 17 0))) G (List.replicate 17 0) 91 := setRow_heap wr _ _ _ 91 _ HROW.out
                  have hr6 : rowI (wr.setRow G (VI .i64 (List.replicate 17 0))) w.heap.size (List.replicate 17 0) 91 := (setRow_other wr G w.heap.size _ (by omega)).trans HRES.out
                  have hb5 : Below w.heap.size w (wr.setRow G (VI .i64 (List.replicate 17 0))) := below_setRow HWN.out _ (by omega) _
                  obtain ⟨W5, hW5⟩ : ∃ W, wr.setRow G (VI .i64 (List.replicate 17 0)) = W := ⟨_, rfl⟩
                  rw [hW5] at hr5 hr6 hb5
                  have hc5 := rowI_cell hr5 (i := 0) (by simp)
                  have hf5 : W5.frozen? ⟨G, 0, none⟩ = false := frozen_of_row W5 _ _ _ _ hr5
                  have HR7 : Hid (rowI (W5.setCell ⟨G, 0, none⟩ (.int .i64 (x - 251))) G ((List.replicate 17 (0 : Int)).set 0 (x - 251)) 91) := rowI_set hr5 0 _
                  have HR8 : Hid (rowI (W5.setCell ⟨G, 0, none⟩ (.int .i64 (x - 251))) w.heap.size (List.replicate 17 0) 91) := row_other hr6 (by simp; omega) _
                  have HB8 : Hid (Below w.heap.size w (W5.setCell ⟨G, 0, none⟩ (.int .i64 (x - 251)))) := hb5.setCell (by simp; omega) _
                  have HJ2 : Hid ((Try.prog.info? 91).map (·.size) = some (VI .i64 ((List.replicate 17 (0 : Int)).set 0 (x - 251))).size) := infoNum
                  have HJ3 : Hid ((Try.prog.info? 91).map (·.size) = some (VI .i64 (List.replicate 17 (0 : Int))).size) := infoNum
                  clear hf1 hf2 hr5 hr6 hb5
                  go_wp2_with (with_reducible refine at_list ?_; first | (refine wpList_store_row rfl 91 (.tmp 7) (.tmp 50) rfl G (VI .i64 (List.replicate 17 0)) rfl rfl 91 (VI .i64 (bts N)) HROW.out HJ3.out (by simp) (VI_one _ _) ?_; rw [hW5]) | (refine wpList_load_row rfl 91 (.tmp 7) rfl G rfl 91 (VI .i64 ((List.replicate 17 (0 : Int)).set 0 (x - 251))) (0, 0) _ HR7.out Try.underlying91 rfl HJ2.out ?_) | (refine wpList_store_row rfl 91 (.tmp 2) (.tmp 53) rfl w.heap.size (VI .i64 ((List.replicate 17 (0 : Int)).set 0 (x - 251))) rfl rfl 91 (VI .i64 (List.replicate 17 0)) HR8.out HJ2.out (by simp) (VI_one _ _) ?_))
                  refine bodyPost_ret (v := .agg (VI .i64 ((List.replicate 17 (0 : Int)).set 0 (x - 251)))) ?_ rfl ⟨by rw [HF1.out, HF2.out], below_setRow HB8.out _ (Nat.le_refl _) _⟩
                  exact results_cell_row (P := Try.prog) (fn := Try.f56) (p := 2) (ty := 91) rfl _ _ w.heap.size 91 (VI .i64 ((List.replicate 17 (0 : Int)).set 0 (x - 251))) (0, 0) _ rfl (setRow_heap _ _ _ _ 91 _ HR8.out) Try.underlying91 rfl HJ2.out
                · have hfin := H3.out rfl (by omega)
                  have HFIN : Hid ((VB d).toNat % P = N) := hfin
                  clear hfin
                  go_wp2_with (with_reducible refine at_list ?_; first | (refine wpList_load_row rfl 91 (.tmp 7) rfl G rfl 91 (VI .i64 (bts N)) (0, 0) _ HROW.out Try.underlying91 rfl HJ.out ?_) | (refine wpList_store_row rfl 91 (.tmp 2) (.tmp 53) rfl w.heap.size (VI .i64 (bts N)) rfl rfl 91 (VI .i64 (List.replicate 17 0)) HRES.out HJ.out (by simp) (VI_one _ _) ?_))
                  refine bodyPost_ret (v := .agg (VI .i64 (bts N))) ?_ rfl ⟨by rw [HFIN.out], below_setRow HWN.out _ (Nat.le_refl _) _⟩
                  exact results_cell_row (P := Try.prog) (fn := Try.f56) (p := 2) (ty := 91) rfl _ _ w.heap.size 91 (VI .i64 (bts N)) (0, 0) _ rfl (setRow_heap wr _ _ _ 91 _ HRES.out) Try.underlying91 rfl HJ.out
end Go.Proofs.Ytgfamcadgahiiaa
