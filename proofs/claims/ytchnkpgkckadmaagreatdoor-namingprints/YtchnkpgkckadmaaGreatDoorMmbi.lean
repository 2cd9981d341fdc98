import Derived.OwnWalk
import Derived.Test.YtchnkpgkckadmaaGreatDoorMmaa
import Derived.Test.YtchnkpgkckadmaaGreatDoorMmac
import Derived.Test.YtchnkpgkckadmaaGreatDoorMmbg
import Derived.Test.YtchnkpgkckadmaaGreatDoorMmaw
import Derived.Test.YtchnkpgkckadmaaGreatDoorMmba
import Derived.Test.YtchnkpgkckadmaaGreatDoorMmal
import Derived.Test.YtchnkpgkckadmaaGreatDoorMmak
import Derived.Test.YtchnkpgkckadmaaGreatDoorMmag
import Derived.Test.YtchnkpgkckadmaaGreatDoorMmav
import Derived.Test.YtchnkpgkckadmaaGreatDoorMmaf
/- the table's rows az texts, and that they say the table -/
namespace Go.Pat
def rowsT : List ByteArray := [
  ⟨#[73, 49, 75, 124, 124, 115, 124, 101, 32, 101, 115, 32, 115, 59, 101, 32, 101, 101, 59, 115, 101]⟩,
  ⟨#[73, 49, 75, 49, 124, 124, 115, 124, 101, 32, 115, 59, 101, 32, 101, 101, 32, 101, 115, 59, 115, 101]⟩,
  ⟨#[73, 49, 78, 124, 124, 124, 101, 32, 115, 59, 101, 32, 101, 101, 59, 115, 101]⟩,
  ⟨#[73, 49, 88, 124, 124, 124, 101, 32, 115, 59, 101, 32, 101, 101, 32, 115, 32, 101, 115, 59, 115, 101]⟩,
  ⟨#[73, 49, 88, 49, 124, 124, 124, 101, 32, 115, 59, 101, 32, 101, 101, 32, 115, 59, 115, 101, 32, 101, 115]⟩,
  ⟨#[73, 75, 124, 124, 115, 124, 101, 32, 101, 115, 32, 115, 32, 115, 115, 59, 101, 32, 101, 101, 32, 115, 101]⟩,
  ⟨#[73, 75, 49, 124, 124, 115, 124, 101, 32, 115, 59, 101, 32, 101, 101, 32, 115, 101, 32, 101, 115]⟩,
  ⟨#[73, 78, 124, 124, 124, 101, 32, 115, 59, 101, 32, 101, 101, 32, 115, 101]⟩,
  ⟨#[73, 88, 124, 124, 124, 101, 32, 115, 59, 101, 32, 101, 101, 32, 115, 101, 32, 115, 32, 101, 115]⟩,
  ⟨#[73, 88, 49, 124, 124, 124, 101, 32, 115, 59, 101, 32, 101, 101, 32, 115, 101, 32, 115, 59, 101, 115]⟩,
  ⟨#[75, 124, 115, 124, 115, 124, 101, 32, 101, 115, 32, 115, 115]⟩,
  ⟨#[75, 49, 75, 124, 115, 124, 115, 124, 101, 32, 101, 115, 59, 101, 32, 101, 101, 59, 115, 101]⟩,
  ⟨#[75, 49, 75, 49, 124, 115, 124, 115, 124, 101, 59, 101, 32, 101, 101, 32, 101, 115, 59, 115, 101]⟩,
  ⟨#[75, 49, 78, 124, 115, 124, 124, 101, 59, 101, 32, 101, 101, 59, 115, 101]⟩,
  ⟨#[75, 49, 88, 124, 115, 124, 124, 101, 59, 101, 32, 101, 101, 32, 115, 32, 101, 115, 59, 115, 101]⟩,
  ⟨#[75, 49, 88, 49, 124, 115, 124, 124, 101, 59, 101, 32, 101, 101, 32, 115, 59, 115, 101, 32, 101, 115]⟩,
  ⟨#[75, 75, 124, 115, 124, 115, 124, 101, 32, 101, 115, 32, 115, 115, 59, 101, 32, 101, 101, 32, 115, 101]⟩,
  ⟨#[75, 75, 49, 124, 115, 124, 115, 124, 101, 59, 101, 32, 101, 101, 32, 115, 101, 32, 101, 115]⟩,
  ⟨#[75, 78, 124, 115, 124, 124, 101, 59, 101, 32, 101, 101, 32, 115, 101]⟩,
  ⟨#[75, 88, 124, 115, 124, 124, 101, 59, 101, 32, 101, 101, 32, 115, 101, 32, 115, 32, 101, 115]⟩,
  ⟨#[75, 88, 49, 124, 115, 124, 124, 101, 59, 101, 32, 101, 101, 32, 115, 101, 32, 115, 59, 101, 115]⟩,
  ⟨#[78, 124, 124, 115, 124, 101, 32, 101, 115]⟩,
  ⟨#[78, 75, 124, 124, 115, 124, 101, 32, 101, 115, 59, 101, 32, 101, 101]⟩,
  ⟨#[78, 75, 49, 124, 124, 115, 124, 101, 59, 101, 32, 101, 101, 32, 101, 115]⟩,
  ⟨#[78, 78, 124, 124, 124, 101, 59, 101, 32, 101, 101]⟩,
  ⟨#[78, 88, 124, 124, 124, 101, 59, 101, 32, 101, 101, 32, 115, 32, 101, 115]⟩,
  ⟨#[78, 88, 49, 124, 124, 124, 101, 59, 101, 32, 101, 101, 32, 115, 59, 101, 115]⟩,
  ⟨#[88, 124, 124, 115, 124, 101, 32, 101, 115, 32, 115, 32, 115, 115]⟩,
  ⟨#[88, 49, 75, 124, 124, 115, 124, 101, 32, 101, 115, 59, 101, 32, 101, 101, 59, 115, 59, 115, 101]⟩,
  ⟨#[88, 49, 75, 49, 124, 124, 115, 124, 101, 59, 101, 32, 101, 101, 32, 101, 115, 59, 115, 59, 115, 101]⟩,
  ⟨#[88, 49, 78, 124, 124, 124, 101, 59, 101, 32, 101, 101, 59, 115, 59, 115, 101]⟩,
  ⟨#[88, 49, 88, 124, 124, 124, 101, 59, 101, 32, 101, 101, 32, 115, 32, 101, 115, 59, 115, 59, 115, 101]⟩,
  ⟨#[88, 49, 88, 49, 124, 124, 124, 101, 59, 101, 32, 101, 101, 32, 115, 59, 101, 115, 32, 115, 59, 115, 101]⟩,
  ⟨#[88, 75, 124, 124, 115, 124, 101, 32, 101, 115, 59, 101, 32, 101, 101, 59, 115, 32, 115, 101]⟩,
  ⟨#[88, 75, 49, 124, 124, 115, 124, 101, 59, 101, 32, 101, 101, 32, 101, 115, 59, 115, 32, 115, 101]⟩,
  ⟨#[88, 78, 124, 124, 124, 101, 59, 101, 32, 101, 101, 59, 115, 32, 115, 101]⟩,
  ⟨#[88, 88, 124, 124, 124, 101, 59, 101, 32, 101, 101, 32, 115, 32, 101, 115, 59, 115, 32, 115, 101]⟩,
  ⟨#[88, 88, 49, 124, 124, 124, 101, 59, 101, 32, 101, 101, 32, 115, 59, 101, 115, 32, 115, 32, 115, 101]⟩]
def lnsOf (L : List ByteArray) (k : Nat) : List Ln := (List.range k).map fun j => (((j % 2 : Nat) : Int), toks (L.getD j ⟨#[]⟩))
def mkRow (s : ByteArray) : Pt := ⟨(spl s 124).getD 0 ⟨#[]⟩, toks ((spl s 124).getD 1 ⟨#[]⟩), toks ((spl s 124).getD 2 ⟨#[]⟩), lnsOf (spl ((spl s 124).getD 3 ⟨#[]⟩) 59) (spl ((spl s 124).getD 3 ⟨#[]⟩) 59).length⟩
theorem rows_four : rowsT.all (fun s => decide (s.size ≤ 60) && decide ((spl s 124).length = 4)) = true := by decide +kernel
def ptB (p q : Pt) : Bool := decide (p.nm = q.nm) && decide (p.b0 = q.b0) && decide (p.b1 = q.b1) && decide (p.ln = q.ln)
theorem pt_ext {p q : Pt} (h : ptB p q = true) : p = q := by
  obtain ⟨a, b, c, d⟩ := p
  obtain ⟨a', b', c', d'⟩ := q
  simp only [ptB, Bool.and_eq_true, decide_eq_true_eq] at h
  obtain ⟨⟨⟨rfl, rfl⟩, rfl⟩, rfl⟩ := h
  rfl
theorem rows_len : rowsT.length = 38 := rfl
theorem rows_tabB : ((List.range 38).all fun i => ptB (mkRow (rowsT.getD i ⟨#[]⟩)) (tab.getD i ⟨⟨#[]⟩, [], [], []⟩)) = true := by decide +kernel
theorem rows_tab {i : Nat} (h : i < 38) : mkRow (rowsT.getD i ⟨#[]⟩) = tab.getD i ⟨⟨#[]⟩, [], [], []⟩ :=
  pt_ext (List.all_eq_true.1 rows_tabB i (List.mem_range.2 h))
theorem rows_ok {i : Nat} (h : i < 38) : (rowsT.getD i ⟨#[]⟩).size ≤ 60 ∧ (spl (rowsT.getD i ⟨#[]⟩) 124).length = 4 := by
  have := List.all_eq_true.1 rows_four (rowsT.getD i ⟨#[]⟩) (by have : i < rowsT.length := h; simp [List.getD, this])
  simpa using this
end Go.Pat
namespace Go.Proofs.YtchnkpgkckadmaaGreatDoor
set_option linter.unusedSimpArgs false
set_option linter.unusedVariables false
open Go.ChangeShapes Go.WideShapes Go.ChangeAt Go.RowKit Go.Pin Go.Pat
theorem rds_alloc (W : World) (L : List ByteArray) : RdS (W.alloc (.cells (L.map Value.string).toArray 9)) (.slice (some ⟨W.heap.size, 0, none⟩) L.length L.length) L := by
  refine ⟨_, _, rfl, fun j hj => ⟨W.heap.size, 0, rfl, ?_⟩⟩
  rw [Nat.zero_add, cell_of_row _ _ _ _ _ _ (heap_alloc_new _ _)]
  simp [List.getD, hj]
set_option maxRecDepth 100000 in
set_option maxHeartbeats 4000000 in
theorem rowsOf_any (W : World) :
    Calls Tryz.prog 58 #[] W fun e w' => e = .returned (.slice (some ⟨W.heap.size, 0, none⟩) 38 38) ∧ RdS w' (.slice (some ⟨W.heap.size, 0, none⟩) 38 38) rowsT ∧ Below W.heap.size W w' := by
  have h := rds_alloc W rowsT
  have HR : Hid _ := h
  have HB : Hid _ := (Below.refl W.heap.size W).alloc (Nat.le_refl _) (.cells (rowsT.map Value.string).toArray 9)
  clear h
  go_enter Tryz.func58, Tryz.ntmps58
  go_wp2
  go_ret
  exact ⟨rfl, HR.out, HB.out⟩
theorem toks_len (x : ByteArray) (hx : x.size ≤ 100) : (toks x).length ≤ 1000 := by
  have := tkL_len (spl x 32) (spl x 32).length
  have h2 := (splN_le x 32 (x.size + 1)).2
  have h3 : (spl x 32).length = (splN x 32 (x.size + 1)).1.length := rfl
  unfold toks
  split
  · simp
  · unfold tkL at this; rw [List.take_length] at this; omega
set_option maxRecDepth 100000 in
set_option maxHeartbeats 4000000 in
theorem all_any (W : World) :
    Calls Tryz.prog 34 #[] W fun e w' => ∃ v, e = .returned v ∧ RdQ W.heap.size w' v tab ∧ Below W.heap.size W w' := by
  have CR := rowsOf_any W
  obtain ⟨q, hq⟩ : ∃ q, W.heap.size = q := ⟨_, rfl⟩
  rw [hq] at CR
  rw [hq]
  go_enter Tryz.func34, Tryz.ntmps34
  go_wp2_with (go_at_call 58; refine CR.mono ?_; rintro e w1 ⟨rfl, hr, hb⟩; have HRD : Hid (RdS w1 (.slice (some ⟨q, 0, none⟩) 38 38) rowsT) := hr; have HB : Hid (Below q W w1) := hb; clear hr hb CR)
  have hqs := qs_start w1
  have hq1 : q ≤ w1.heap.size := by have := HB.out.size; omega
  obtain ⟨q1, hqq⟩ : ∃ q1, w1.heap.size = q1 := ⟨_, rfl⟩
  rw [hqq] at hqs hq1
  have HQ0 : Hid (QS q1 w1 (.slice none 0 0) [] w1) := hqs
  clear hqs
  go_loopw [1, 3] (fun v1 v3 wr => ∃ i : Nat, i ≤ 38 ∧ v3 = .int .i64 i ∧ ∃ ps : List Pv, ps.map Pv.p = tab.take i ∧ QS q1 w1 v1 ps wr) (fun _ v _ => 38 - (intOf v).toNat)
  case atStart => exact ⟨0, Nat.zero_le _, rfl, [], rfl, HQ0.out⟩
  case round =>
    obtain ⟨i, hi, rfl, ps, hps, hQ⟩ := hrel
    have HQ : Hid (QS q1 w1 u1 ps wr) := hQ
    have HPS : Hid (ps.map Pv.p = tab.take i) := hps
    by_cases hlt : i < 38
    · have b1 : (i : Int) < 38 := by omega
      obtain ⟨-, g, o, hgo, hc⟩ := HRD.out.at hlt
      injection hgo with hgo
      injection hgo with hgo hoo
      subst hgo hoo
      rw [hqq] at hc
      have c := hc wr hQ.old
      rw [Nat.zero_add] at c
      obtain ⟨hz, h4⟩ := rows_ok hlt
      have hmk := rows_tab hlt
      unfold mkRow at hmk
      obtain ⟨s, hs⟩ : ∃ s, rowsT.getD i ⟨#[]⟩ = s := ⟨_, rfl⟩
      rw [hs] at c hz h4 hmk
      have CS := split_any s 124 wr (by omega)
      have hmem := splN_mem s 124 (s.size + 1)
      have hsp : (splN s 124 (s.size + 1)).1 = spl s 124 := rfl
      rw [hsp] at hmem
      rw [h4] at CS
      obtain ⟨X, hX⟩ : ∃ X, spl s 124 = X := ⟨_, rfl⟩
      rw [hX] at CS hmk h4 hmem
      have HMK : Hid _ := hmk
      have HX : Hid (X.length = 4 ∧ (∀ x ∈ X, x.size ≤ 61)) := ⟨h4, fun x hx => by have := hmem x hx; omega⟩
      obtain ⟨qr, hqr⟩ : ∃ qr, wr.heap.size = qr := ⟨_, rfl⟩
      rw [hqr] at CS
      have HQR : Hid (wr.heap.size = qr) := hqr
      clear hQ hps hc hs hmk h4 hmem hsp hX
      go_upto_region 7 with (go_at_call 59; refine CS.mono ?_; rintro e w2 ⟨vx, rfl, hox, hbx⟩; obtain ⟨ax, capx, rfl⟩ := own_slice' hox; have HXR : Hid (RdS w2 (.slice ax 4 capx) X) := own_strs (by rw [HX.out.1]; exact hox); have HBX : Hid (Below qr wr w2) := hbx; clear hox hbx CS c)
      obtain ⟨-, gx, ox, rfl, hc0⟩ := HXR.out.at (j := 0) (by omega)
      obtain ⟨-, gx', ox', e', hc1⟩ := HXR.out.at (j := 1) (by omega)
      injection e' with e'
      injection e' with e1 e2
      subst e1 e2
      obtain ⟨-, gx', ox', e', hc2⟩ := HXR.out.at (j := 2) (by omega)
      injection e' with e'
      injection e' with e1 e2
      subst e1 e2
      obtain ⟨-, gx', ox', e', hc3⟩ := HXR.out.at (j := 3) (by omega)
      injection e' with e'
      injection e' with e1 e2
      subst e1 e2
      have hX0 : ∀ j, j < 4 → (X.getD j ⟨#[]⟩).size ≤ 61 := fun j hj => HX.out.2 _ (by have := HX.out.1; simp [List.getD, show j < X.length by omega])
      have z0 := hX0 0 (by omega)
      have z1 := hX0 1 (by omega)
      have z2 := hX0 2 (by omega)
      have z3 := hX0 3 (by omega)
      generalize X.getD 0 ⟨#[]⟩ = x0 at *
      generalize X.getD 1 ⟨#[]⟩ = x1 at *
      generalize X.getD 2 ⟨#[]⟩ = x2 at *
      generalize X.getD 3 ⟨#[]⟩ = x3 at *
      have HC : Hid _ := And.intro hc0 (And.intro hc1 (And.intro hc2 hc3))
      have c0 := hc0 _ (Below.refl _ _)
      rw [Nat.add_zero] at c0
      clear hc0 hc1 hc2 hc3 hX0 HXR
      go_upto_region 8 with fail
      have hps0 := ps_start w2 x0
      obtain ⟨gp, hgp⟩ : ∃ gp, w2.heap.size = gp := ⟨_, rfl⟩
      obtain ⟨W3, hW3⟩ : ∃ W3, w2.alloc (.cells #[.string x0, .slice none 0 0, .slice none 0 0, .slice none 0 0] 26) = W3 := ⟨_, rfl⟩
      simp only [hgp, hW3] at hps0 HC ⊢
      have HGP : Hid (w2.heap.size = gp) := hgp
      have HP3 : Hid (PS gp w2 x0 (.slice none 0 0) (.slice none 0 0) (.slice none 0 0) [] [] [] W3) := hps0
      have c1 := HC.out.2.1 W3 hps0.old
      have CT1 := tokens_any x1 W3 (by omega)
      have hT1 := toks_len x1 (by omega)
      obtain ⟨q3, hq3⟩ : ∃ q3, W3.heap.size = q3 := ⟨_, rfl⟩
      rw [hq3] at CT1
      have HQ3 : Hid (W3.heap.size = q3) := hq3
      clear hps0 hW3 c0 hgp hq3
      go_upto_region 9 with (go_at_call 60; refine CT1.mono ?_; rintro e w4 ⟨va, rfl, hoa, hba⟩; obtain ⟨aa, ca, rfl⟩ := own_slice' hoa; have HP4 : Hid (PS gp w2 x0 (.slice none 0 0) (.slice none 0 0) (.slice none 0 0) [] [] [] w4) := HP3.out.below (by rw [HQ3.out]; exact hba); have HFA : Hid (FtN (Fr gp (.slice none 0 0) w4) w4 (.slice aa (toks x1).length ca) (toks x1)) := HP3.out.new hba.size (Nat.le_of_eq HQ3.out) (own_ft hoa rfl (by omega)); have f4 := HP4.out.fz 1; have k4 := HP4.out.c1; clear hoa hba CT1 c1)
      have hp5 := HP4.out.set1 HFA.out
      obtain ⟨W5, hW5⟩ : ∃ W5, w4.setCell ⟨gp, 1, none⟩ (.slice aa (toks x1).length ca) = W5 := ⟨_, rfl⟩
      rw [hW5] at hp5
      simp only [hW5]
      have HP5 : Hid (PS gp w2 x0 (.slice aa (toks x1).length ca) (.slice none 0 0) (.slice none 0 0) (toks x1) [] [] W5) := hp5
      have c2 := HC.out.2.2.1 W5 hp5.old
      have CT2 := tokens_any x2 W5 (by omega)
      have hT2 := toks_len x2 (by omega)
      obtain ⟨q5, hq5⟩ : ∃ q5, W5.heap.size = q5 := ⟨_, rfl⟩
      rw [hq5] at CT2
      have HQ5 : Hid (W5.heap.size = q5) := hq5
      clear hp5 hW5 hq5 HP3 HP4 HFA f4 k4 hT1
      go_upto_region 10 with (go_at_call 60; refine CT2.mono ?_; rintro e w6 ⟨vb, rfl, hoa, hba⟩; obtain ⟨ab, cb, rfl⟩ := own_slice' hoa; have HP6 : Hid (PS gp w2 x0 (.slice aa (toks x1).length ca) (.slice none 0 0) (.slice none 0 0) (toks x1) [] [] w6) := HP5.out.below (by rw [HQ5.out]; exact hba); have HFB : Hid (FtN (Fr gp (.slice none 0 0) w6) w6 (.slice ab (toks x2).length cb) (toks x2)) := HP5.out.new hba.size (Nat.le_of_eq HQ5.out) (own_ft hoa rfl (by omega)); have f6 := HP6.out.fz 2; have k6 := HP6.out.c2; clear hoa hba CT2 c2)
      have hp7 := HP6.out.set2 HFB.out
      obtain ⟨W7, hW7⟩ : ∃ W7, w6.setCell ⟨gp, 2, none⟩ (.slice ab (toks x2).length cb) = W7 := ⟨_, rfl⟩
      rw [hW7] at hp7
      simp only [hW7]
      have HP7 : Hid (PS gp w2 x0 (.slice aa (toks x1).length ca) (.slice ab (toks x2).length cb) (.slice none 0 0) (toks x1) (toks x2) [] W7) := hp7
      have c3 := HC.out.2.2.2 W7 hp7.old
      have CS3 := split_any x3 59 W7 (by omega)
      have hs3 := (splN_le x3 59 (x3.size + 1)).2
      have hm3 := splN_mem x3 59 (x3.size + 1)
      have hsp3 : (splN x3 59 (x3.size + 1)).1 = spl x3 59 := rfl
      rw [hsp3] at hs3 hm3
      obtain ⟨M, hM⟩ : ∃ M, spl x3 59 = M := ⟨_, rfl⟩
      obtain ⟨n, hn⟩ : ∃ n, M.length = n := ⟨_, rfl⟩
      obtain ⟨q7, hq7⟩ : ∃ q7, W7.heap.size = q7 := ⟨_, rfl⟩
      rw [hM] at CS3 hs3 hm3 HMK
      rw [hn] at CS3 hs3 HMK
      rw [hq7] at CS3
      have HM : Hid (M.length = n ∧ ∀ x ∈ M, x.size ≤ 62) := ⟨hn, fun x hx => by have := hm3 x hx; omega⟩
      have hn62 : n ≤ 62 := by omega
      have HQ7 : Hid (W7.heap.size = q7) := hq7
      clear hp7 hW7 hq7 HP5 HP6 HFB f6 k6 hT2 hs3 hm3 hsp3 hM hn
      go_upto_region 11 with (go_at_call 59; refine CS3.mono ?_; rintro e w8 ⟨vm, rfl, hom, hbm⟩; obtain ⟨am, capm, rfl⟩ := own_slice' hom; have HMR : Hid (FtS (Fr gp (.slice none 0 0) w8) w8 (.slice am n capm) M) := HP7.out.newS (Nat.le_of_eq HQ7.out) (own_fts hom HM.out.1.symm); have HP8 : Hid (PS gp w2 x0 (.slice aa (toks x1).length ca) (.slice ab (toks x2).length cb) (.slice none 0 0) (toks x1) (toks x2) [] w8) := HP7.out.below (by rw [HQ7.out]; exact hbm); clear hom hbm CS3 c3)
      clear HP7
      go_wp2
      obtain ⟨T1, hT1⟩ : ∃ T1, toks x1 = T1 := ⟨_, rfl⟩
      obtain ⟨T2, hT2⟩ : ∃ T2, toks x2 = T2 := ⟨_, rfl⟩
      simp only [hT1, hT2] at HMK HP8 ⊢
      clear hT1 hT2
      go_loopw [7] (fun v7 wy => ∃ (k : Nat) (vl : Value) (fs : List Lv), k ≤ n ∧ v7 = .int .i64 k ∧ fs.length = k ∧ lvl fs = lnsOf M k ∧ PS gp w2 x0 (.slice aa T1.length ca) (.slice ab T2.length cb) vl T1 T2 fs wy ∧ FtS (Fr gp vl wy) wy (.slice am n capm) M) (fun v _ => n - (intOf v).toNat)
      case atStart => exact ⟨0, .slice none 0 0, [], Nat.zero_le _, rfl, rfl, rfl, HP8.out, HMR.out⟩
      case round =>
        obtain ⟨k, vl, fs, hk, rfl, hfl, hfs, hP, hF⟩ := hrel
        by_cases hkn : k < n
        · have b2 : (k : Int) < (n : Int) := by omega
          obtain ⟨hnl, gm, om, hSm, rfl, hcm⟩ := hF.at hkn
          have hmz : (M.getD k ⟨#[]⟩).size ≤ 62 := HM.out.2 _ (by simp [List.getD, show k < M.length by omega])
          have hln : lnsOf M (k + 1) = lnsOf M k ++ [(((k % 2 : Nat) : Int), toks (M.getD k ⟨#[]⟩))] := by simp [lnsOf, List.range_succ]
          obtain ⟨mk, hmk⟩ : ∃ mk, M.getD k ⟨#[]⟩ = mk := ⟨_, rfl⟩
          rw [hmk] at hcm hmz hln
          obtain ⟨al, cl, rfl⟩ := own_slice' hP.own
          rw [hfl] at hP hF
          have HP : Hid (PS gp w2 x0 (.slice aa T1.length ca) (.slice ab T2.length cb) (.slice al k cl) T1 T2 fs wr) := hP
          have HF : Hid (FtS (Fr gp (.slice al k cl) wr) wr (.slice (some ⟨gm, om, none⟩) n capm) M) := hF
          have HLN : Hid _ := hln
          have HFS : Hid (lvl fs = lnsOf M k ∧ fs.length = k) := ⟨hfs, hfl⟩
          have hTk := toks_len mk (by omega)
          have hdr := hP.below (drew_below (Below.refl wr.heap.size wr))
          have hkb := hP.kb (drew_below (Below.refl wr.heap.size wr))
          obtain ⟨wd, hwd⟩ : ∃ wd, wr.drew = wd := ⟨_, rfl⟩
          rw [hwd] at hdr hkb
          have HPD : Hid (PS gp w2 x0 (.slice aa T1.length ca) (.slice ab T2.length cb) (.slice al k cl) T1 T2 fs wd) := hdr
          have HFD : Hid (FtS (Fr gp (.slice al k cl) wd) wd (.slice (some ⟨gm, om, none⟩) n capm) M) := hF.kp hkb
          have hcd : wd.cell? ⟨gm, om + k, none⟩ = some (.string mk) := by
            obtain ⟨_, b, o, _, e, h⟩ := HFD.out.at hkn
            injection e with e
            injection e with e1 e2
            subst e1 e2
            rw [h, hmk]
          have hMf : ∀ {vn : Value} {Y : World}, FtS (Fr gp vn Y) Y (.slice (some ⟨gm, om, none⟩) n capm) M → Y.cell? ⟨gm, om + k, none⟩ = some (.string mk) := fun hY => by
            obtain ⟨_, b, o, _, e, h⟩ := hY.at hkn
            injection e with e
            injection e with e1 e2
            subst e1 e2
            rw [h, hmk]
          have hbk : (0 : Int) ≤ (k : Int) := by omega
          have hc3 := hP.c3
          clear hP hF hln hfs hnl hSm hcm hmk hfl hdr hkb
          go_wp2
          refine Go.Pin.wp_region_L (fun Y => Y.cell? ⟨gp, 3, none⟩ = some (.slice al k cl) ∧ Y.cell? ⟨gm, om + k, none⟩ = some (.string mk)) 13 14 (by rfl) (by kernel_rfl) (by rw [hwd]; exact ⟨HPD.out.c3, hcd⟩) ?_
          intro Sq fq hNq hRq hSq
          have y3 := fun x => (hRq x).1
          have y4 := fun x => (hRq x).2
          rw [hwd]
          have st0 : wd.cell? ⟨gp, 3, none⟩ = some (.slice al k cl) ∧ wd.cell? ⟨gm, om + k, none⟩ = some (.string mk) := ⟨HPD.out.c3, hcd⟩
          refine Go.Pin.takeL 0 (by simp only [List.getElem?_toArray, List.getElem?_cons_zero, List.getElem?_cons_succ]; exact rfl) (by simp only [List.getElem?_toArray, List.getElem?_cons_zero, List.getElem?_cons_succ]; exact rfl) (by kernel_rfl) (by kernel_rfl) (by kernel_rfl) (by kernel_rfl) (by rfl) (fun _ _ d _ _ h => by cases d <;> exact h) (st0) (hSq).out (by kernel_rfl) ?_
          intro Kq hKq
          go_big_quiet_op
          go_big_quiet_on
          refine Go.Pin.takeL 1 (by simp only [List.getElem?_toArray, List.getElem?_cons_zero, List.getElem?_cons_succ]; exact rfl) (by simp only [List.getElem?_toArray, List.getElem?_cons_zero, List.getElem?_cons_succ]; exact rfl) (by kernel_rfl) (by kernel_rfl) (by kernel_rfl) (by kernel_rfl) (by rfl) (fun _ _ d _ _ h => by cases d <;> exact h) (st0) (hSq).out (by kernel_rfl) ?_
          intro Kq hKq
          go_big_quiet_op
          go_big_quiet_on
          refine Go.Pin.takeL 2 (by simp only [List.getElem?_toArray, List.getElem?_cons_zero, List.getElem?_cons_succ]; exact rfl) (by simp only [List.getElem?_toArray, List.getElem?_cons_zero, List.getElem?_cons_succ]; exact rfl) (by kernel_rfl) (by kernel_rfl) (by kernel_rfl) (by kernel_rfl) (by rfl) (fun _ _ d _ _ h => by cases d <;> exact h) (st0) (hSq).out (by kernel_rfl) ?_
          intro Kq hKq
          go_big_quiet_op
          go_big_quiet_on
          refine Go.Pin.takeL 3 (by simp only [List.getElem?_toArray, List.getElem?_cons_zero, List.getElem?_cons_succ]; exact rfl) (by simp only [List.getElem?_toArray, List.getElem?_cons_zero, List.getElem?_cons_succ]; exact rfl) (by kernel_rfl) (by kernel_rfl) (by kernel_rfl) (by kernel_rfl) (by rfl) (fun _ _ d _ _ h => by cases d <;> exact h) (st0) (hSq).out (by kernel_rfl) ?_
          intro Kq hKq
          go_big_quiet_op
          go_big_quiet_on
          refine Go.Pin.takeL 4 (by simp only [List.getElem?_toArray, List.getElem?_cons_zero, List.getElem?_cons_succ]; exact rfl) (by simp only [List.getElem?_toArray, List.getElem?_cons_zero, List.getElem?_cons_succ]; exact rfl) (by kernel_rfl) (by kernel_rfl) (by kernel_rfl) (by kernel_rfl) (by rfl) (fun _ _ d _ _ h => by cases d <;> exact h) (st0) (hSq).out (by kernel_rfl) ?_
          intro Kq hKq
          go_big_quiet_op
          go_big_quiet_on
          refine Go.Pin.takeL 5 (by simp only [List.getElem?_toArray, List.getElem?_cons_zero, List.getElem?_cons_succ]; exact rfl) (by simp only [List.getElem?_toArray, List.getElem?_cons_zero, List.getElem?_cons_succ]; exact rfl) (by kernel_rfl) (by kernel_rfl) (by kernel_rfl) (by kernel_rfl) (by rfl) (fun _ _ d _ _ h => by cases d <;> exact h) (st0) (hSq).out (by kernel_rfl) ?_
          intro Kq hKq
          go_big_quiet_op
          go_big_quiet_on
          refine Go.Pin.takeL 6 (by simp only [List.getElem?_toArray, List.getElem?_cons_zero, List.getElem?_cons_succ]; exact rfl) (by simp only [List.getElem?_toArray, List.getElem?_cons_zero, List.getElem?_cons_succ]; exact rfl) (by kernel_rfl) (by kernel_rfl) (by kernel_rfl) (by kernel_rfl) (by rfl) (fun _ _ d _ _ h => by cases d <;> exact h) (st0) (hSq).out (by kernel_rfl) ?_
          intro Kq hKq
          go_big_quiet_op
          go_big_quiet_on
          refine Go.Pin.takeL 7 (by simp only [List.getElem?_toArray, List.getElem?_cons_zero, List.getElem?_cons_succ]; exact rfl) (by simp only [List.getElem?_toArray, List.getElem?_cons_zero, List.getElem?_cons_succ]; exact rfl) (by kernel_rfl) (by kernel_rfl) (by kernel_rfl) (by kernel_rfl) (by rfl) (fun _ _ d _ _ h => by cases d <;> exact h) (st0) (hSq).out (by kernel_rfl) ?_
          intro Kq hKq
          go_big_quiet_op
          go_big_quiet_on
          have CTk := tokens_any mk wd (by omega)
          refine Go.Pin.readyL 8 (by simp only [List.getElem?_toArray, List.getElem?_cons_zero, List.getElem?_cons_succ]; exact rfl) (by kernel_rfl) (by kernel_rfl) ?_
          intro K hK
          refine wpCallX (α := Value) (v := fun u => u) (R := fun u w' => w'.ownsRow wd.heap.size 3 1 u (toks mk).length ((toks mk).map (Value.int .i64)) ∧ Below wd.heap.size wd w') (d := some 54) rfl rfl (args := #[.string mk]) (by simp only [List.map_toArray, List.map_cons, List.map_nil]; rfl) (fun _ => rfl) CTk (fun u w3 h3 => ?_)
          obtain ⟨au, cu, rfl⟩ := own_slice' h3.1
          have HP3 : Hid (PS gp w2 x0 (.slice aa T1.length ca) (.slice ab T2.length cb) (.slice al k cl) T1 T2 fs w3) := HPD.out.below h3.2
          have HF3 : Hid (FtS (Fr gp (.slice al k cl) w3) w3 (.slice (some ⟨gm, om, none⟩) n capm) M) := HFD.out.kp (HPD.out.kb h3.2)
          have HU3 : Hid (FtN (Fr gp (.slice al k cl) w3) w3 (.slice au (toks mk).length cu) (toks mk)) := HPD.out.new h3.2.size (Nat.le_refl _) (own_ft h3.1 rfl (by omega))
          have st3 : w3.cell? ⟨gp, 3, none⟩ = some (.slice al k cl) ∧ w3.cell? ⟨gm, om + k, none⟩ = some (.string mk) := ⟨HP3.out.c3, hMf HF3.out⟩
          refine hK _ _ (.inr st3) ?_
          simp only [Act.put, List.setIfInBounds_toArray, List.set_cons_zero, List.set_cons_succ]
          clear hK K CTk h3
          refine Go.Pin.takeL 9 (by simp only [List.getElem?_toArray, List.getElem?_cons_zero, List.getElem?_cons_succ]; exact rfl) (by simp only [List.getElem?_toArray, List.getElem?_cons_zero, List.getElem?_cons_succ]; exact rfl) (by kernel_rfl) (by kernel_rfl) (by kernel_rfl) (by kernel_rfl) (by rfl) (fun _ _ d _ _ h => by cases d <;> exact h) (st3) (hSq).out (by kernel_rfl) ?_
          intro Kq hKq
          go_big_quiet_op
          go_big_quiet_on
          refine Go.Pin.readyL 10 (by simp only [List.getElem?_toArray, List.getElem?_cons_zero, List.getElem?_cons_succ]; exact rfl) (by kernel_rfl) (by kernel_rfl) ?_
          intro K hK
          have hal := (Below.refl w3.heap.size w3).alloc (Nat.le_refl _) (.cells #[.int .i64 ((k : Int) % 2), .slice au (toks mk).length cu] 55)
          have hrow : (w3.alloc (.cells #[.int .i64 ((k : Int) % 2), .slice au (toks mk).length cu] 55)).heap[w3.heap.size]? = some (.cells #[.int .i64 ((k : Int) % 2), .slice au (toks mk).length cu] 55) := heap_alloc_new _ _
          obtain ⟨w4, hw4⟩ : ∃ w4, w3.alloc (.cells #[.int .i64 ((k : Int) % 2), .slice au (toks mk).length cu] 55) = w4 := ⟨_, rfl⟩
          rw [hw4] at hal hrow
          have HP4 : Hid (PS gp w2 x0 (.slice aa T1.length ca) (.slice ab T2.length cb) (.slice al k cl) T1 T2 fs w4) := HP3.out.below hal
          have HF4 : Hid (FtS (Fr gp (.slice al k cl) w4) w4 (.slice (some ⟨gm, om, none⟩) n capm) M) := HF3.out.kp (HP3.out.kb hal)
          have HU4 : Hid (FtN (Fr gp (.slice al k cl) w4) w4 (.slice au (toks mk).length cu) (toks mk)) := HU3.out.kp (HP3.out.kb hal)
          have st4 : w4.cell? ⟨gp, 3, none⟩ = some (.slice al k cl) ∧ w4.cell? ⟨gm, om + k, none⟩ = some (.string mk) := ⟨HP4.out.c3, hMf HF4.out⟩
          refine wpRun (d := some 56) (v := .slice (some ⟨w3.heap.size, 0, none⟩) 1 1) (w' := w3.alloc (.cells #[.int .i64 ((k : Int) % 2), .slice au (toks mk).length cu] 55)) rfl (by unfold execOp; go_simp) (hK _ _ (.inr (by rw [hw4]; exact st4)) ?_)
          simp only [Act.put, List.setIfInBounds_toArray, List.set_cons_zero, List.set_cons_succ]
          rw [hw4]
          clear hK K
          have happ := HP4.out.app (by rw [HFS.out.2]; omega) HU4.out hrow
          refine Go.Pin.readyL 11 (by simp only [List.getElem?_toArray, List.getElem?_cons_zero, List.getElem?_cons_succ]; exact rfl) (by kernel_rfl) (by kernel_rfl) ?_
          intro K hK
          refine wpApp (d := some 57) (v := .slice al k cl) (u := .slice (some ⟨w3.heap.size, 0, none⟩) 1 1) (R := fun v' w' => PT gp w2 x0 (.slice aa T1.length ca) (.slice ab T2.length cb) (.slice al k cl) v' T1 T2 (fs ++ [((k : Int) % 2, .slice au (toks mk).length cu, toks mk)]) w' ∧ Kp gp (.slice al k cl) w4 v' w') rfl rfl rfl rfl happ (fun v' w5 h5 => ?_)
          have HF5 : Hid (FtS (Fr gp v' w5) w5 (.slice (some ⟨gm, om, none⟩) n capm) M) := HF4.out.kp h5.2
          have st5 : w5.cell? ⟨gp, 3, none⟩ = some (.slice al k cl) ∧ w5.cell? ⟨gm, om + k, none⟩ = some (.string mk) := ⟨h5.1.c3, hMf HF5.out⟩
          refine hK _ _ (.inr st5) ?_
          simp only [Act.put, List.setIfInBounds_toArray, List.set_cons_zero, List.set_cons_succ]
          clear hK K
          obtain ⟨an, cn, rfl⟩ := own_slice' h5.1.own
          have e5 := h5.1.c3
          have f5 := h5.1.fz 3
          refine Go.Pin.takeL 12 (by simp only [List.getElem?_toArray, List.getElem?_cons_zero, List.getElem?_cons_succ]; exact rfl) (by simp only [List.getElem?_toArray, List.getElem?_cons_zero, List.getElem?_cons_succ]; exact rfl) (by kernel_rfl) (by kernel_rfl) (by kernel_rfl) (by kernel_rfl) (by rfl) (fun _ _ d _ _ h => by cases d <;> exact h) (st5) (hSq).out (by kernel_rfl) ?_
          intro Kq hKq
          go_big_quiet_op
          go_big_quiet_on
          refine Go.Pin.readyL 13 (by simp only [List.getElem?_toArray, List.getElem?_cons_zero, List.getElem?_cons_succ]; exact rfl) (by kernel_rfl) (by kernel_rfl) ?_
          intro K hK
          unfold Oper.wp execOp
          go_simp
          refine hK _ _ (.inl rfl) ?_
          clear hK K
          refine Go.Pin.wpL_done (by kernel_rfl) ?_
          have hp6 := h5.1.set
          have hkp6 := h5.1.kp
          simp only [List.length_append, List.length_singleton] at hp6 hkp6 HF5
          obtain ⟨W6, hW6⟩ : ∃ W6, w5.setCell ⟨gp, 3, none⟩ (.slice an (fs.length + 1) cn) = W6 := ⟨_, rfl⟩
          rw [hW6] at hp6 hkp6
          simp only [hW6]
          have HP6 : Hid (PS gp w2 x0 (.slice aa T1.length ca) (.slice ab T2.length cb) (.slice an (fs.length + 1) cn) T1 T2 (fs ++ [((k : Int) % 2, .slice au (toks mk).length cu, toks mk)]) W6) := hp6
          have HF6 : Hid (FtS (Fr gp (.slice an (fs.length + 1) cn) W6) W6 (.slice (some ⟨gm, om, none⟩) n capm) M) := HF5.out.kp hkp6
          have HE6 : Hid (lvl (fs ++ [((k : Int) % 2, .slice au (toks mk).length cu, toks mk)]) = lnsOf M (k + 1) ∧ (fs ++ [((k : Int) % 2, Value.slice au (toks mk).length cu, toks mk)]).length = k + 1) := by
            refine ⟨?_, by rw [List.length_append, HFS.out.2]; rfl⟩
            rw [lvl_snoc, HFS.out.1, HLN.out]
            simp
          clear hp6 hkp6 hW6 h5 e5 f5 st5 st4 st3 st0 happ hrow hal hw4 hSq hRq hNq y3 y4 hwd hcd hMf hc3 HP3 HP4 HF3 HF4 HF5 HU3 HU4
          go_wp2
          exact ⟨⟨k + 1, _, _, hkn, congrArg (Value.int .i64) (Int.natCast_succ k).symm, HE6.out.2, HE6.out.1, HP6.out, HF6.out⟩, by show n - ((k : Int) + 1).toNat < n - ((k : Int)).toNat; omega⟩
        · have b2 : ¬ (k : Int) < (n : Int) := by omega
          obtain rfl : k = n := by omega
          obtain ⟨al, cl, rfl⟩ := own_slice' hP.own
          have hft := hP.ftp (by omega)
          rw [hfl] at hP hft
          have d0 := hP.c0
          have d1 := hP.c1
          have d2 := hP.c2
          have d3 := hP.c3
          have hfp := hft
          rw [hfs] at hfp
          have hbw : Below qr _ wr := HBX.out.trans (hP.old.mono (by have := HBX.out.size; have := HGP.out; have := HQR.out; omega))
          have hbq := HQ.out.below (by rw [HQR.out]; exact hbw)
          have hfo := HQ.out.new (w1 := wr) (g := gp) (by have := HBX.out.size; have := HGP.out; omega) hfp
          have hal := (Below.refl wr.heap.size wr).alloc (Nat.le_refl _) (.cells #[.string x0, .slice aa T1.length ca, .slice ab T2.length cb, .slice al k cl] 26)
          have hrow : (wr.alloc (.cells #[.string x0, .slice aa T1.length ca, .slice ab T2.length cb, .slice al k cl] 26)).heap[wr.heap.size]? = some (.cells #[.string x0, .slice aa T1.length ca, .slice ab T2.length cb, .slice al k cl] 26) := heap_alloc_new _ _
          have hpl : ps.length = i := by have := congrArg List.length HPS.out; rw [List.length_map, List.length_take, tab_len] at this; omega
          have happ := (hbq.below hal).app (by omega) ⟨.slice aa T1.length ca, .slice ab T2.length cb, .slice al k cl, ⟨x0, T1, T2, lnsOf M k⟩⟩ ((hfo.keep (fun b hb => hal.block b hb.1)).mono (fun b hb => ⟨Nat.lt_of_lt_of_le hb.1 hal.size, hb.2⟩)) hrow
          have HAP : Hid _ := happ
          clear happ hrow hal hfo hbq hbw hfp hP hF hfs hk hkn hft hfl
          go_wp2_with (at_builtin; go_loud (refine wpList_app _ rfl (.tmp 59) (.tmp 61) 70 70 rfl _ _ rfl rfl HAP.out ?_; rintro v' w' h1; have H7 : Hid (QS q1 w1 v' (ps ++ [⟨.slice aa T1.length ca, .slice ab T2.length cb, .slice al k cl, ⟨x0, T1, T2, lnsOf M k⟩⟩]) w') := h1; clear h1))
          refine ⟨⟨i + 1, hlt, congrArg (Value.int .i64) (Int.natCast_succ i).symm, _, ?_, H7.out⟩, by show 38 - ((i : Int) + 1).toNat < 38 - ((i : Int)).toNat; omega⟩
          rw [List.map_append, HPS.out, List.take_add_one, List.getElem?_eq_getElem (by rw [tab_len]; exact hlt)]
          have hg : tab[i]'(by rw [tab_len]; exact hlt) = tab.getD i ⟨⟨#[]⟩, [], [], []⟩ := by simp [List.getD, show i < tab.length by rw [tab_len]; exact hlt]
          rw [hg, ← HMK.out]
          rfl
    · have b1 : ¬ (i : Int) < 38 := by omega
      obtain rfl : i = 38 := by omega
      have hrd := hQ.rd
      rw [hps, show tab.take 38 = tab from List.take_of_length_le (by rw [tab_len]; omega)] at hrd
      have HRR : Hid (RdQ q1 wr u1 tab) := hrd
      have HBB : Hid (Below q1 w1 wr) := hQ.old
      clear hQ hps hrd
      go_wp2
      go_ret
      exact ⟨_, rfl, HRR.out.mono hq1, HB.out.trans (HBB.out.mono hq1)⟩
end Go.Proofs.YtchnkpgkckadmaaGreatDoor
namespace Go.Proofs.YtchnkpgkckadmaaGreatDoor
set_option linter.unusedSimpArgs false
set_option linter.unusedVariables false
open Go.ChangeShapes Go.WideShapes Go.ChangeAt Go.RowKit Go.Pin Go.Pat
theorem pb2 {q : Nat} {w wr : World} {nm nm' : ByteArray} {v0 v1 vl v0' v1' vl' : Value} (h : PB q w nm v0 v1 vl wr) : PB q w nm v0 v1 vl (wr.alloc (.cells #[.string nm', v0', v1', vl'] 26)) := h.below ((Below.refl _ _).alloc (Nat.le_refl _) _)
end Go.Proofs.YtchnkpgkckadmaaGreatDoor
namespace Go.Proofs.YtchnkpgkckadmaaGreatDoor
set_option linter.unusedSimpArgs false
set_option linter.unusedVariables false
open Go.ChangeShapes Go.WideShapes Go.ChangeAt Go.RowKit Go.Pin Go.Pat
/-- a pattern that a statement looks at -/
def Sml (p : Pt) : Prop := p.b0.length ≤ 2000 ∧ p.b1.length ≤ 2000 ∧ p.ln.length ≤ 2000 ∧ p.nm.size ≤ 8000 ∧ ∀ j, j < p.ln.length → (p.ln.getD j (0, [])).2.length ≤ 2000
/-- what much answers -/
def MuP (p : Pt) (q : Nat) (W : World) (e : Ending) (w' : World) : Prop := ∃ b, e = .returned (.bool b) ∧ (b = false → Sml p) ∧ Below q W w'
end Go.Proofs.YtchnkpgkckadmaaGreatDoor
namespace Go.Proofs.YtchnkpgkckadmaaGreatDoor
set_option linter.unusedSimpArgs false
set_option linter.unusedVariables false
open Go.ChangeShapes Go.WideShapes Go.ChangeAt Go.RowKit Go.Pin Go.Pat
theorem info_int : (Tryz.prog.info? 3).map (fun i => (i.zero, i.size, i.bytes)) = some (some (.int .i64 0), 1, 8) := by kernel_rfl
def mks : List Int := [700, 701, 702, 703, 704, 705]
/-- tokens in a longer list -/
def RdM (w : World) (v : Value) (C : List Int) : Prop :=
  ∃ g, v = .slice (some ⟨g, 0, none⟩) C.length (C.length + 6) ∧ C.length ≤ 2000 ∧ w.rangeAt g 0 ((C ++ mks).map (Value.int .i64))
theorem RdM.rd {w : World} {v : Value} {C : List Int} (h : RdM w v C) : RdN w v C := by
  obtain ⟨g, rfl, h2, h3⟩ := h
  refine ⟨_, _, rfl, ⟨by omega, fun h => nomatch h⟩, by omega, .inr ⟨g, 0, rfl, fun j v hv => h3 j v ?_⟩⟩
  rw [List.map_append, List.getElem?_append_left (List.getElem?_eq_some_iff.1 hv).1]
  exact hv
theorem RdM.below {w W : World} {v : Value} {C : List Int} (h : RdM w v C) (hb : Below w.heap.size w W) : RdM W v C := by
  obtain ⟨g, e, h2, h3⟩ := h
  exact ⟨g, e, h2, fun j v hv => by rw [World.cell?_of_block (a := ⟨g, 0 + j, none⟩) (hb.block g (World.block_lt_of_cell? w _ (h3 j v hv)))]; exact h3 j v hv⟩
end Go.Proofs.YtchnkpgkckadmaaGreatDoor
namespace Go.Proofs.YtchnkpgkckadmaaGreatDoor
set_option linter.unusedSimpArgs false
set_option linter.unusedVariables false
open Go.ChangeShapes Go.WideShapes Go.ChangeAt Go.RowKit Go.Pin Go.Pat
abbrev zPat : Array Value := #[.string ⟨#[]⟩, .slice none 0 0, .slice none 0 0, .slice none 0 0]
/-- roomy's two boxes -/
structure P2 (q : Nat) (w : World) (nm : ByteArray) (v0 v1 vl : Value) (wr : World) : Prop where
  old : Below q w wr
  lt : q + 1 < wr.heap.size
  row : wr.heap[q]? = some (.cells #[.string nm, v0, v1, vl] 26)
  row2 : wr.heap[q + 1]? = some (.cells zPat 26)
section
variable {q : Nat} {w wr w' : World} {nm : ByteArray} {v0 v1 vl : Value}
theorem P2.c0 (h : P2 q w nm v0 v1 vl wr) : wr.cell? ⟨q, 0, none⟩ = some (.string nm) := by rw [cell_of_row _ _ _ _ _ _ h.row]; rfl
theorem P2.c1 (h : P2 q w nm v0 v1 vl wr) : wr.cell? ⟨q, 1, none⟩ = some v0 := by rw [cell_of_row _ _ _ _ _ _ h.row]; rfl
theorem P2.c2 (h : P2 q w nm v0 v1 vl wr) : wr.cell? ⟨q, 2, none⟩ = some v1 := by rw [cell_of_row _ _ _ _ _ _ h.row]; rfl
theorem P2.c3 (h : P2 q w nm v0 v1 vl wr) : wr.cell? ⟨q, 3, none⟩ = some vl := by rw [cell_of_row _ _ _ _ _ _ h.row]; rfl
theorem P2.below (h : P2 q w nm v0 v1 vl wr) (hb : Below wr.heap.size wr w') : P2 q w nm v0 v1 vl w' :=
  ⟨h.old.trans (hb.mono (by have := h.lt; omega)), Nat.lt_of_lt_of_le h.lt hb.size, (hb.block _ (by have := h.lt; omega)).trans h.row, (hb.block _ h.lt).trans h.row2⟩
/-- another block of its own is written -/
theorem P2.grown (h : P2 q w nm v0 v1 vl wr) {g : Nat} (hg : wr.grownBy w' (some g)) (h2 : q + 2 ≤ g) : P2 q w nm v0 v1 vl w' :=
  ⟨h.old.grown hg (by have := h.lt; omega) (fun k hk => by injection hk with hk; omega), Nat.lt_of_lt_of_le h.lt hg.size, (hg.block _ (by have := h.lt; omega) (fun e => by injection e with e; omega)).trans h.row, (hg.block _ h.lt (fun e => by injection e with e; omega)).trans h.row2⟩
end
def lcs (fs : List (Int × Value)) : List Value := fs.flatMap fun g => [.int .i64 g.1, g.2]
theorem lcs_length (l : List (Int × Value)) : (lcs l).length = l.length * 2 := by
  induction l with
  | nil => rfl
  | cons g r ih => simp [lcs] at ih ⊢; omega
theorem lcs_snoc (l : List (Int × Value)) (g : Int × Value) : lcs (l ++ [g]) = lcs l ++ [.int .i64 g.1, g.2] := by simp [lcs]
/-- marked lists, none of them in block g -/
def Mks (g : Nat) (ms : List (Nat × List Int)) (wr : World) : Prop := ∀ m ∈ ms, m.1 ≠ g ∧ wr.rangeAt m.1 0 ((m.2 ++ mks).map (Value.int .i64))
theorem range_blk {w w' : World} {b o : Nat} {cs : List Value} (h : w.rangeAt b o cs) (hb : w'.heap[b]? = w.heap[b]?) : w'.rangeAt b o cs := fun j v hv => by
  rw [World.cell?_of_block (a := ⟨b, o + j, none⟩) hb]; exact h j v hv
theorem mks_pos (C : List Int) : 0 < ((C ++ mks).map (Value.int .i64)).length := by simp [mks]
theorem Mks.below {g : Nat} {ms : List (Nat × List Int)} {w w' : World} (h : Mks g ms w) (hb : Below w.heap.size w w') : Mks g ms w' := fun m hm =>
  ⟨(h m hm).1, range_blk (h m hm).2 (hb.block _ (range_lt (h m hm).2 (mks_pos _)))⟩
theorem Mks.grown {g : Nat} {ms : List (Nat × List Int)} {w w' : World} (h : Mks g ms w) (hg : w.grownBy w' (some g)) : Mks g ms w' := fun m hm =>
  ⟨(h m hm).1, range_blk (h m hm).2 (hg.block _ (range_lt (h m hm).2 (mks_pos _)) (fun e => by injection e with e; exact (h m hm).1 e))⟩
/-- roomy's state: both boxes, the list of lines, the marked lists -/
structure RS (q : Nat) (w : World) (nm : ByteArray) (v0 v1 vl : Value) (g N : Nat) (fs : List (Int × Value)) (ms : List (Nat × List Int)) (wr : World) : Prop where
  p2 : P2 q w nm v0 v1 vl wr
  own : wr.ownsRow (q + 2) 55 2 (.slice (some ⟨g, 0, none⟩) fs.length N) fs.length (lcs fs)
  mm : Mks g ms wr
  gt : q + 2 ≤ g
  lt : g < wr.heap.size
  ge : ∀ m ∈ ms, q + 2 ≤ m.1
section
variable {q : Nat} {w wr w' : World} {nm : ByteArray} {v0 v1 vl : Value} {g N : Nat} {fs : List (Int × Value)} {ms : List (Nat × List Int)}
theorem RS.below (h : RS q w nm v0 v1 vl g N fs ms wr) (hb : Below wr.heap.size wr w') : RS q w nm v0 v1 vl g N fs ms w' :=
  ⟨h.p2.below hb, owns_below hb h.own, h.mm.below hb, h.gt, Nat.lt_of_lt_of_le h.lt hb.size, h.ge⟩
theorem RS.add (h : RS q w nm v0 v1 vl g N fs ms wr) {b : Nat} {C : List Int} (hb : b ≠ g) (hb2 : q + 2 ≤ b) (hr : wr.rangeAt b 0 ((C ++ mks).map (Value.int .i64))) : RS q w nm v0 v1 vl g N fs (ms ++ [(b, C)]) wr :=
  ⟨h.p2, h.own, fun m hm => by
    rcases List.mem_append.1 hm with hm | hm
    · exact h.mm m hm
    · obtain rfl : m = (b, C) := by simpa using hm
      exact ⟨hb, hr⟩, h.gt, h.lt, fun m hm => by
    rcases List.mem_append.1 hm with hm | hm
    · exact h.ge m hm
    · obtain rfl : m = (b, C) := by simpa using hm
      exact hb2⟩
theorem info_line : (Tryz.prog.info? 55).map (·.size) = some 2 := by kernel_rfl
theorem RS.app (h : RS q w nm v0 v1 vl g N fs ms wr) (hn : fs.length + 1 ≤ N) (a : Nat) (f : Int) (u : Value) (hu : u.oneCell' = true) (hc : wr.heap[a]? = some (.cells #[.int .i64 f, u] 55)) :
    ∀ ty, ∃ w', (Builtin.append_ #[24, 24] ty #[.slice (some ⟨g, 0, none⟩) fs.length N, .slice (some ⟨a, 0, none⟩) 1 1]).run Tryz.prog wr = .ok (.slice (some ⟨g, 0, none⟩) (fs.length + 1) N) w' ∧ RS q w nm v0 v1 vl g N (fs ++ [(f, u)]) ms w' := fun ty => by
  obtain ⟨i, i1, i2⟩ := Option.map_eq_some_iff.1 info_line
  obtain ⟨w', hr, h2, h3⟩ := run_append_fits (P := Tryz.prog) wr (q + 2) 24 ty 55 i 2 Tryz.underlying24 i1 i2 g fs.length N (lcs fs) h.own ⟨a, 0, none⟩ 1 1 [.int .i64 f, u] rfl (fun j x hx => by
    rw [add_mid, Nat.zero_add, cell_of_row _ _ _ _ _ _ hc, ← hx]; simp) (fun x hx => by simp at hx; rcases hx with rfl | rfl; rfl; exact hu) hn
  refine ⟨w', hr, h.p2.grown h3 h.gt, ?_, h.mm.grown h3, h.gt, Nat.lt_of_lt_of_le h.lt h3.size, h.ge⟩
  rw [lcs_snoc, List.length_append]
  exact h2
end
end Go.Proofs.YtchnkpgkckadmaaGreatDoor
