import Derived.Test.YtchnkpgkckadmaaGreatDoorMmbf
import Derived.Test.YtchnkpgkckadmaaGreatDoorMmbg
import Derived.Test.YtchnkpgkckadmaaGreatDoorMmbo
import Derived.Test.YtchnkpgkckadmaaGreatDoorMman
import Derived.Test.YtchnkpgkckadmaaGreatDoorMmaf
namespace Go.Proofs.YtchnkpgkckadmaaGreatDoor
set_option linter.unusedSimpArgs false
set_option linter.unusedVariables false
set_option maxRecDepth 100000
open Go.ChangeShapes Go.WideShapes Go.ChangeAt Go.RowKit Go.Pin Go.Pat Go.Deep
theorem code16_any {ea : Int → Addr} {W : World} (h : Errs ea W) (c : Int) (hc : c = 0 ∨ c = 13) :
    Calls Tryz.prog 8 #[EV ea c] W fun e w' => e = .returned (.int .i64 c) ∧ w' = W := by
  have q := fun (c d : Int) (hc : c ∈ ecs) (hd : d ∈ ecs) => eq_err h hc hd
  have k13 := (h.1 13 (by decide)).1
  simp only [eblk] at k13
  rcases hc with rfl | rfl
  · simp only [EV, if_true]
    clear q
    go_enter Tryz.func8, Tryz.ntmps8
    go_wp2
    go_ret
    exact ⟨rfl, rfl⟩
  · simp only [EV, show ¬ ((13 : Int) = 0) by decide, if_false]
    have q1 := q 13 13 (by decide) (by decide)
    clear q
    go_enter Tryz.func8, Tryz.ntmps8
    go_wp2
    go_ret
    exact ⟨rfl, rfl⟩
theorem nprs_code (t : ByteArray) : (nprs t).2 = 0 ∨ (nprs t).2 = 13 := by
  rcases nprs_two t with h | h
  · exact .inl h
  · rw [h]; exact .inr rfl
set_option maxHeartbeats 8000000 in
theorem ref16_print (f : ByteArray) (W : World) (hf : f.size ≤ 140737488355000) :
    Calls Tryz.prog 12 #[.string f] W fun e w' => e = .returned (.tuple #[.string (nprn f).1, .int .i64 (nprn f).2]) ∧ Below W.heap.size W w' := by
  have hsz : (hdN ++ f ++ tlN).size = f.size + 31 := by rw [ByteArray.size_append, ByteArray.size_append]; show 6 + f.size + 25 = _; omega
  have CP := ref16_parse (hdN ++ f ++ tlN) W (by omega)
  unfold NgP at CP
  obtain ⟨q, hq⟩ : ∃ q, W.heap.size = q := ⟨_, rfl⟩
  have HQ : Hid (W.heap.size = q) := hq
  rw [hq] at CP ⊢
  clear hsz
  have hap : (⟨#[78, 111, 105, 115, 101, 95]⟩ : ByteArray) ++ f ++ ⟨#[95, 50, 53, 53, 49, 57, 95, 67, 104, 97, 67, 104, 97, 80, 111, 108, 121, 95, 66, 76, 65, 75, 69, 50, 115]⟩ = hdN ++ f ++ tlN := rfl
  obtain ⟨t, ht⟩ : ∃ t, hdN ++ f ++ tlN = t := ⟨_, rfl⟩
  have h2 := prn_two f
  rw [ht] at CP hap h2
  rcases h2 with ⟨h3, h4⟩ | ⟨h3, h4⟩
  · rw [h3] at CP
    rw [h4]
    clear h3 h4
    go_enter Tryz.func12, Tryz.ntmps12
    go_upto_region 3 with (go_at_call 7; refine CP.mono ?_; rintro e w1 ⟨hb, v, rfl, hr⟩; obtain ⟨m0, l0, z0, m1, l1, z1, m2, l2, z2, rfl⟩ := hr.sl9; have H1 : Hid (Below q W w1) := hb; clear hb hr CP)
    go_wp2
    go_ret2
    exact ⟨rfl, sub_le' H1.out ((Below.refl _ _).alloc (Nat.le_refl _) _) (by have := H1.out.size; have := HQ.out; omega)⟩
  · rw [h3] at CP
    rw [h4]
    clear h3 h4
    go_enter Tryz.func12, Tryz.ntmps12
    go_upto_region 3 with (go_at_call 7; refine CP.mono ?_; rintro e w1 ⟨hb, v, rfl, hr⟩; obtain ⟨m0, l0, z0, m1, l1, z1, m2, l2, z2, rfl⟩ := hr.sl9; have H1 : Hid (Below q W w1) := hb; clear hb hr CP)
    go_wp2
    go_ret2
    exact ⟨rfl, sub_le' H1.out ((Below.refl _ _).alloc (Nat.le_refl _) _) (by have := H1.out.size; have := HQ.out; omega)⟩
set_option maxHeartbeats 8000000 in
theorem parses16_walk {ea : Int → Addr} (t : ByteArray) (W : World) (hE : Errs ea W) (ht : t.size ≤ 140737488355328) :
    Calls Tryz.prog 3 #[.string t] W fun e w' => e = .returned (.bool true) ∧ Below W.heap.size W w' := by
  have CP := nparse_any (ea := ea) t W hE (by omega)
  have HCR : Hid (∀ Y, Calls Tryz.prog 7 #[.string t] Y (NgP t Y.heap.size Y)) := fun Y => ref16_parse t Y ht
  have HC : Hid ((nprs t).2 = 0 ∨ (nprs t).2 = 13) := nprs_code t
  unfold NpP at CP
  unfold NgP at HCR
  obtain ⟨q, hq⟩ : ∃ q, W.heap.size = q := ⟨_, rfl⟩
  have HQ : Hid (W.heap.size = q) := hq
  have HE : Hid (∀ Y, Below q W Y → Errs ea Y) := fun Y hY => hE.below (by rw [hq]; exact hY)
  rw [hq] at CP ⊢
  obtain ⟨md, hmd⟩ : ∃ md, nprs t = md := ⟨_, rfl⟩
  rw [hmd] at CP HCR HC
  obtain ⟨P, c⟩ := md
  simp only at CP HCR HC
  clear hE hmd ht
  go_enter Tryz.func3, Tryz.ntmps3
  go_upto_region 2 with (go_at_call 6; refine CP.mono ?_; rintro e w1 ⟨hb, v0, v1, vl, rfl, hf, -⟩; have hrd := hf.rd; obtain ⟨d0, m0, n0, rfl⟩ := hf.1.sl3; obtain ⟨d1, m1, n1, rfl⟩ := hf.2.1.sl3; obtain ⟨d2, m2, n2, rfl⟩ := hf.2.2.sl3; have H1 : Hid (Below q W w1 ∧ RdP w1 (.agg #[.string P.nm, .slice d0 m0 n0, .slice d1 m1 n1, .slice d2 m2 n2]) P) := ⟨hb, hrd⟩; clear hb hf hrd CP)
  have hbx := bx_new w1 H1.out.2
  have ha : Below w1.heap.size w1 (w1.alloc (.cells #[.string P.nm, .slice d0 m0 n0, .slice d1 m1 n1, .slice d2 m2 n2] 26)) := (Below.refl _ _).alloc (Nat.le_refl _) _
  have hB := sub_le' H1.out.1 ha (by have := H1.out.1.size; have := HQ.out; omega)
  obtain ⟨g1, hg1⟩ : ∃ g, w1.heap.size = g := ⟨_, rfl⟩
  obtain ⟨W2, hW2⟩ : ∃ W2, w1.alloc (.cells #[.string P.nm, .slice d0 m0 n0, .slice d1 m1 n1, .slice d2 m2 n2] 26) = W2 := ⟨_, rfl⟩
  simp only [hg1, hW2] at hbx hB ⊢
  have H2 : Hid (Below q W W2 ∧ BX g1 (.slice d0 m0 n0) (.slice d1 m1 n1) (.slice d2 m2 n2) P W2) := ⟨hB, hbx⟩
  have CR := HCR.out W2
  clear hbx ha hB hg1 hW2 H1
  go_upto_region 3 with (go_at_call 7; refine CR.mono ?_; rintro e w3 ⟨hb, v, rfl, hr⟩; obtain ⟨e0, i0, j0, e1, i1, j1, e2, i2, j2, rfl⟩ := hr.sl9; have H3 : Hid (Below q W w3 ∧ BX g1 (.slice d0 m0 n0) (.slice d1 m1 n1) (.slice d2 m2 n2) P w3 ∧ RdP w3 (.agg #[.string P.nm, .slice e0 i0 j0, .slice e1 i1 j1, .slice e2 i2 j2]) P) := ⟨sub_le' H2.out.1 hb (by have := H2.out.1.size; have := HQ.out; omega), H2.out.2.below hb, hr⟩; clear hb hr CR)
  have hbx := bx_new w3 H3.out.2.2
  have ha : Below w3.heap.size w3 (w3.alloc (.cells #[.string P.nm, .slice e0 i0 j0, .slice e1 i1 j1, .slice e2 i2 j2] 26)) := (Below.refl _ _).alloc (Nat.le_refl _) _
  have hB := sub_le' H3.out.1 ha (by have := H3.out.1.size; have := HQ.out; omega)
  have hx := H3.out.2.1.below ha
  obtain ⟨g3, hg3⟩ : ∃ g, w3.heap.size = g := ⟨_, rfl⟩
  obtain ⟨W4, hW4⟩ : ∃ W4, w3.alloc (.cells #[.string P.nm, .slice e0 i0 j0, .slice e1 i1 j1, .slice e2 i2 j2] 26) = W4 := ⟨_, rfl⟩
  simp only [hg3, hW4] at hbx hB hx ⊢
  have H4 : Hid (Below q W W4) := hB
  have CC := code16_any (HE.out W4 hB) c HC.out
  have CA := alike_true hx.rd hbx.rd
  have x0 := hx.c0
  have x1 := hx.c1
  have x2 := hx.c2
  have x3 := hx.c3
  have y0 := hbx.c0
  have y1 := hbx.c1
  have y2 := hbx.c2
  have y3 := hbx.c3
  have hcc : (c == c) = true := by simp
  clear hbx ha hB hg3 hW4 hx H3 H2
  go_wp2_with (first
    | (go_at_call 8; refine CC.mono ?_; rintro e wa ⟨rfl, hwa⟩; obtain rfl := hwa.symm)
    | (go_at_call 9; refine CA.mono ?_; rintro e w5 ⟨rfl, hb⟩; have H5 : Hid (Below q W w5) := sub_le' H4.out hb (by have := H4.out.size; have := HQ.out; omega); have CW := awake_any w5 (HE.out w5 H5.out); clear hb CA x0 x1 x2 x3 y0 y1 y2 y3)
    | (go_at_call 10; refine CW.mono ?_; rintro e w6 ⟨rfl, hb⟩; have H6 : Hid (Below q W w6) := sub_le' H5.out hb (by have := H5.out.size; have := HQ.out; omega); clear hb CW))
  go_ret
  exact ⟨rfl, H6.out⟩
theorem cat_eq (f : ByteArray) : (⟨#[78, 111, 105, 115, 101, 95]⟩ : ByteArray) ++ f ++ ⟨#[95, 50, 53, 53, 49, 57, 95, 67, 104, 97, 67, 104, 97, 80, 111, 108, 121, 95, 66, 76, 65, 75, 69, 50, 115]⟩ = hdN ++ f ++ tlN := rfl
theorem cat_size (f : ByteArray) : (hdN ++ f ++ tlN).size = f.size + 31 := by rw [ByteArray.size_append, ByteArray.size_append]; show 6 + f.size + 25 = _; omega
set_option maxHeartbeats 8000000 in
theorem within16_walk {ea : Int → Addr} (f : ByteArray) (W : World) (hE : Errs ea W) (hf : f.size ≤ 140737488355328) :
    Calls Tryz.prog 4 #[.string f] W fun e w' => e = .returned (.bool true) ∧ Below W.heap.size W w' := by
  obtain ⟨n, hn⟩ : ∃ n, f.size = n := ⟨_, rfl⟩
  by_cases hz : 1000 < n
  · have CW := awake_any W hE
    have t0 : (n : Int) > 1000 := by omega
    have t1 : (1000 : Int) < (n : Int) := by omega
    obtain ⟨q, hq⟩ : ∃ q, W.heap.size = q := ⟨_, rfl⟩
    rw [hq] at CW ⊢
    clear hE hz
    go_enter Tryz.func4, Tryz.ntmps4
    go_wp2_with (go_at_call 10; refine CW.mono ?_; rintro e w6 ⟨rfl, hb⟩; have H6 : Hid (Below q W w6) := hb; clear hb CW)
    go_ret
    exact ⟨rfl, H6.out⟩
  have t0 : ¬ (n : Int) > 1000 := by omega
  have t1 : ¬ (1000 : Int) < (n : Int) := by omega
  have hap := cat_eq f
  have hcs : (hdN ++ f ++ tlN).size ≤ 140737488355328 := by rw [cat_size]; omega
  obtain ⟨t, ht⟩ : ∃ t, hdN ++ f ++ tlN = t := ⟨_, rfl⟩
  rw [ht] at hap hcs
  have CP := nparse_any (ea := ea) t W hE (by omega)
  have HCR : Hid (∀ Y, Calls Tryz.prog 7 #[.string t] Y (NgP t Y.heap.size Y)) := fun Y => ref16_parse t Y hcs
  have HC : Hid ((nprs t).2 = 0 ∨ (nprs t).2 = 13) := nprs_code t
  unfold NpP at CP
  unfold NgP at HCR
  obtain ⟨q, hq⟩ : ∃ q, W.heap.size = q := ⟨_, rfl⟩
  have HQ : Hid (W.heap.size = q) := hq
  have HE : Hid (∀ Y, Below q W Y → Errs ea Y) := fun Y hY => hE.below (by rw [hq]; exact hY)
  rw [hq] at CP ⊢
  obtain ⟨md, hmd⟩ : ∃ md, nprs t = md := ⟨_, rfl⟩
  rw [hmd] at CP HCR HC
  obtain ⟨P, c⟩ := md
  simp only at CP HCR HC
  clear hE hmd hcs hz hf ht
  go_enter Tryz.func4, Tryz.ntmps4
  go_upto_region 4 with (go_at_call 6; refine CP.mono ?_; rintro e w1 ⟨hb, v0, v1, vl, rfl, hf, -⟩; have hrd := hf.rd; obtain ⟨d0, m0, n0, rfl⟩ := hf.1.sl3; obtain ⟨d1, m1, n1, rfl⟩ := hf.2.1.sl3; obtain ⟨d2, m2, n2, rfl⟩ := hf.2.2.sl3; have H1 : Hid (Below q W w1 ∧ RdP w1 (.agg #[.string P.nm, .slice d0 m0 n0, .slice d1 m1 n1, .slice d2 m2 n2]) P) := ⟨hb, hrd⟩; clear hb hf hrd CP)
  have hbx := bx_new w1 H1.out.2
  have ha : Below w1.heap.size w1 (w1.alloc (.cells #[.string P.nm, .slice d0 m0 n0, .slice d1 m1 n1, .slice d2 m2 n2] 26)) := (Below.refl _ _).alloc (Nat.le_refl _) _
  have hB := sub_le' H1.out.1 ha (by have := H1.out.1.size; have := HQ.out; omega)
  obtain ⟨g1, hg1⟩ : ∃ g, w1.heap.size = g := ⟨_, rfl⟩
  obtain ⟨W2, hW2⟩ : ∃ W2, w1.alloc (.cells #[.string P.nm, .slice d0 m0 n0, .slice d1 m1 n1, .slice d2 m2 n2] 26) = W2 := ⟨_, rfl⟩
  simp only [hg1, hW2] at hbx hB ⊢
  have H2 : Hid (Below q W W2 ∧ BX g1 (.slice d0 m0 n0) (.slice d1 m1 n1) (.slice d2 m2 n2) P W2) := ⟨hB, hbx⟩
  have CR := HCR.out W2
  clear hbx ha hB hg1 hW2 H1
  go_upto_region 5 with (go_at_call 7; refine CR.mono ?_; rintro e w3 ⟨hb, v, rfl, hr⟩; obtain ⟨e0, i0, j0, e1, i1, j1, e2, i2, j2, rfl⟩ := hr.sl9; have H3 : Hid (Below q W w3 ∧ BX g1 (.slice d0 m0 n0) (.slice d1 m1 n1) (.slice d2 m2 n2) P w3 ∧ RdP w3 (.agg #[.string P.nm, .slice e0 i0 j0, .slice e1 i1 j1, .slice e2 i2 j2]) P) := ⟨sub_le' H2.out.1 hb (by have := H2.out.1.size; have := HQ.out; omega), H2.out.2.below hb, hr⟩; clear hb hr CR)
  have hbx := bx_new w3 H3.out.2.2
  have ha : Below w3.heap.size w3 (w3.alloc (.cells #[.string P.nm, .slice e0 i0 j0, .slice e1 i1 j1, .slice e2 i2 j2] 26)) := (Below.refl _ _).alloc (Nat.le_refl _) _
  have hB := sub_le' H3.out.1 ha (by have := H3.out.1.size; have := HQ.out; omega)
  have hx := H3.out.2.1.below ha
  obtain ⟨g3, hg3⟩ : ∃ g, w3.heap.size = g := ⟨_, rfl⟩
  obtain ⟨W4, hW4⟩ : ∃ W4, w3.alloc (.cells #[.string P.nm, .slice e0 i0 j0, .slice e1 i1 j1, .slice e2 i2 j2] 26) = W4 := ⟨_, rfl⟩
  simp only [hg3, hW4] at hbx hB hx ⊢
  have H4 : Hid (Below q W W4) := hB
  have CC := code16_any (HE.out W4 hB) c HC.out
  have CA := alike_true hx.rd hbx.rd
  have x0 := hx.c0
  have x1 := hx.c1
  have x2 := hx.c2
  have x3 := hx.c3
  have y0 := hbx.c0
  have y1 := hbx.c1
  have y2 := hbx.c2
  have y3 := hbx.c3
  have hcc : (c == c) = true := by simp
  clear hbx ha hB hg3 hW4 hx H3 H2
  go_wp2_with (first
    | (go_at_call 8; refine CC.mono ?_; rintro e wa ⟨rfl, hwa⟩; obtain rfl := hwa.symm)
    | (go_at_call 9; refine CA.mono ?_; rintro e w5 ⟨rfl, hb⟩; have H5 : Hid (Below q W w5) := sub_le' H4.out hb (by have := H4.out.size; have := HQ.out; omega); have CW := awake_any w5 (HE.out w5 H5.out); clear hb CA x0 x1 x2 x3 y0 y1 y2 y3)
    | (go_at_call 10; refine CW.mono ?_; rintro e w6 ⟨rfl, hb⟩; have H6 : Hid (Below q W w6) := sub_le' H5.out hb (by have := H5.out.size; have := HQ.out; omega); clear hb CW))
  go_ret
  exact ⟨rfl, H6.out⟩
theorem prn_code (f : ByteArray) : (nprn f).2 = 0 ∨ (nprn f).2 = 13 := by
  rcases prn_two f with h | h
  · rw [h.2]; exact .inl rfl
  · rw [h.2]; exact .inr rfl
set_option maxHeartbeats 8000000 in
theorem prints16_walk {ea : Int → Addr} (f : ByteArray) (W : World) (hE : Errs ea W) (hf : f.size ≤ 140737488355328) :
    Calls Tryz.prog 5 #[.string f] W fun e w' => e = .returned (.bool true) ∧ Below W.heap.size W w' := by
  have CP := nprint_any (ea := ea) f W hE hf
  have HC : Hid ((nprn f).2 = 0 ∨ (nprn f).2 = 13) := prn_code f
  obtain ⟨q, hq⟩ : ∃ q, W.heap.size = q := ⟨_, rfl⟩
  have HQ : Hid (W.heap.size = q) := hq
  have HE : Hid (∀ Y, Below q W Y → Errs ea Y) := fun Y hY => hE.below (by rw [hq]; exact hY)
  rw [hq] at CP ⊢
  obtain ⟨n, hn⟩ : ∃ n, f.size = n := ⟨_, rfl⟩
  by_cases hz : 1000 < n
  · have hno : nprn f = (⟨#[]⟩, 13) := by
      unfold nprn
      rw [nprs_big (by rw [cat_size]; omega)]
      rfl
    rw [hno] at CP
    simp only [EV_ne (show (13 : Int) ≠ 0 by decide)] at CP
    have t0 : (n : Int) > 1000 := by omega
    have t1 : (1000 : Int) < (n : Int) := by omega
    clear hE hz hno
    go_enter Tryz.func5, Tryz.ntmps5
    go_upto_region 3 with (go_at_call 11; refine CP.mono ?_; rintro e w1 ⟨rfl, hb⟩; have H1 : Hid (Below q W w1) := hb; clear hb CP)
    have hE1 := HE.out w1 H1.out
    have k13 := (hE1.1 13 (by decide)).1
    simp only [eblk] at k13
    have q1 := eq_err hE1 (c := 13) (d := 13) (by decide) (by decide)
    have CW := awake_any w1 hE1
    clear hE1
    go_wp2_with (go_at_call 10; refine CW.mono ?_; rintro e w6 ⟨rfl, hb⟩; have H6 : Hid (Below q W w6) := sub_le' H1.out hb (by have := H1.out.size; have := HQ.out; omega); clear hb CW)
    go_ret
    exact ⟨rfl, H6.out⟩
  have t0 : ¬ (n : Int) > 1000 := by omega
  have t1 : ¬ (1000 : Int) < (n : Int) := by omega
  have HCR : Hid (∀ Y, Calls Tryz.prog 12 #[.string f] Y _) := fun Y => ref16_print f Y (by omega)
  obtain ⟨md, hmd⟩ : ∃ md, nprn f = md := ⟨_, rfl⟩
  rw [hmd] at CP HCR HC
  obtain ⟨s, c⟩ := md
  simp only at CP HCR HC
  clear hE hmd hz
  go_enter Tryz.func5, Tryz.ntmps5
  go_upto_region 5 with (go_at_call 11; refine CP.mono ?_; rintro e w1 ⟨rfl, hb⟩; have H1 : Hid (Below q W w1) := hb; clear hb CP)
  have CR := HCR.out w1
  go_upto_region 6 with (go_at_call 12; refine CR.mono ?_; rintro e w2 ⟨rfl, hb⟩; have H2 : Hid (Below q W w2) := sub_le' H1.out hb (by have := H1.out.size; have := HQ.out; omega); clear hb CR)
  have CC := code16_any (HE.out w2 H2.out) c HC.out
  have CW := awake_any w2 (HE.out w2 H2.out)
  have hcc : (c == c) = true := by simp
  have hss : (s.toList == s.toList) = true := by simp
  go_wp2_with (first
    | (go_at_call 8; refine CC.mono ?_; rintro e wa ⟨rfl, hwa⟩; obtain rfl := hwa.symm)
    | (go_at_call 10; refine CW.mono ?_; rintro e w6 ⟨rfl, hb⟩; have H6 : Hid (Below q W w6) := sub_le' H2.out hb (by have := H2.out.size; have := HQ.out; omega); clear hb CW))
  go_ret
  exact ⟨rfl, H6.out⟩
end Go.Proofs.YtchnkpgkckadmaaGreatDoor
namespace Go.Proofs.YtchnkpgkckadmaaGreatDoor
set_option linter.unusedSimpArgs false
set_option linter.unusedVariables false
open Go.ChangeShapes Go.WideShapes Go.ChangeAt Go.RowKit Go.Pin Go.Pat Go.Deep
/-- a text that came in -/
theorem open_text {H : Type} {enc : TypeId × Value → H} {W : World} {v : Value} {d : DataW H} {ps : List MemPlace} (hval : ∃ s, v = .string s)
    (h : DataW.Trod enc Tryz.prog W 0 (fun _ => true) true 9 v d ps) (hs : ∀ k ∈ d.weights Tryz.prog 9, k ≤ reachBytes) : ∃ s : ByteArray, v = .string s ∧ s.size ≤ 140737488355328 := by
  obtain ⟨s, rfl⟩ := hval
  obtain ⟨fuel, hf⟩ := h
  obtain ⟨s', h1, h2, _⟩ := DataW.trod_string Tryz.underlying9 hf
  simp only [Value.cells, List.cons.injEq, and_true, Value.string.injEq] at h1
  subst h1
  simp only [Prod.mk.injEq] at h2
  refine ⟨s, rfl, ?_⟩
  have := hs s.data.toList.length (by rw [h2.1]; simp [DataW.weights])
  unfold reachBytes at this
  have e : s.data.toList.length = s.size := by simp
  omega
theorem bytes_string : Tryz.prog.bytesOf 9 = 16 := by kernel_rfl
/-- words that came in -/
theorem open_words {H : Type} {enc : TypeId × Value → H} {W : World} {v : Value} {d : DataW H} {ps : List MemPlace} (hv : ∃ a n c, v = .slice a n c)
    (h : DataW.Trod enc Tryz.prog W 0 (fun _ => true) true 41 v d ps) (hs : ∀ k ∈ d.weights Tryz.prog 41, k ≤ reachBytes) :
    ∃ ws : List ByteArray, RdS W v ws ∧ (∀ x ∈ ws, x.size ≤ 140737488355328) ∧ (∀ a n c, v = .slice a n c → n ≤ c) ∧ ws.length ≤ 140737488355328 := by
  obtain ⟨a, n, c, rfl⟩ := hv
  obtain ⟨fuel, hf⟩ := h
  rcases open_strs Tryz.underlying41 Tryz.underlying9 (by kernel_rfl) hf with ⟨hcs, _⟩ | ⟨y, len, cap, m, Sx, hcs, _, hl, hm, hmm, hx, hc⟩
  · simp only [Value.cells, List.cons.injEq, and_true, Value.slice.injEq] at hcs
    obtain ⟨rfl, rfl, rfl⟩ := hcs
    exact ⟨[], ⟨none, 0, rfl, fun j hj => nomatch hj⟩, (fun x hx => nomatch hx), fun a n c h => by injection h with h1 h2 h3; omega, by simp⟩
  · simp only [Value.cells, List.cons.injEq, and_true, Value.slice.injEq] at hcs
    obtain ⟨rfl, rfl, rfl⟩ := hcs
    simp only [Prod.mk.injEq] at hx
    have hlm : n ≤ m := by rw [hmm]; split <;> omega
    refine ⟨(List.range n).map Sx, ⟨some y, c, by simp, fun j hj => ?_⟩, fun x hx' => ?_, fun a n c h => by injection h with h1 h2 h3; omega, ?_⟩
    · have hj' : j < n := by simpa using hj
      have h0 := (hc 0 (by omega)).1
      obtain ⟨b, o, rfl⟩ := add_spot h0
      have h1 := (hc j (by omega)).1
      rw [add_mid] at h1
      refine ⟨b, o, rfl, ?_⟩
      rw [h1]
      simp [List.getD, hj']
    · obtain ⟨i, hi, rfl⟩ := List.mem_map.1 hx'
      have := hs (Sx i).data.toList.length (by
        rw [hx.1]
        simp only [DataW.weights, Tryz.underlying41]
        exact List.mem_cons_of_mem _ (List.mem_append_left _ (weightsAll_mem (List.mem_map.2 ⟨i, hi, rfl⟩) (by simp [DataW.weights]))))
      unfold reachBytes at this
      have e : (Sx i).data.toList.length = (Sx i).size := by simp
      omega
    · have := hs ((n + (m - n)) * 16) (by
        rw [hx.1]
        simp only [DataW.weights, Tryz.underlying41]
        refine List.mem_cons.2 (.inl ?_)
        rw [bytes_string]
        simp)
      unfold reachBytes at this
      simp
      omega
end Go.Proofs.YtchnkpgkckadmaaGreatDoor
