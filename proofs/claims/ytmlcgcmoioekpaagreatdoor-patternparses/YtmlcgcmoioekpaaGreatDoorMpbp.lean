import Derived.Deep.CutBlock
import Derived.Test.YtmlcgcmoioekpaaGreatDoorMpbl
import Derived.Test.YtmlcgcmoioekpaaGreatDoorMpbo
namespace Go.Proofs.YtmlcgcmoioekpaaGreatDoor
set_option linter.unusedSimpArgs false
set_option linter.unusedVariables false
open Go.ChangeShapes Go.WideShapes Go.ChangeAt Go.RowKit Go.Pin Go.Pat
theorem strD (s : ByteArray) : (s.toList == [32, 32, 46, 46, 46]) = decide (s = dotR) := by rw [← str_eq, show dotR.toList = [32, 32, 46, 46, 46] by simp [dotR]]
/-- what Parse answers -/
def PrP (t : ByteArray) (q : Nat) (W : World) (e : Ending) (w' : World) : Prop := Below q W w' ∧ ∃ v, e = .returned (.tuple #[v, .int .i64 (prs t).2]) ∧ RdP w' v (prs t).1
theorem rdp_zpt (w : World) : RdP w (.agg zPat) zPt := rdp_zero w
theorem line_none {s : ByteArray} {W : World} (hs : s.size ≤ 10000) (h : lin s = none) : Calls Tryz.prog 49 #[.string s] W fun e w' => ∃ x : Int, e = .returned (.tuple #[.agg #[.int .i64 x, .slice none 0 0], .bool false]) ∧ Below W.heap.size W w' :=
  (line_any s W hs).mono fun e w' k => by
    rcases k.2 with ⟨_, x, k2⟩ | ⟨v, f, C, k1, _⟩
    · exact ⟨x, k2, k.1⟩
    · rw [h] at k1; cases k1
theorem line_some {s : ByteArray} {W : World} {f : Int} {C : List Int} (hs : s.size ≤ 10000) (h : lin s = some (f, C)) : Calls Tryz.prog 49 #[.string s] W fun e w' => ∃ a cap, e = .returned (.tuple #[.agg #[.int .i64 f, .slice a C.length cap], .bool true]) ∧ (f = 0 ∨ f = 1) ∧ C.length ≤ 100000 ∧ w'.ownsRow (W.heap.size + 1) 3 1 (.slice a C.length cap) C.length (C.map (Value.int .i64)) ∧ Below W.heap.size W w' :=
  (line_any s W hs).mono fun e w' k => by
    rcases k.2 with ⟨k1, _⟩ | ⟨v, f', C', k1, k2, k3, k4, k5⟩
    · rw [h] at k1; cases k1
    · rw [h] at k1
      injection k1 with k1
      injection k1 with k1 k1'
      subst k1 k1'
      obtain ⟨a, cap, rfl⟩ := own_slice' k5
      exact ⟨a, cap, k4, k2, k3, k5, k.1⟩
theorem lin_side {s : ByteArray} {f : Int} {C : List Int} (h : lin s = some (f, C)) : f = 0 ∨ f = 1 := by
  unfold lin at h
  split at h
  · cases h
  · split at h
    · obtain ⟨l, _, e⟩ := Option.map_eq_some_iff.1 h
      injection e with e
      exact .inl e.symm
    · split at h
      · obtain ⟨l, _, e⟩ := Option.map_eq_some_iff.1 h
        injection e with e
        exact .inr e.symm
      · cases h
theorem frmL_le : ∀ (R : List ByteArray) (i : Nat), 1 ≤ i → 1 ≤ frmL i R ∧ frmL i R ≤ i + R.length
  | [], i, h => ⟨Nat.le_refl _, by simp [frmL]; omega⟩
  | r :: rs, i, h => by
    have := frmL_le rs (i + 1) (by omega)
    unfold frmL
    rw [List.length_cons]
    split
    · omega
    · omega
set_option maxRecDepth 100000 in
set_option maxHeartbeats 8000000 in
theorem parse_any (t : ByteArray) (W : World) (ht : t.size ≤ 140737488355328) :
    Calls Tryz.prog 19 #[.string t] W fun e w' => PrP t W.heap.size W e w' := by
  obtain ⟨q, hq⟩ : ∃ q, W.heap.size = q := ⟨_, rfl⟩
  have hrow0 : (W.alloc (.cells zPat 26)).heap[q]? = some (.cells zPat 26) := by rw [← hq]; exact heap_alloc_new _ _
  have hb0 : Below q W (W.alloc (.cells zPat 26)) := by rw [← hq]; exact (Below.refl _ _).alloc (Nat.le_refl _) _
  have hs0 : (W.alloc (.cells zPat 26)).heap.size = q + 1 := by rw [size_alloc, hq]
  obtain ⟨W0, hW0⟩ : ∃ W0, W.alloc (.cells #[.string ⟨#[]⟩, .slice none 0 0, .slice none 0 0, .slice none 0 0] 26) = W0 := ⟨_, rfl⟩
  have hW0' : W.alloc (.cells zPat 26) = W0 := hW0
  rw [hW0'] at hrow0 hb0 hs0
  have H0 : Hid (Below q W W0 ∧ W0.heap.size = q + 1) := ⟨hb0, hs0⟩
  have hP : prs t = if 4096 < t.size then (zPt, 8)
    else if (rws t).2 ≠ t.size ∨ (rws t).1.length = 0 then (zPt, 8)
    else if hdOk ((rws t).1.getD 0 ⟨#[]⟩) = false then (zPt, 8)
    else match bfr (((rws t).1.take (frm (rws t).1 - 1)).drop 1) [] [] with
      | none => (zPt, 8)
      | some (b0, b1) => if frm (rws t).1 = 2 then (zPt, 8) else match mls ((rws t).1.drop (frm (rws t).1)) with
        | none => (zPt, 8)
        | some ls => if chk ⟨((rws t).1.getD 0 ⟨#[]⟩).extract 0 (((rws t).1.getD 0 ⟨#[]⟩).size - 1), b0, b1, ls⟩ ≠ 0 then (zPt, chk ⟨((rws t).1.getD 0 ⟨#[]⟩).extract 0 (((rws t).1.getD 0 ⟨#[]⟩).size - 1), b0, b1, ls⟩) else (⟨((rws t).1.getD 0 ⟨#[]⟩).extract 0 (((rws t).1.getD 0 ⟨#[]⟩).size - 1), b0, b1, ls⟩, 0) := rfl
  obtain ⟨n, hn⟩ : ∃ n, t.size = n := ⟨_, rfl⟩
  rw [hn] at hP ht
  rw [hq]
  clear hb0 hs0 hW0'
  by_cases hbig : 4096 < n
  · rw [if_pos hbig] at hP
    have HP : Hid (prs t = (zPt, 8)) := hP
    have b0 : (4096 : Int) < (n : Int) := by omega
    clear hP hbig
    go_enter Tryz.func19, Tryz.ntmps19
    go_wp2_with (with_reducible refine at_list ?_; refine wpList_store_row rfl 26 (.tmp 2) (.tmp 20) rfl q zPat rfl rfl 26 zPat hrow0 (ip4 _ _ _ _) rfl (by simp [zPat, Value.oneCell']) ?_)
    try simp only [Exit.inBlock, Exit.then]
    refine bodyPost_ret (v := .tuple #[.agg zPat, .int .i64 8]) ?_ rfl ⟨below_setRow (H0.out.1) _ (Nat.le_refl _) _, .agg zPat, by rw [HP.out], by rw [HP.out]; exact rdp_zpt _⟩
    exact results_row_tmp (P := Tryz.prog) (fn := Tryz.f19) (p := 2) (u := 3) (ty := 26) rfl _ _ q 26 _ (0, 0) _ _ rfl (setRow_heap _ _ _ _ 26 _ hrow0) Tryz.underlying26 rfl (ip4 _ _ _ _) rfl
  rw [if_neg hbig] at hP
  have b0 : ¬ (4096 : Int) < (n : Int) := by omega
  have CR := rows_any t W0 (by omega)
  rw [H0.out.2] at CR
  have hRm := rwsN_mem t t.size
  have hRl := (rwsN_le t t.size).2
  have hRr : rwsN t t.size = rws t := rfl
  rw [hRr, hn] at hRm hRl
  rw [hn] at CR
  obtain ⟨R, hR⟩ : ∃ R, rws t = R := ⟨_, rfl⟩
  rw [hR] at CR hP hRm hRl
  obtain ⟨L, at_⟩ := R
  simp only at CR hP hRm hRl
  obtain ⟨m, hm⟩ : ∃ m, L.length = m := ⟨_, rfl⟩
  rw [hm] at CR hP hRl
  have HLM : Hid (L.length = m ∧ ∀ x ∈ L, x.size ≤ 4096) := ⟨hm, fun x hx => by have := hRm x hx; omega⟩
  clear hbig hR hRm hm hRr
  by_cases hbad : at_ ≠ n ∨ m = 0
  · rw [if_pos hbad] at hP
    have HP : Hid (prs t = (zPt, 8)) := hP
    clear hP
    by_cases ha : at_ = n
    · have hm0 : ((m : Int) == 0) = true := by
        have : m = 0 := hbad.resolve_left (fun h => h ha)
        simp [this]
      rw [decide_eq_true ha] at CR
      clear hbad ha
      go_enter Tryz.func19, Tryz.ntmps19
      go_upto_region 5 with (go_at_call 48; refine CR.mono ?_; rintro e w1 ⟨v, rfl, ho, hb⟩; obtain ⟨al, cl, rfl⟩ := own_slice' ho; have HB1 : Hid (Below q W w1) := H0.out.1.trans (hb.mono (by omega)); have hrow1 : w1.heap[q]? = some (.cells zPat 26) := (hb.block q (by omega)).trans hrow0; clear ho hb CR)
      go_wp2_with (with_reducible refine at_list ?_; refine wpList_store_row rfl 26 (.tmp 2) (.tmp 33) rfl q zPat rfl rfl 26 zPat hrow1 (ip4 _ _ _ _) rfl (by simp [zPat, Value.oneCell']) ?_)
      try simp only [Exit.inBlock, Exit.then]
      refine bodyPost_ret (v := .tuple #[.agg zPat, .int .i64 8]) ?_ rfl ⟨below_setRow (HB1.out) _ (Nat.le_refl _) _, .agg zPat, by rw [HP.out], by rw [HP.out]; exact rdp_zpt _⟩
      exact results_row_tmp (P := Tryz.prog) (fn := Tryz.f19) (p := 2) (u := 3) (ty := 26) rfl _ _ q 26 _ (0, 0) _ _ rfl (setRow_heap _ _ _ _ 26 _ hrow1) Tryz.underlying26 rfl (ip4 _ _ _ _) rfl
    · rw [decide_eq_false ha] at CR
      clear hbad ha
      go_enter Tryz.func19, Tryz.ntmps19
      go_upto_region 5 with (go_at_call 48; refine CR.mono ?_; rintro e w1 ⟨v, rfl, ho, hb⟩; obtain ⟨al, cl, rfl⟩ := own_slice' ho; have HB1 : Hid (Below q W w1) := H0.out.1.trans (hb.mono (by omega)); have hrow1 : w1.heap[q]? = some (.cells zPat 26) := (hb.block q (by omega)).trans hrow0; clear ho hb CR)
      go_wp2_with (with_reducible refine at_list ?_; refine wpList_store_row rfl 26 (.tmp 2) (.tmp 33) rfl q zPat rfl rfl 26 zPat hrow1 (ip4 _ _ _ _) rfl (by simp [zPat, Value.oneCell']) ?_)
      try simp only [Exit.inBlock, Exit.then]
      refine bodyPost_ret (v := .tuple #[.agg zPat, .int .i64 8]) ?_ rfl ⟨below_setRow (HB1.out) _ (Nat.le_refl _) _, .agg zPat, by rw [HP.out], by rw [HP.out]; exact rdp_zpt _⟩
      exact results_row_tmp (P := Tryz.prog) (fn := Tryz.f19) (p := 2) (u := 3) (ty := 26) rfl _ _ q 26 _ (0, 0) _ _ rfl (setRow_heap _ _ _ _ 26 _ hrow1) Tryz.underlying26 rfl (ip4 _ _ _ _) rfl
  rw [if_neg hbad] at hP
  have ha : at_ = n := by
    by_cases h : at_ = n
    · exact h
    · exact absurd (.inl h) hbad
  have hm0 : m ≠ 0 := fun h => hbad (.inr h)
  have em0 : ((m : Int) == 0) = false := by simp; omega
  rw [decide_eq_true ha] at CR
  clear hbad ha
  obtain ⟨h, hh⟩ : ∃ h, L.getD 0 ⟨#[]⟩ = h := ⟨_, rfl⟩
  rw [hh] at hP
  have hhz : h.size ≤ 4096 := by rw [← hh]; exact HLM.out.2 _ (by have := HLM.out.1; simp [List.getD, show 0 < L.length by omega])
  have HPP : Hid _ := hP
  have HH : Hid (L.getD 0 ⟨#[]⟩ = h) := hh
  clear hP hh
  go_enter Tryz.func19, Tryz.ntmps19
  go_upto_region 6 with (go_at_call 48; refine CR.mono ?_; rintro e w1 ⟨v, rfl, ho, hb⟩; obtain ⟨al, cl, rfl⟩ := own_slice' ho; have HB1 : Hid (Below q W w1) := H0.out.1.trans (hb.mono (by omega)); have hrow1 : w1.heap[q]? = some (.cells zPat 26) := (hb.block q (by omega)).trans hrow0; have HLR : Hid (RdS w1 (.slice al m cl) L) := own_strs (by rw [HLM.out.1]; exact ho); have HS1 : Hid (q < w1.heap.size) := (Array.getElem?_eq_some_iff.1 hrow1).1; clear ho hb CR)
  obtain ⟨-, gL, oL, rfl, hcL⟩ := HLR.out.at (j := 0) (by omega)
  have cL := hcL _ (Below.refl _ _)
  rw [HH.out, Nat.add_zero] at cL
  have mpos : (0 : Int) < (m : Int) := by omega
  clear hcL
  by_cases hk : h.size = 0
  · have HP : Hid (prs t = (zPt, 8)) := by
      show prs t = (zPt, 8)
      rw [HPP.out, if_pos (by unfold hdOk; simp [hk])]
    go_upto_region 8 with fail
    go_wp2_with (with_reducible refine at_list ?_; refine wpList_store_row rfl 26 (.tmp 2) (.tmp 58) rfl q zPat rfl rfl 26 zPat hrow1 (ip4 _ _ _ _) rfl (by simp [zPat, Value.oneCell']) ?_)
    try simp only [Exit.inBlock, Exit.then]
    refine bodyPost_ret (v := .tuple #[.agg zPat, .int .i64 8]) ?_ rfl ⟨below_setRow (HB1.out) _ (Nat.le_refl _) _, .agg zPat, by rw [HP.out], by rw [HP.out]; exact rdp_zpt _⟩
    exact results_row_tmp (P := Tryz.prog) (fn := Tryz.f19) (p := 2) (u := 3) (ty := 26) rfl _ _ q 26 _ (0, 0) _ _ rfl (setRow_heap _ _ _ _ 26 _ hrow1) Tryz.underlying26 rfl (ip4 _ _ _ _) rfl
  obtain ⟨j, hj⟩ : ∃ j, h.size = j + 1 := ⟨h.size - 1, by omega⟩
  have hOk : hdOk h = (decide (byt h j = 58) && isNm (h.extract 0 j)) := by unfold hdOk; rw [hj]; simp
  have hjl : j < h.size := by omega
  have hsub : ((j + 1 : Nat) : Int) - 1 = (j : Int) := by omega
  clear hk
  by_cases hc : byt h j = 58
  case neg =>
    have HP : Hid (prs t = (zPt, 8)) := by
      show prs t = (zPt, 8)
      rw [HPP.out, if_pos (by rw [hOk]; simp [hc])]
    have e1 : ((h[j].toNat : Int) != 58) = true := by rw [byt_get h j hjl] at hc; simp; omega
    clear hOk hc
    go_upto_region 8 with fail
    go_wp2_with (with_reducible refine at_list ?_; refine wpList_store_row rfl 26 (.tmp 2) (.tmp 58) rfl q zPat rfl rfl 26 zPat hrow1 (ip4 _ _ _ _) rfl (by simp [zPat, Value.oneCell']) ?_)
    try simp only [Exit.inBlock, Exit.then]
    refine bodyPost_ret (v := .tuple #[.agg zPat, .int .i64 8]) ?_ rfl ⟨below_setRow (HB1.out) _ (Nat.le_refl _) _, .agg zPat, by rw [HP.out], by rw [HP.out]; exact rdp_zpt _⟩
    exact results_row_tmp (P := Tryz.prog) (fn := Tryz.f19) (p := 2) (u := 3) (ty := 26) rfl _ _ q 26 _ (0, 0) _ _ rfl (setRow_heap _ _ _ _ 26 _ hrow1) Tryz.underlying26 rfl (ip4 _ _ _ _) rfl
  have e1 : ((h[j].toNat : Int) != 58) = false := by
    have := hc
    rw [byt_get h j hjl] at this; simp; omega
  have hez : (h.extract 0 j).size ≤ 4096 := by have := extract_size h 0 j; omega
  have hnmEq : h.extract 0 (h.size - 1) = h.extract 0 j := by rw [hj]; rfl
  rw [hnmEq] at HPP
  obtain ⟨nm, hnm⟩ : ∃ nm, h.extract 0 j = nm := ⟨_, rfl⟩
  rw [hnm] at hOk hez HPP
  by_cases hin : isNm nm = true
  case neg =>
    have hin' : isNm nm = false := by simpa using hin
    have HP : Hid (prs t = (zPt, 8)) := by
      show prs t = (zPt, 8)
      rw [HPP.out, if_pos (by rw [hOk, hin']; simp)]
    clear hOk hc hin
    go_upto_region 8 with (go_at_call 44; refine (isName_any nm w1 (by omega)).mono ?_; rintro e w2 ⟨rfl, rfl⟩)
    go_wp2_with (with_reducible refine at_list ?_; refine wpList_store_row rfl 26 (.tmp 2) (.tmp 58) rfl q zPat rfl rfl 26 zPat hrow1 (ip4 _ _ _ _) rfl (by simp [zPat, Value.oneCell']) ?_)
    try simp only [Exit.inBlock, Exit.then]
    refine bodyPost_ret (v := .tuple #[.agg zPat, .int .i64 8]) ?_ rfl ⟨below_setRow (HB1.out) _ (Nat.le_refl _) _, .agg zPat, by rw [HP.out], by rw [HP.out]; exact rdp_zpt _⟩
    exact results_row_tmp (P := Tryz.prog) (fn := Tryz.f19) (p := 2) (u := 3) (ty := 26) rfl _ _ q 26 _ (0, 0) _ _ rfl (setRow_heap _ _ _ _ 26 _ hrow1) Tryz.underlying26 rfl (ip4 _ _ _ _) rfl
  rw [if_neg (by rw [hOk, hin, hc]; simp)] at HPP
  clear hOk hc
  have dj : decide ((j : Int) < 0) = false := decide_eq_false (by omega)
  go_upto_region 10 with (go_at_call 44; refine (isName_any nm w1 (by omega)).mono ?_; rintro e w2 ⟨rfl, rfl⟩)
  have hps0 := ps_start w2 nm
  have hlr := HLR.out
  obtain ⟨gp, hgp⟩ : ∃ gp, w2.heap.size = gp := ⟨_, rfl⟩
  obtain ⟨W3, hW3⟩ : ∃ W3, w2.alloc (.cells #[.string nm, .slice none 0 0, .slice none 0 0, .slice none 0 0] 26) = W3 := ⟨_, rfl⟩
  simp only [hgp, hW3] at hps0 ⊢
  have HGP : Hid (w2.heap.size = gp ∧ q < gp) := ⟨hgp, by rw [← hgp]; exact HS1.out⟩
  have HP3 : Hid (PS gp w2 nm (.slice none 0 0) (.slice none 0 0) (.slice none 0 0) [] [] [] W3) := hps0
  have HC : Hid (∀ i, i < m → ∀ Y, Below gp w2 Y → Y.cell? ⟨gL, oL + i, none⟩ = some (.string (L.getD i ⟨#[]⟩))) := fun i hi Y hY => by
    obtain ⟨_, b, o, e, hc⟩ := hlr.at hi
    injection e with e
    injection e with e1 e2
    subst e1 e2
    exact hc Y (by rw [HGP.out.1]; exact hY)
  have HRQ : Hid (∀ Y, Below gp w2 Y → Y.heap[q]? = some (.cells zPat 26) ∧ Below q W Y) := fun Y hY => ⟨(hY.block q HGP.out.2).trans hrow1, HB1.out.trans (hY.mono (Nat.le_of_lt HGP.out.2))⟩
  obtain ⟨F, hF⟩ : ∃ F, frm L = F := ⟨_, rfl⟩
  rw [hF] at HPP
  have HF : Hid (frm L = F) := hF
  clear hps0 hlr hgp hW3 hF cL hez hnm hnmEq dj hhz hsub
  go_upto_block 0 with fail
  go_cut [8, 9] from 65 to 77 (fun v8 v9 wx => v8 = .int .i64 (F : Nat) ∧ wx = W3)
  case first =>
    go_wp2_with fail
    go_loopw [8, 9] (fun v8 v9 wr => ∃ i : Nat, 1 ≤ i ∧ i ≤ m ∧ v9 = .int .i64 i ∧ v8 = .int .i64 1 ∧ frmL i (L.drop i) = F ∧ wr = W3) (fun _ v _ => m - (intOf v).toNat)
    case atStart => exact ⟨1, Nat.le_refl _, by omega, rfl, rfl, HF.out, rfl⟩
    case round =>
      obtain ⟨i, hi1, hi, rfl, rfl, hfr, rfl⟩ := hrel
      by_cases hlt : i < m
      · have b1 : (i : Int) < (m : Int) := by omega
        have c := HC.out i hlt _ HP3.out.old
        have hd := strD (L.getD i ⟨#[]⟩)
        have hdr : L.drop i = L.getD i ⟨#[]⟩ :: L.drop (i + 1) := by
          have hil : i < L.length := by rw [HLM.out.1]; exact hlt
          rw [List.drop_eq_getElem_cons hil]
          simp [List.getD, hil]
        rw [hdr] at hfr
        have hfu : frmL i (L.getD i ⟨#[]⟩ :: L.drop (i + 1)) = if L.getD i ⟨#[]⟩ = dotR then i + 1 else frmL (i + 1) (L.drop (i + 1)) := rfl
        rw [hfu] at hfr
        obtain ⟨x, hx⟩ : ∃ x, L.getD i ⟨#[]⟩ = x := ⟨_, rfl⟩
        rw [hx] at c hd hfr
        clear hx hdr hfu
        by_cases hxd : x = dotR
        · rw [decide_eq_true hxd] at hd
          rw [if_pos hxd] at hfr
          have HFR : Hid (i + 1 = F) := hfr
          clear hxd hfr
          go_wp2
          go_meet
          case rel => exact ⟨congrArg (Value.int .i64) (by have := HFR.out; omega), rfl⟩
        · rw [decide_eq_false hxd] at hd
          rw [if_neg hxd] at hfr
          have HFR : Hid (frmL (i + 1) (L.drop (i + 1)) = F) := hfr
          clear hxd hfr
          go_wp2
          exact ⟨⟨i + 1, by omega, hlt, congrArg (Value.int .i64) (Int.natCast_succ i).symm, rfl, HFR.out, trivial⟩, by show m - ((i : Int) + 1).toNat < m - ((i : Int)).toNat; omega⟩
      · have b1 : ¬ (i : Int) < (m : Int) := by omega
        have HFR : Hid (F = 1) := by
          show F = 1
          rw [← hfr, List.drop_eq_nil_of_le (by rw [HLM.out.1]; omega)]
          rfl
        clear hfr
        go_wp2
        go_meet
        case rel => exact ⟨congrArg (Value.int .i64) (by have := HFR.out; omega), rfl⟩
  case rest =>
    obtain ⟨rfl, rfl⟩ := hcut
    have hFb := frmL_le (L.drop 1) 1 (Nat.le_refl _)
    have hFb1 : 1 ≤ F := by rw [← HF.out]; exact hFb.1
    have hFb2 : F ≤ m := by have := hFb.2; rw [show frmL 1 (L.drop 1) = F from HF.out, List.length_drop, HLM.out.1] at this; omega
    obtain ⟨B, hB⟩ : ∃ B, (L.take (F - 1)).drop 1 = B := ⟨_, rfl⟩
    rw [hB] at HPP
    have HN : Hid (bfr B [] [] = none → prs t = (zPt, 8)) := fun h => by rw [HPP.out, h]
    have HB0 : Hid ((L.take (F - 1)).drop 1 = B) := hB
    have hF1 : wrap64 ((F : Int) - 1) = (F : Int) - 1 := IntWalk.wrap64_in _ ⟨by omega, by omega⟩
    clear hB hFb hF1
    go_wp2
    go_loopw [10] (fun v10 wr => ∃ (i : Nat) (v0 v1 : Value) (b0 b1 : List Int), 1 ≤ i ∧ (i ≤ F - 1 ∨ i = 1) ∧ v10 = .int .i64 i ∧ bfr ((L.take (F - 1)).drop i) b0 b1 = bfr B [] [] ∧ PS gp w2 nm v0 v1 (.slice none 0 0) b0 b1 [] wr) (fun v _ => F - (intOf v).toNat)
    case atStart => exact ⟨1, .slice none 0 0, .slice none 0 0, [], [], Nat.le_refl _, .inr rfl, rfl, by rw [HB0.out], HP3.out⟩
    case round =>
      obtain ⟨i, v0, v1, b0, b1, hi1, hi, rfl, hbf, hP⟩ := hrel
      obtain ⟨a0, k0, rfl⟩ := hP.f0.slice
      obtain ⟨a1, k1, rfl⟩ := hP.f1.slice
      have HPW : Hid (PS gp w2 nm (.slice a0 b0.length k0) (.slice a1 b1.length k1) (.slice none 0 0) b0 b1 [] wr) := hP
      by_cases hlt : i < F - 1
      · have hlt' : (i : Int) < (F : Int) - 1 := by omega
        have him : i < m := by omega
        have c := HC.out i him _ hP.old
        have hrz : (L.getD i ⟨#[]⟩).size ≤ 4096 := HLM.out.2 _ (by have := HLM.out.1; simp [List.getD, show i < L.length by omega])
        have hdr : (L.take (F - 1)).drop i = L.getD i ⟨#[]⟩ :: (L.take (F - 1)).drop (i + 1) := by
          have hil : i < (L.take (F - 1)).length := by rw [List.length_take, HLM.out.1]; omega
          rw [List.drop_eq_getElem_cons hil, List.getElem_take]
          have hil2 : i < L.length := by rw [HLM.out.1]; exact him
          simp [List.getD, hil2]
        rw [hdr] at hbf
        have bi : (i : Int) < (m : Int) := by omega
        obtain ⟨r, hr⟩ : ∃ r, L.getD i ⟨#[]⟩ = r := ⟨_, rfl⟩
        rw [hr] at c hrz hbf
        obtain ⟨n0, hn0⟩ : ∃ n0, b0.length = n0 := ⟨_, rfl⟩
        obtain ⟨n1, hn1⟩ : ∃ n1, b1.length = n1 := ⟨_, rfl⟩
        rw [hn0, hn1] at HPW
        clear hdr hr hP
        cases hlin : lin r with
        | none =>
          have HP : Hid (prs t = (zPt, 8)) := HN.out (by rw [← hbf]; simp [bfr, hlin])
          have CL := line_none (W := wr) (by omega) hlin
          obtain ⟨qr, hqr⟩ : ∃ qr, wr.heap.size = qr := ⟨_, rfl⟩
          rw [hqr] at CL
          clear hbf hlin
          go_upto_region 20 with (go_at_call 49; refine CL.mono ?_; rintro e w4 ⟨xx, rfl, hb⟩; have HP4 : Hid (PS gp w2 nm (.slice a0 n0 k0) (.slice a1 n1 k1) (.slice none 0 0) b0 b1 [] w4) := HPW.out.below (by rw [hqr]; exact hb); clear hb CL)
          have hp5 := HP4.out.below ((Below.refl w4.heap.size w4).alloc (Nat.le_refl _) (.cells #[.int .i64 xx, .slice none 0 0] 58))
          obtain ⟨W5, hW5⟩ : ∃ W5, w4.alloc (.cells #[.int .i64 xx, .slice none 0 0] 58) = W5 := ⟨_, rfl⟩
          rw [hW5] at hp5
          simp only [hW5]
          have hrw := HRQ.out W5 hp5.old
          have hrow5 := hrw.1
          have HB5 : Hid (Below q W W5) := hrw.2
          clear hrw hp5 hW5
          go_wp2_with (with_reducible refine at_list ?_; refine wpList_store_row rfl 26 (.tmp 2) (.tmp 115) rfl q zPat rfl rfl 26 zPat hrow5 (ip4 _ _ _ _) rfl (by simp [zPat, Value.oneCell']) ?_)
          try simp only [Exit.inBlock, Exit.then]
          refine bodyPost_ret (v := .tuple #[.agg zPat, .int .i64 8]) ?_ rfl ⟨below_setRow (HB5.out) _ (Nat.le_refl _) _, .agg zPat, by rw [HP.out], by rw [HP.out]; exact rdp_zpt _⟩
          exact results_row_tmp (P := Tryz.prog) (fn := Tryz.f19) (p := 2) (u := 3) (ty := 26) rfl _ _ q 26 _ (0, 0) _ _ rfl (setRow_heap _ _ _ _ 26 _ hrow5) Tryz.underlying26 rfl (ip4 _ _ _ _) rfl
        | some fC =>
          obtain ⟨f, C⟩ := fC
          have hsd := lin_side hlin
          have CL := line_some (W := wr) (by omega) hlin
          obtain ⟨qr, hqr⟩ : ∃ qr, wr.heap.size = qr := ⟨_, rfl⟩
          rw [hqr] at CL
          have HLIN : Hid (lin r = some (f, C)) := hlin
          have HBF : Hid (bfr (r :: (L.take (F - 1)).drop (i + 1)) b0 b1 = bfr B [] []) := hbf
          have HLT : Hid (i < F - 1 ∧ b0.length = n0 ∧ b1.length = n1) := ⟨hlt, hn0, hn1⟩
          clear hbf hlin hn0 hn1
          go_upto_region 20 with (go_at_call 49; refine CL.mono ?_; rintro e w4 ⟨ac, cc, rfl, -, hcl, hoc, hb⟩; have HP4 : Hid (PS gp w2 nm (.slice a0 n0 k0) (.slice a1 n1 k1) (.slice none 0 0) b0 b1 [] w4) := HPW.out.below (by rw [hqr]; exact hb); have HU4 : Hid (FtN (Fr gp (.slice none 0 0) w4) w4 (.slice ac C.length cc) C) := HPW.out.new hb.size (by rw [hqr]; exact Nat.le_succ _) (own_ft hoc rfl (by omega)); clear hb CL hcl hoc)
          have hal := (Below.refl w4.heap.size w4).alloc (Nat.le_refl _) (.cells #[.int .i64 f, .slice ac C.length cc] 58)
          have hxr : (w4.alloc (.cells #[.int .i64 f, .slice ac C.length cc] 58)).heap[w4.heap.size]? = some (.cells #[.int .i64 f, .slice ac C.length cc] 58) := heap_alloc_new _ _
          obtain ⟨W5, hW5⟩ : ∃ W5, w4.alloc (.cells #[.int .i64 f, .slice ac C.length cc] 58) = W5 := ⟨_, rfl⟩
          obtain ⟨xb, hxb⟩ : ∃ xb, w4.heap.size = xb := ⟨_, rfl⟩
          rw [hW5, hxb] at hxr
          rw [hW5] at hal
          simp only [hW5, hxb]
          have HP5 : Hid (PS gp w2 nm (.slice a0 n0 k0) (.slice a1 n1 k1) (.slice none 0 0) b0 b1 [] W5) := HP4.out.below hal
          have HU5 : Hid (FtN (Fr gp (.slice none 0 0) W5) W5 (.slice ac C.length cc) C) := HU4.out.kp (HP4.out.kb hal)
          have x0 : W5.cell? ⟨xb, 0, none⟩ = some (.int .i64 f) := by rw [cell_of_row _ _ _ _ _ _ hxr]; rfl
          have x1 : W5.cell? ⟨xb, 1, none⟩ = some (.slice ac C.length cc) := by rw [cell_of_row _ _ _ _ _ _ hxr]; rfl
          have y1 := HP5.out.c1
          have y2 := HP5.out.c2
          have z1 := HP5.out.fz 1
          have z2 := HP5.out.fz 2
          have hrow5 := (HRQ.out W5 HP5.out.old).1
          have HB5 : Hid (Below q W W5) := (HRQ.out W5 HP5.out.old).2
          clear hal hxr hW5 hxb c HP4 HU4
          rcases hsd with rfl | rfl
          · by_cases g0 : 0 < n0
            · have HP : Hid (prs t = (zPt, 8)) := HN.out (by rw [← HBF.out]; simp [bfr, HLIN.out, HLT.out.2.1, g0])
              have t0 : (0 : Int) < (n0 : Int) := by omega
              have t1 : decide ((0 : Int) < (n0 : Int)) = true := decide_eq_true t0
              go_wp2_with (with_reducible refine at_list ?_; refine wpList_store_row rfl 26 (.tmp 2) (.tmp 115) rfl q zPat rfl rfl 26 zPat hrow5 (ip4 _ _ _ _) rfl (by simp [zPat, Value.oneCell']) ?_)
              try simp only [Exit.inBlock, Exit.then]
              refine bodyPost_ret (v := .tuple #[.agg zPat, .int .i64 8]) ?_ rfl ⟨below_setRow (HB5.out) _ (Nat.le_refl _) _, .agg zPat, by rw [HP.out], by rw [HP.out]; exact rdp_zpt _⟩
              exact results_row_tmp (P := Tryz.prog) (fn := Tryz.f19) (p := 2) (u := 3) (ty := 26) rfl _ _ q 26 _ (0, 0) _ _ rfl (setRow_heap _ _ _ _ 26 _ hrow5) Tryz.underlying26 rfl (ip4 _ _ _ _) rfl
            have t0 : ¬ (0 : Int) < (n0 : Int) := by omega
            have t1 : decide ((0 : Int) < (n0 : Int)) = false := decide_eq_false t0
            by_cases g1 : 0 < n1
            · have HP : Hid (prs t = (zPt, 8)) := HN.out (by rw [← HBF.out]; simp [bfr, HLIN.out, HLT.out.2.2, g1])
              have t2 : (0 : Int) < (n1 : Int) := by omega
              have t3 : decide ((0 : Int) < (n1 : Int)) = true := decide_eq_true t2
              go_wp2_with (with_reducible refine at_list ?_; refine wpList_store_row rfl 26 (.tmp 2) (.tmp 115) rfl q zPat rfl rfl 26 zPat hrow5 (ip4 _ _ _ _) rfl (by simp [zPat, Value.oneCell']) ?_)
              try simp only [Exit.inBlock, Exit.then]
              refine bodyPost_ret (v := .tuple #[.agg zPat, .int .i64 8]) ?_ rfl ⟨below_setRow (HB5.out) _ (Nat.le_refl _) _, .agg zPat, by rw [HP.out], by rw [HP.out]; exact rdp_zpt _⟩
              exact results_row_tmp (P := Tryz.prog) (fn := Tryz.f19) (p := 2) (u := 3) (ty := 26) rfl _ _ q 26 _ (0, 0) _ _ rfl (setRow_heap _ _ _ _ 26 _ hrow5) Tryz.underlying26 rfl (ip4 _ _ _ _) rfl
            have t2 : ¬ (0 : Int) < (n1 : Int) := by omega
            have t3 : decide ((0 : Int) < (n1 : Int)) = false := decide_eq_false t2
            have HNX : Hid (bfr ((L.take (F - 1)).drop (i + 1)) C b1 = bfr B [] []) := by show _ = _; rw [← HBF.out]; simp [bfr, HLIN.out, HLT.out.2.1, HLT.out.2.2, g0, g1]
            have HP6 : Hid _ := HP5.out.set1 HU5.out
            go_wp2
            exact ⟨⟨i + 1, .slice ac C.length cc, .slice a1 n1 k1, C, b1, by omega, .inl HLT.out.1, congrArg (Value.int .i64) (Int.natCast_succ i).symm, HNX.out, HP6.out⟩, by show F - ((i : Int) + 1).toNat < F - ((i : Int)).toNat; have := HLT.out.1; omega⟩
          · by_cases g1 : 0 < n1
            · have HP : Hid (prs t = (zPt, 8)) := HN.out (by rw [← HBF.out]; simp [bfr, HLIN.out, HLT.out.2.2, g1])
              have t2 : (0 : Int) < (n1 : Int) := by omega
              have t3 : decide ((0 : Int) < (n1 : Int)) = true := decide_eq_true t2
              go_wp2_with (with_reducible refine at_list ?_; refine wpList_store_row rfl 26 (.tmp 2) (.tmp 115) rfl q zPat rfl rfl 26 zPat hrow5 (ip4 _ _ _ _) rfl (by simp [zPat, Value.oneCell']) ?_)
              try simp only [Exit.inBlock, Exit.then]
              refine bodyPost_ret (v := .tuple #[.agg zPat, .int .i64 8]) ?_ rfl ⟨below_setRow (HB5.out) _ (Nat.le_refl _) _, .agg zPat, by rw [HP.out], by rw [HP.out]; exact rdp_zpt _⟩
              exact results_row_tmp (P := Tryz.prog) (fn := Tryz.f19) (p := 2) (u := 3) (ty := 26) rfl _ _ q 26 _ (0, 0) _ _ rfl (setRow_heap _ _ _ _ 26 _ hrow5) Tryz.underlying26 rfl (ip4 _ _ _ _) rfl
            have t2 : ¬ (0 : Int) < (n1 : Int) := by omega
            have t3 : decide ((0 : Int) < (n1 : Int)) = false := decide_eq_false t2
            have HNX : Hid (bfr ((L.take (F - 1)).drop (i + 1)) b0 C = bfr B [] []) := by show _ = _; rw [← HBF.out]; simp [bfr, HLIN.out, HLT.out.2.2, g1]
            have HP6 : Hid _ := HP5.out.set2 HU5.out
            go_wp2
            exact ⟨⟨i + 1, .slice a0 n0 k0, .slice ac C.length cc, b0, C, by omega, .inl HLT.out.1, congrArg (Value.int .i64) (Int.natCast_succ i).symm, HNX.out, HP6.out⟩, by show F - ((i : Int) + 1).toNat < F - ((i : Int)).toNat; have := HLT.out.1; omega⟩
      · have hlt' : ¬ (i : Int) < (F : Int) - 1 := by omega
        have hnil : (L.take (F - 1)).drop i = [] := List.drop_eq_nil_of_le (by rw [List.length_take, HLM.out.1]; omega)
        rw [hnil] at hbf
        have hsm : bfr B [] [] = some (b0, b1) := by rw [← hbf]; rfl
        have HPS : Hid _ := HPP.out
        rw [hsm] at HPS
        obtain ⟨n0, hn0⟩ : ∃ n0, b0.length = n0 := ⟨_, rfl⟩
        obtain ⟨n1, hn1⟩ : ∃ n1, b1.length = n1 := ⟨_, rfl⟩
        rw [hn0, hn1] at HPW
        have hrow5 := (HRQ.out wr HPW.out.old).1
        have HB5 : Hid (Below q W wr) := (HRQ.out wr HPW.out.old).2
        clear hnil hbf hsm hP hn0 hn1 hi
        by_cases hF2 : F = 2
        · have HP : Hid (prs t = (zPt, 8)) := by show prs t = _; rw [HPS.out]; simp only [hF2, if_true]
          have t2 : ((F : Int) == 2) = true := by rw [hF2]; rfl
          clear hF2
          go_upto_region 24 with fail
          go_wp2_with (with_reducible refine at_list ?_; refine wpList_store_row rfl 26 (.tmp 2) (.tmp 124) rfl q zPat rfl rfl 26 zPat hrow5 (ip4 _ _ _ _) rfl (by simp [zPat, Value.oneCell']) ?_)
          try simp only [Exit.inBlock, Exit.then]
          refine bodyPost_ret (v := .tuple #[.agg zPat, .int .i64 8]) ?_ rfl ⟨below_setRow (HB5.out) _ (Nat.le_refl _) _, .agg zPat, by rw [HP.out], by rw [HP.out]; exact rdp_zpt _⟩
          exact results_row_tmp (P := Tryz.prog) (fn := Tryz.f19) (p := 2) (u := 3) (ty := 26) rfl _ _ q 26 _ (0, 0) _ _ rfl (setRow_heap _ _ _ _ 26 _ hrow5) Tryz.underlying26 rfl (ip4 _ _ _ _) rfl
        have HQ : Hid (prs t = match mls (L.drop F) with
                | none => (zPt, 8)
                | some ls => if chk ⟨nm, b0, b1, ls⟩ ≠ 0 then (zPt, chk ⟨nm, b0, b1, ls⟩) else (⟨nm, b0, b1, ls⟩, 0)) := by
          show prs t = _
          rw [HPS.out]
          simp only [hF2, if_false]
        have t2 : ((F : Int) == 2) = false := by simp; omega
        clear HPS hF2 hlt
        go_wp2
        have HM0 : Hid (mls (L.drop F) = none → prs t = (zPt, 8)) := fun h => by rw [HQ.out, h]
        have HPW' : Hid (PS gp w2 nm (.slice a0 n0 k0) (.slice a1 n1 k1) (.slice none 0 0) b0 b1 [] wr) := HPW.out
        rename_i wz
        go_loopw [13] (fun v13 wr => ∃ (i : Nat) (vl : Value) (fs : List Lv), F ≤ i ∧ i ≤ m ∧ v13 = .int .i64 i ∧ fs.length + F = i ∧ mls (L.drop F) = (mls (L.drop i)).map (lvl fs ++ ·) ∧ PS gp w2 nm (.slice a0 n0 k0) (.slice a1 n1 k1) vl b0 b1 fs wr) (fun v _ => m - (intOf v).toNat)
        case atStart => exact ⟨F, .slice none 0 0, [], Nat.le_refl _, hFb2, rfl, by simp, by cases mls (L.drop F) <;> simp [lvl], HPW'.out⟩
        case round =>
          obtain ⟨i, vl, fs, hiF, him, rfl, hfl, hml, hP⟩ := hrel
          obtain ⟨al, kl, rfl⟩ := own_slice' hP.own
          obtain ⟨nf, hnf⟩ : ∃ nf, fs.length = nf := ⟨_, rfl⟩
          rw [hnf] at hP hfl
          have HPX : Hid (PS gp w2 nm (.slice a0 n0 k0) (.slice a1 n1 k1) (.slice al nf kl) b0 b1 fs wr) := hP
          have HNF : Hid (fs.length = nf) := hnf
          by_cases hlt : i < m
          · have b9 : (i : Int) < (m : Int) := by omega
            have c := HC.out i hlt _ hP.old
            have hrz : (L.getD i ⟨#[]⟩).size ≤ 4096 := HLM.out.2 _ (by have := HLM.out.1; simp [List.getD, show i < L.length by omega])
            have hdr : L.drop i = L.getD i ⟨#[]⟩ :: L.drop (i + 1) := by
              have hil2 : i < L.length := by rw [HLM.out.1]; exact hlt
              rw [List.drop_eq_getElem_cons hil2]
              simp [List.getD, hil2]
            rw [hdr] at hml
            obtain ⟨r, hr⟩ : ∃ r, L.getD i ⟨#[]⟩ = r := ⟨_, rfl⟩
            rw [hr] at c hrz hml
            clear hdr hr hP hnf
            obtain ⟨qr, hqr⟩ : ∃ qr, wr.heap.size = qr := ⟨_, rfl⟩
            cases hlin : lin r with
            | none =>
              have HP : Hid (prs t = (zPt, 8)) := HM0.out (by rw [hml]; simp [mls, hlin])
              have CL := line_none (W := wr) (by omega) hlin
              rw [hqr] at CL
              clear hml hlin
              go_upto_region 30 with (go_at_call 49; refine CL.mono ?_; rintro e w4 ⟨xx, rfl, hb⟩; have HP4 : Hid (PS gp w2 nm (.slice a0 n0 k0) (.slice a1 n1 k1) (.slice al nf kl) b0 b1 fs w4) := HPX.out.below (by rw [hqr]; exact hb); clear hb CL)
              have hp5 := HP4.out.below ((Below.refl w4.heap.size w4).alloc (Nat.le_refl _) (.cells #[.int .i64 xx, .slice none 0 0] 58))
              obtain ⟨W5, hW5⟩ : ∃ W5, w4.alloc (.cells #[.int .i64 xx, .slice none 0 0] 58) = W5 := ⟨_, rfl⟩
              rw [hW5] at hp5
              simp only [hW5]
              have hrow6 := (HRQ.out W5 hp5.old).1
              have HB6 : Hid (Below q W W5) := (HRQ.out W5 hp5.old).2
              clear hp5 hW5
              go_wp2_with (with_reducible refine at_list ?_; refine wpList_store_row rfl 26 (.tmp 2) (.tmp 142) rfl q zPat rfl rfl 26 zPat hrow6 (ip4 _ _ _ _) rfl (by simp [zPat, Value.oneCell']) ?_)
              try simp only [Exit.inBlock, Exit.then]
              refine bodyPost_ret (v := .tuple #[.agg zPat, .int .i64 8]) ?_ rfl ⟨below_setRow (HB6.out) _ (Nat.le_refl _) _, .agg zPat, by rw [HP.out], by rw [HP.out]; exact rdp_zpt _⟩
              exact results_row_tmp (P := Tryz.prog) (fn := Tryz.f19) (p := 2) (u := 3) (ty := 26) rfl _ _ q 26 _ (0, 0) _ _ rfl (setRow_heap _ _ _ _ 26 _ hrow6) Tryz.underlying26 rfl (ip4 _ _ _ _) rfl
            | some fC =>
              obtain ⟨f, C⟩ := fC
              have CL := line_some (W := wr) (by omega) hlin
              rw [hqr] at CL
              have HML : Hid (mls (L.drop F) = (mls (L.drop (i + 1))).map (lvl fs ++ [(f, C)] ++ ·)) := by
                show _ = _
                rw [hml]
                simp only [mls, hlin]
                cases mls (L.drop (i + 1)) <;> simp
              clear hml hlin
              go_upto_region 31 with (go_at_call 49; refine CL.mono ?_; rintro e w4 ⟨ac, cc, rfl, -, hcl, hoc, hb⟩; have HP4 : Hid (PS gp w2 nm (.slice a0 n0 k0) (.slice a1 n1 k1) (.slice al nf kl) b0 b1 fs w4) := HPX.out.below (by rw [hqr]; exact hb); have HU4 : Hid (FtN (Fr gp (.slice al nf kl) w4) w4 (.slice ac C.length cc) C) := HPX.out.new hb.size (by rw [hqr]; exact Nat.le_succ _) (own_ft hoc rfl (by omega)); clear hb CL hcl hoc)
              have hal := (Below.refl w4.heap.size w4).alloc (Nat.le_refl _) (.cells #[.int .i64 f, .slice ac C.length cc] 58)
              have hxr : (w4.alloc (.cells #[.int .i64 f, .slice ac C.length cc] 58)).heap[w4.heap.size]? = some (.cells #[.int .i64 f, .slice ac C.length cc] 58) := heap_alloc_new _ _
              obtain ⟨W5, hW5⟩ : ∃ W5, w4.alloc (.cells #[.int .i64 f, .slice ac C.length cc] 58) = W5 := ⟨_, rfl⟩
              obtain ⟨xb, hxb⟩ : ∃ xb, w4.heap.size = xb := ⟨_, rfl⟩
              rw [hW5, hxb] at hxr
              rw [hW5] at hal
              simp only [hW5, hxb]
              have HP5 : Hid (PS gp w2 nm (.slice a0 n0 k0) (.slice a1 n1 k1) (.slice al nf kl) b0 b1 fs W5) := HP4.out.below hal
              have HU5 : Hid (FtN (Fr gp (.slice al nf kl) W5) W5 (.slice ac C.length cc) C) := HU4.out.kp (HP4.out.kb hal)
              have x0 : W5.cell? ⟨xb, 0, none⟩ = some (.int .i64 f) := by rw [cell_of_row _ _ _ _ _ _ hxr]; rfl
              have x1 : W5.cell? ⟨xb, 1, none⟩ = some (.slice ac C.length cc) := by rw [cell_of_row _ _ _ _ _ _ hxr]; rfl
              have y3 := HP5.out.c3
              have hal2 := (Below.refl W5.heap.size W5).alloc (Nat.le_refl _) (.cells #[.int .i64 f, .slice ac C.length cc] 58)
              have hrow2 : (W5.alloc (.cells #[.int .i64 f, .slice ac C.length cc] 58)).heap[W5.heap.size]? = some (.cells #[.int .i64 f, .slice ac C.length cc] 58) := heap_alloc_new _ _
              have HAP : Hid _ := (HP5.out.below hal2).app (by rw [HNF.out]; omega) (HU5.out.kp (HP5.out.kb hal2)) hrow2
              clear hal hxr hW5 hxb c HP4 HU4 hal2 hrow2
              go_wp2_with (at_builtin; go_loud (refine wpList_app _ rfl (.tmp 144) (.tmp 146) 24 24 rfl _ _ rfl rfl HAP.out ?_; rintro v' w' ⟨h1, -⟩; obtain ⟨an, cn, rfl⟩ := own_slice' h1.own; have e7 := h1.c3; have f7 := h1.fz 3; have H7 : Hid _ := h1.set; clear h1))
              have h7 := H7.out
              simp only [List.length_append, List.length_singleton] at h7
              exact ⟨⟨i + 1, .slice an (fs.length + 1) cn, fs ++ [(f, .slice ac C.length cc, C)], by omega, hlt, congrArg (Value.int .i64) (Int.natCast_succ i).symm, by rw [List.length_append, HNF.out, List.length_singleton]; omega, by rw [lvl_snoc]; exact HML.out, h7⟩, by show m - ((i : Int) + 1).toNat < m - ((i : Int)).toNat; omega⟩
          · have b9 : ¬ (i : Int) < (m : Int) := by omega
            obtain rfl : i = m := by omega
            have hlsm : mls (L.drop F) = some (lvl fs) := by rw [hml, List.drop_eq_nil_of_le (by rw [HLM.out.1]; exact Nat.le_refl _)]; simp [mls]
            have HQQ : Hid (prs t = if chk ⟨nm, b0, b1, lvl fs⟩ ≠ 0 then (zPt, chk ⟨nm, b0, b1, lvl fs⟩) else (⟨nm, b0, b1, lvl fs⟩, 0)) := by show prs t = _; rw [HQ.out, hlsm]
            have CK := check_any _ _ wr (hP.rd (by omega))
            have d0 := hP.c0
            have d1 := hP.c1
            have d2 := hP.c2
            have d3 := hP.c3
            obtain ⟨ck, hck⟩ : ∃ ck, chk ⟨nm, b0, b1, lvl fs⟩ = ck := ⟨_, rfl⟩
            rw [hck] at CK HQQ
            obtain ⟨qr, hqr⟩ : ∃ qr, wr.heap.size = qr := ⟨_, rfl⟩
            rw [hqr] at CK
            clear hml hlsm hP hck
            by_cases hc0 : ck = 0
            · have HR : Hid (prs t = (⟨nm, b0, b1, lvl fs⟩, 0)) := by show prs t = _; rw [HQQ.out, if_neg (fun h => h hc0)]
              have eck : (ck == 0) = true := by simp [hc0]
              subst hc0
              go_upto_region 35 with (go_at_call 14; refine CK.mono ?_; rintro e w4 ⟨rfl, hb⟩; have HP4 : Hid (PS gp w2 nm (.slice a0 n0 k0) (.slice a1 n1 k1) (.slice al nf kl) b0 b1 fs w4) := HPX.out.below (by rw [hqr]; exact hb); clear hb CK d0 d1 d2 d3)
              have g0 := HP4.out.c0
              have g1 := HP4.out.c1
              have g2 := HP4.out.c2
              have g3 := HP4.out.c3
              have hrow7 := (HRQ.out w4 HP4.out.old).1
              have HB7 : Hid (Below q W w4) := (HRQ.out w4 HP4.out.old).2
              go_wp2_with (with_reducible refine at_list ?_; refine wpList_store_row rfl 26 (.tmp 2) (.tmp 155) rfl q #[.string nm, .slice a0 n0 k0, .slice a1 n1 k1, .slice al nf kl] rfl rfl 26 zPat hrow7 (ip4 _ _ _ _) rfl (by simp [Value.oneCell']) ?_)
              try simp only [Exit.inBlock, Exit.then]
              refine bodyPost_ret (v := .tuple #[.agg #[.string nm, .slice a0 n0 k0, .slice a1 n1 k1, .slice al nf kl], .int .i64 0]) ?_ rfl ⟨below_setRow HB7.out _ (Nat.le_refl _) _, .agg #[.string nm, .slice a0 n0 k0, .slice a1 n1 k1, .slice al nf kl], by rw [HR.out], ?_⟩
              · exact results_row_tmp (P := Tryz.prog) (fn := Tryz.f19) (p := 2) (u := 3) (ty := 26) rfl _ _ q 26 _ (0, 0) _ _ rfl (setRow_heap _ _ _ _ 26 _ hrow7) Tryz.underlying26 rfl (ip4 _ _ _ _) rfl
              · rw [HR.out]
                exact ((HP4.out.ftp (by have := HNF.out; omega)).keep (fun b hb => setRow_other _ _ _ _ (by have := hb.1; have := HGP.out.2; omega))).rd
            · have HR : Hid (prs t = (zPt, ck)) := by show prs t = _; rw [HQQ.out, if_pos hc0]
              have eck : (ck == 0) = false := by simpa using hc0
              clear hc0
              go_upto_region 34 with (go_at_call 14; refine CK.mono ?_; rintro e w4 ⟨rfl, hb⟩; have HP4 : Hid (PS gp w2 nm (.slice a0 n0 k0) (.slice a1 n1 k1) (.slice al nf kl) b0 b1 fs w4) := HPX.out.below (by rw [hqr]; exact hb); clear hb CK d0 d1 d2 d3)
              have hrow7 := (HRQ.out w4 HP4.out.old).1
              have HB7 : Hid (Below q W w4) := (HRQ.out w4 HP4.out.old).2
              go_wp2_with (with_reducible refine at_list ?_; refine wpList_store_row rfl 26 (.tmp 2) (.tmp 153) rfl q zPat rfl rfl 26 zPat hrow7 (ip4 _ _ _ _) rfl (by simp [zPat, Value.oneCell']) ?_)
              try simp only [Exit.inBlock, Exit.then]
              refine bodyPost_ret (v := .tuple #[.agg zPat, .int .i64 ck]) ?_ rfl ⟨below_setRow HB7.out _ (Nat.le_refl _) _, .agg zPat, by rw [HR.out], by rw [HR.out]; exact rdp_zpt _⟩
              exact results_row_tmp (P := Tryz.prog) (fn := Tryz.f19) (p := 2) (u := 3) (ty := 26) rfl _ _ q 26 _ (0, 0) _ _ rfl (setRow_heap _ _ _ _ 26 _ hrow7) Tryz.underlying26 rfl (ip4 _ _ _ _) rfl
end Go.Proofs.YtmlcgcmoioekpaaGreatDoor
