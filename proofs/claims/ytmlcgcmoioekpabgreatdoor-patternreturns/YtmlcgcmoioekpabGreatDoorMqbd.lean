import Derived.Test.YtmlcgcmoioekpabGreatDoorMqbc
namespace Go.Proofs.YtmlcgcmoioekpabGreatDoor
set_option linter.unusedSimpArgs false
set_option linter.unusedVariables false
set_option maxRecDepth 100000
open Go.ChangeShapes Go.WideShapes Go.ChangeAt Go.RowKit Go.Pin Go.Pat Go.Deep
theorem rdp_sl {w : World} {v : Value} {p : Pt} (h : RdP w v p) : ∃ a0 k0 a1 k1 al kl, v = .agg #[.string p.nm, .slice a0 p.b0.length k0, .slice a1 p.b1.length k1, .slice al p.ln.length kl] := by
  obtain ⟨v0, v1, vl, rfl, ⟨a0, k0, rfl, _⟩, ⟨a1, k1, rfl, _⟩, ⟨al, kl, rfl, _⟩⟩ := h
  exact ⟨a0, k0, a1, k1, al, kl, rfl⟩
theorem prn_nm {P : Pt} {t : ByteArray} (h : prn P = (t, 0)) : P.nm.size ≤ 140737488355328 := by
  unfold prn at h
  split at h
  · rename_i hc
    simp at h
    exact absurd h.2 hc
  · split at h
    · simp at h
    · rename_i hn
      have : ¬ 4096 < P.nm.size := fun h => hn (.inl h)
      omega
set_option maxHeartbeats 8000000 in
theorem returns_walk {ea : Int → Addr} (v : Value) (p : Pt) (t : ByteArray) (W : World) (hE : Errs ea W) (hR : RdP W v p) (ht : t.size ≤ 140737488355328) :
    Calls Tryz.prog 3 #[v, .string t] W fun e w' => e = .returned (.bool true) ∧ Below W.heap.size W w' := by
  obtain ⟨a0, p0, a1, p1, al, cl, rfl⟩ := rdp_sl hR
  have hst := bx_new W hR
  have hal : Below W.heap.size W (W.alloc (.cells #[.string p.nm, .slice a0 p.b0.length p0, .slice a1 p.b1.length p1, .slice al p.ln.length cl] 26)) := (Below.refl _ _).alloc (Nat.le_refl _) _
  obtain ⟨q, hq⟩ : ∃ q, W.heap.size = q := ⟨_, rfl⟩
  obtain ⟨n0, hn0⟩ : ∃ n0, p.b0.length = n0 := ⟨_, rfl⟩
  obtain ⟨n1, hn1⟩ : ∃ n1, p.b1.length = n1 := ⟨_, rfl⟩
  obtain ⟨nl, hnl⟩ : ∃ nl, p.ln.length = nl := ⟨_, rfl⟩
  obtain ⟨nm, hnm⟩ : ∃ nm, p.nm = nm := ⟨_, rfl⟩
  simp only [hn0, hn1, hnl] at hst hal ⊢
  have HE : Hid (∀ y, Below q W y → Errs ea y ∧ q ≤ y.heap.size) := fun y hy => ⟨hE.below (by rw [hq]; exact hy), by have := hy.size; omega⟩
  obtain ⟨W1, hW1⟩ : ∃ W1, W.alloc (.cells #[.string p.nm, .slice a0 n0 p0, .slice a1 n1 p1, .slice al nl cl] 26) = W1 := ⟨_, rfl⟩
  simp only [hq, hW1] at hst hal ⊢
  have H1 : Hid (Below q W W1 ∧ BX q (.slice a0 n0 p0) (.slice a1 n1 p1) (.slice al nl cl) p W1) := ⟨hal, hst⟩
  have CM := much_any _ p W1 hst.rd
  have d0 := hst.c0
  have d1 := hst.c1
  have d2 := hst.c2
  have d3 := hst.c3
  have HT : Hid (t.size ≤ 140737488355328) := ht
  clear hst hal hE hR ht hn0 hn1 hnl hnm
  go_enter Tryz.func3, Tryz.ntmps3
  go_upto_if 13 with (go_at_call 7; refine CM.mono ?_; rintro e w2 ⟨b, rfl, hs, hb⟩; have HS : Hid (b = false → Sml p) := hs; have H2 : Hid (Below q W w2 ∧ BX q (.slice a0 n0 p0) (.slice a1 n1 p1) (.slice al nl cl) p w2) := ⟨sub_le H1.out.1 hb (HE.out _ H1.out.1).2, H1.out.2.below hb⟩; clear hs hb CM d0 d1 d2 d3)
  rcases b with _ | _
  case true =>
    have CK := known_any (ea := ea) w2 (HE.out _ H2.out.1).1
    go_wp2_with (go_at_call 8; refine CK.mono ?_; rintro e w3 ⟨rfl, hb⟩; have H3 : Hid (Below q W w3) := sub_le H2.out.1 hb (HE.out _ H2.out.1).2; clear hb CK)
    go_ret
    exact ⟨rfl, H3.out⟩
  have hs := HS.out rfl
  have d0 := H2.out.2.c0
  have d1 := H2.out.2.c1
  have d2 := H2.out.2.c2
  have d3 := H2.out.2.c3
  have CR := pprint_any (ea := ea) _ p w2 (HE.out _ H2.out.1).1 H2.out.2.rd (Nat.le_trans hs.2.2.2.1 (by decide))
  have hpp := prs_prn (p := p)
  obtain ⟨s, hsn⟩ : ∃ s, (prn p).1 = s := ⟨_, rfl⟩
  obtain ⟨c, hcn⟩ : ∃ c, (prn p).2 = c := ⟨_, rfl⟩
  rw [hsn, hcn] at CR
  rw [hsn, hcn] at hpp
  clear hs HS hsn hcn
  by_cases hc : c = 0
  case neg =>
    rw [EV_ne hc] at CR
    have HC : Hid (c ≠ 0) := hc
    clear hc hpp
    go_upto_region 8 with (go_at_call 9; refine CR.mono ?_; rintro e w3 ⟨rfl, hb⟩; have H3 : Hid (Below q W w3) := sub_le H2.out.1 hb (HE.out _ H2.out.1).2; clear hb CR d0 d1 d2 d3)
    have CT := parse_any' (ea := ea) t w3 (HE.out _ H3.out).1 HT.out
    unfold PsP at CT
    have hrr := prn_prs (t := t)
    obtain ⟨x, hx⟩ : ∃ x, prs t = x := ⟨_, rfl⟩
    obtain ⟨P, d⟩ := x
    rw [hx] at CT hrr
    simp only at CT hrr
    clear hx
    by_cases hd : d = 0
    case neg =>
      rw [EV_ne hd] at CT
      have HD : Hid (d ≠ 0) := hd
      clear hd hrr
      go_wp2_with (first
        | (go_at_call 10; refine CT.mono ?_; rintro e w6 ⟨hb, v0, v1, vl, rfl, hf⟩; obtain ⟨c0, l0, c1, l1, cv, lv, rfl, rfl, rfl⟩ := ft_sl hf; have H6 : Hid (Below q W (w6.alloc (.cells #[.string P.nm, .slice c0 P.b0.length l0, .slice c1 P.b1.length l1, .slice cv P.ln.length lv] 26))) := (sub_le H3.out hb (HE.out _ H3.out).2).alloc (HE.out _ (sub_le H3.out hb (HE.out _ H3.out).2)).2 _; have CK := known_any (ea := ea) _ (HE.out _ H6.out).1; clear hb hf CT)
        | (go_at_call 8; refine CK.mono ?_; rintro e w7 ⟨rfl, hb⟩; have H7 : Hid (Below q W w7) := sub_le H6.out hb (HE.out _ H6.out).2; clear hb CK))
      go_ret
      exact ⟨rfl, H7.out⟩
    subst hd
    obtain ⟨hr1, hr2⟩ := hrr rfl
    have HR1 : Hid (prn P = (t, 0) ∧ chk P = 0) := ⟨hr1, hr2⟩
    simp only [EV_0] at CT
    clear hr1 hr2
    go_upto_region 11 with (go_at_call 10; refine CT.mono ?_; rintro e w6 ⟨hb, v0, v1, vl, rfl, hf⟩; obtain ⟨c0, l0, c1, l1, cv, lv, rfl, rfl, rfl⟩ := ft_sl hf; have H6 : Hid (Below q W w6 ∧ RdP w6 (.agg #[.string P.nm, .slice c0 P.b0.length l0, .slice c1 P.b1.length l1, .slice cv P.ln.length lv]) P) := ⟨sub_le H3.out hb (HE.out _ H3.out).2, hf.rd⟩; clear hb hf CT)
    have hbx := bx_new w6 H6.out.2
    have ha := H6.out.1.alloc (HE.out _ H6.out.1).2 (.cells #[.string P.nm, .slice c0 P.b0.length l0, .slice c1 P.b1.length l1, .slice cv P.ln.length lv] 26)
    obtain ⟨g6, hg6⟩ : ∃ g6, w6.heap.size = g6 := ⟨_, rfl⟩
    obtain ⟨W7, hW7⟩ : ∃ W7, w6.alloc (.cells #[.string P.nm, .slice c0 P.b0.length l0, .slice c1 P.b1.length l1, .slice cv P.ln.length lv] 26) = W7 := ⟨_, rfl⟩
    simp only [hg6, hW7] at hbx ha ⊢
    have H7 : Hid (Below q W W7 ∧ BX g6 (.slice c0 P.b0.length l0) (.slice c1 P.b1.length l1) (.slice cv P.ln.length lv) P W7) := ⟨ha, hbx⟩
    have CR := pprint_any (ea := ea) _ P W7 (HE.out _ ha).1 hbx.rd (prn_nm HR1.out.1)
    rw [HR1.out.1] at CR
    simp only [EV_0] at CR
    have y0 := hbx.c0
    have y1 := hbx.c1
    have y2 := hbx.c2
    have y3 := hbx.c3
    clear hbx ha hg6 hW7 H6
    go_upto_region 12 with (go_at_call 9; refine CR.mono ?_; rintro e w8 ⟨rfl, hb⟩; have H8 : Hid (Below q W w8 ∧ BX g6 (.slice c0 P.b0.length l0) (.slice c1 P.b1.length l1) (.slice cv P.ln.length lv) P w8) := ⟨sub_le H7.out.1 hb (HE.out _ H7.out.1).2, H7.out.2.below hb⟩; clear hb CR y0 y1 y2 y3)
    have y0 := H8.out.2.c0
    have y1 := H8.out.2.c1
    have y2 := H8.out.2.c2
    have y3 := H8.out.2.c3
    have CC := pcheck_any (ea := ea) _ P w8 (HE.out _ H8.out.1).1 H8.out.2.rd
    rw [HR1.out.2] at CC
    simp only [EV_0] at CC
    have htt : (t.toList == t.toList) = true := by simp
    go_wp2_with (first
      | (go_at_call 12; refine CC.mono ?_; rintro e w9 ⟨rfl, hb⟩; have H9 : Hid (Below q W w9) := sub_le H8.out.1 hb (HE.out _ H8.out.1).2; have CK := known_any (ea := ea) w9 (HE.out _ H9.out).1; clear hb CC y0 y1 y2 y3)
      | (go_at_call 8; refine CK.mono ?_; rintro e w10 ⟨rfl, hb⟩; have H10 : Hid (Below q W w10) := sub_le H9.out hb (HE.out _ H9.out).2; clear hb CK))
    go_ret
    exact ⟨rfl, H10.out⟩
  subst hc
  obtain ⟨hp1, hp2⟩ := hpp rfl
  simp only [EV_0] at CR
  have HPP : Hid (prs s = (p, 0) ∧ s.size ≤ 4096) := ⟨hp1, hp2⟩
  have hsz : ¬ (s.size : Int) > 4096 := by omega
  have hsz2 : ¬ 4096 < (s.size : Int) := by omega
  have hsz3 : (s.size : Int) ≤ 4096 := by omega
  clear hp1 hp2 hpp
  go_upto_region 6 with (first
    | (go_at_call 9; refine CR.mono ?_; rintro e w3 ⟨rfl, hb⟩; have H3 : Hid (Below q W w3 ∧ BX q (.slice a0 n0 p0) (.slice a1 n1 p1) (.slice al nl cl) p w3) := ⟨sub_le H2.out.1 hb (HE.out _ H2.out.1).2, H2.out.2.below hb⟩; have CS := parse_any' (ea := ea) s w3 (HE.out _ H3.out.1).1 (Nat.le_trans HPP.out.2 (by decide)); unfold PsP at CS; rw [HPP.out.1] at CS; simp only [EV_0] at CS; clear hb CR d0 d1 d2 d3)
    | (go_at_call 10; refine CS.mono ?_; rintro e w4 ⟨hb, v0, v1, vl, rfl, hf⟩; obtain ⟨c0, l0, c1, l1, cv, lv, rfl, rfl, rfl⟩ := ft_sl hf; have H4 : Hid (Below q W w4 ∧ BX q (.slice a0 n0 p0) (.slice a1 n1 p1) (.slice al nl cl) p w4 ∧ RdP w4 (.agg #[.string p.nm, .slice c0 p.b0.length l0, .slice c1 p.b1.length l1, .slice cv p.ln.length lv]) p) := ⟨sub_le H3.out.1 hb (HE.out _ H3.out.1).2, H3.out.2.below hb, hf.rd⟩; clear hb hf CS))
  have hbx := bx_new w4 H4.out.2.2
  have ha := H4.out.1.alloc (HE.out _ H4.out.1).2 (.cells #[.string p.nm, .slice c0 p.b0.length l0, .slice c1 p.b1.length l1, .slice cv p.ln.length lv] 26)
  have hbq := H4.out.2.1.below ((Below.refl _ _).alloc (Nat.le_refl _) (.cells #[.string p.nm, .slice c0 p.b0.length l0, .slice c1 p.b1.length l1, .slice cv p.ln.length lv] 26))
  obtain ⟨g4, hg4⟩ : ∃ g4, w4.heap.size = g4 := ⟨_, rfl⟩
  obtain ⟨W5, hW5⟩ : ∃ W5, w4.alloc (.cells #[.string p.nm, .slice c0 p.b0.length l0, .slice c1 p.b1.length l1, .slice cv p.ln.length lv] 26) = W5 := ⟨_, rfl⟩
  simp only [hg4, hW5] at hbx ha hbq ⊢
  have H5 : Hid (Below q W W5) := ha
  have CS := same_true hbq.rd hbx.rd
  have y0 := hbx.c0
  have y1 := hbx.c1
  have y2 := hbx.c2
  have y3 := hbx.c3
  have d0 := hbq.c0
  have d1 := hbq.c1
  have d2 := hbq.c2
  have d3 := hbq.c3
  clear hbx hbq ha hg4 hW5 H4
  go_upto_region 8 with (go_at_call 11; refine CS.mono ?_; rintro e w5 ⟨rfl, hb⟩; have H5' : Hid (Below q W w5) := sub_le H5.out hb (HE.out _ H5.out).2; clear hb CS y0 y1 y2 y3 d0 d1 d2 d3)
  clear hsz hsz2 hsz3
  have CT := parse_any' (ea := ea) t w5 (HE.out _ H5'.out).1 HT.out
  unfold PsP at CT
  have hrr := prn_prs (t := t)
  obtain ⟨x, hx⟩ : ∃ x, prs t = x := ⟨_, rfl⟩
  obtain ⟨P, d⟩ := x
  rw [hx] at CT hrr
  simp only at CT hrr
  clear hx
  by_cases hd : d = 0
  case neg =>
    rw [EV_ne hd] at CT
    have HD : Hid (d ≠ 0) := hd
    clear hd hrr
    go_wp2_with (first
      | (go_at_call 10; refine CT.mono ?_; rintro e w6 ⟨hb, v0, v1, vl, rfl, hf⟩; obtain ⟨c0, l0, c1, l1, cv, lv, rfl, rfl, rfl⟩ := ft_sl hf; have H6 : Hid (Below q W (w6.alloc (.cells #[.string P.nm, .slice c0 P.b0.length l0, .slice c1 P.b1.length l1, .slice cv P.ln.length lv] 26))) := (sub_le H5'.out hb (HE.out _ H5'.out).2).alloc (HE.out _ (sub_le H5'.out hb (HE.out _ H5'.out).2)).2 _; have CK := known_any (ea := ea) _ (HE.out _ H6.out).1; clear hb hf CT)
      | (go_at_call 8; refine CK.mono ?_; rintro e w7 ⟨rfl, hb⟩; have H7 : Hid (Below q W w7) := sub_le H6.out hb (HE.out _ H6.out).2; clear hb CK))
    go_ret
    exact ⟨rfl, H7.out⟩
  subst hd
  obtain ⟨hr1, hr2⟩ := hrr rfl
  have HR1 : Hid (prn P = (t, 0) ∧ chk P = 0) := ⟨hr1, hr2⟩
  simp only [EV_0] at CT
  clear hr1 hr2
  go_upto_region 11 with (go_at_call 10; refine CT.mono ?_; rintro e w6 ⟨hb, v0, v1, vl, rfl, hf⟩; obtain ⟨c0, l0, c1, l1, cv, lv, rfl, rfl, rfl⟩ := ft_sl hf; have H6 : Hid (Below q W w6 ∧ RdP w6 (.agg #[.string P.nm, .slice c0 P.b0.length l0, .slice c1 P.b1.length l1, .slice cv P.ln.length lv]) P) := ⟨sub_le H5'.out hb (HE.out _ H5'.out).2, hf.rd⟩; clear hb hf CT)
  have hbx := bx_new w6 H6.out.2
  have ha := H6.out.1.alloc (HE.out _ H6.out.1).2 (.cells #[.string P.nm, .slice c0 P.b0.length l0, .slice c1 P.b1.length l1, .slice cv P.ln.length lv] 26)
  obtain ⟨g6, hg6⟩ : ∃ g6, w6.heap.size = g6 := ⟨_, rfl⟩
  obtain ⟨W7, hW7⟩ : ∃ W7, w6.alloc (.cells #[.string P.nm, .slice c0 P.b0.length l0, .slice c1 P.b1.length l1, .slice cv P.ln.length lv] 26) = W7 := ⟨_, rfl⟩
  simp only [hg6, hW7] at hbx ha ⊢
  have H7 : Hid (Below q W W7 ∧ BX g6 (.slice c0 P.b0.length l0) (.slice c1 P.b1.length l1) (.slice cv P.ln.length lv) P W7) := ⟨ha, hbx⟩
  have CR := pprint_any (ea := ea) _ P W7 (HE.out _ ha).1 hbx.rd (prn_nm HR1.out.1)
  rw [HR1.out.1] at CR
  simp only [EV_0] at CR
  have y0 := hbx.c0
  have y1 := hbx.c1
  have y2 := hbx.c2
  have y3 := hbx.c3
  clear hbx ha hg6 hW7 H6
  go_upto_region 12 with (go_at_call 9; refine CR.mono ?_; rintro e w8 ⟨rfl, hb⟩; have H8 : Hid (Below q W w8 ∧ BX g6 (.slice c0 P.b0.length l0) (.slice c1 P.b1.length l1) (.slice cv P.ln.length lv) P w8) := ⟨sub_le H7.out.1 hb (HE.out _ H7.out.1).2, H7.out.2.below hb⟩; clear hb CR y0 y1 y2 y3)
  have y0 := H8.out.2.c0
  have y1 := H8.out.2.c1
  have y2 := H8.out.2.c2
  have y3 := H8.out.2.c3
  have CC := pcheck_any (ea := ea) _ P w8 (HE.out _ H8.out.1).1 H8.out.2.rd
  rw [HR1.out.2] at CC
  simp only [EV_0] at CC
  have htt : (t.toList == t.toList) = true := by simp
  go_wp2_with (first
    | (go_at_call 12; refine CC.mono ?_; rintro e w9 ⟨rfl, hb⟩; have H9 : Hid (Below q W w9) := sub_le H8.out.1 hb (HE.out _ H8.out.1).2; have CK := known_any (ea := ea) w9 (HE.out _ H9.out).1; clear hb CC y0 y1 y2 y3)
    | (go_at_call 8; refine CK.mono ?_; rintro e w10 ⟨rfl, hb⟩; have H10 : Hid (Below q W w10) := sub_le H9.out hb (HE.out _ H9.out).2; clear hb CK))
  go_ret
  exact ⟨rfl, H10.out⟩
end Go.Proofs.YtmlcgcmoioekpabGreatDoor
