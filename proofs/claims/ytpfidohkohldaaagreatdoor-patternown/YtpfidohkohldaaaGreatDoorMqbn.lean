import Derived.Test.YtpfidohkohldaaaGreatDoorMqbm
namespace Go.Proofs.YtpfidohkohldaaaGreatDoor
set_option linter.unusedSimpArgs false
set_option linter.unusedVariables false
set_option maxRecDepth 100000
open Go.ChangeShapes Go.WideShapes Go.ChangeAt Go.RowKit Go.Pin Go.Pat Go.Deep
set_option maxHeartbeats 16000000 in
theorem own15_walk {ea : Int → Addr} (t k : ByteArray) (v wv : Value) (p : Pt) (ws : List ByteArray) (W : World) (hE : Errs ea W) (ht : t.size ≤ 140737488355328) (hR : RdP W v p) (hw : RdS W wv ws) (hwz : ∀ x ∈ ws, x.size ≤ 140737488355328) (hcap : ∀ a n c, wv = .slice a n c → n ≤ c) :
    Calls Tryz.prog 3 #[.string t, .string k, v, wv] W fun e w' => e = .returned (.bool true) ∧ Below W.heap.size W w' := by
  have CA := fun (hs : Sml p) (hws : ws.length ≤ 200) Y (hY : Below W.heap.size W Y) => asked_any (ea := ea) t k v wv p ws Y (hE.below hY) (hR.below hY) (hw.below hY) ht (by have := hs.2.2.2.1; omega) hws hwz hcap
  have CC := fun (hs : Sml p) Y (hY : Below W.heap.size W Y) => copied_own v p Y (hR.below hY) (sml_big hs)
  have CS := fun Y (hY : Below W.heap.size W Y) => hR.below hY
  obtain ⟨v0, v1, vl, rfl, h0, h1, hl⟩ := id hR
  obtain ⟨a0, p0, rfl, -⟩ := id h0
  obtain ⟨a1, p1, rfl, -⟩ := id h1
  obtain ⟨al, cl, rfl, -⟩ := id hl
  obtain ⟨aw, cw, rfl, -⟩ := id hw
  have hst := pb_start W p.nm (.slice a0 p.b0.length p0) (.slice a1 p.b1.length p1) (.slice al p.ln.length cl)
  obtain ⟨K, hK⟩ : ∃ K, ask t k p ws = K := ⟨_, rfl⟩
  have HK : Hid (K.length = 12 ∧ ∀ x ∈ K, Sz x) := ⟨by rw [← hK]; exact ask_len _ _ _ _, fun x hx => by rw [← hK] at hx; exact ask_sz hx⟩
  obtain ⟨q, hq⟩ : ∃ q, W.heap.size = q := ⟨_, rfl⟩
  obtain ⟨n0, hn0⟩ : ∃ n0, p.b0.length = n0 := ⟨_, rfl⟩
  obtain ⟨n1, hn1⟩ : ∃ n1, p.b1.length = n1 := ⟨_, rfl⟩
  obtain ⟨L, hLn⟩ : ∃ L, p.ln.length = L := ⟨_, rfl⟩
  obtain ⟨n, hn⟩ : ∃ n, ws.length = n := ⟨_, rfl⟩
  have HE : Hid (∀ y, Below q W y → Errs ea y ∧ q ≤ y.heap.size) := fun y hy => ⟨hE.below (by rw [hq]; exact hy), by have := hy.size; omega⟩
  have CM := much_any _ p (W.alloc (.cells #[.string p.nm, .slice a0 p.b0.length p0, .slice a1 p.b1.length p1, .slice al p.ln.length cl] 26)) (hR.below ((Below.refl _ _).alloc (Nat.le_refl _) _))
  simp only [hq, hn0, hn1, hLn, hn, hK] at hst CA CC CS CM ⊢
  obtain ⟨W1, hW1⟩ : ∃ W1, W.alloc (.cells #[.string p.nm, .slice a0 n0 p0, .slice a1 n1 p1, .slice al L cl] 26) = W1 := ⟨_, rfl⟩
  rw [hW1] at hst CM
  have HCA : Hid (Sml p → n ≤ 200 → ∀ Y, Below q W Y → _) := CA
  have HCC : Hid (Sml p → ∀ Y, Below q W Y → _) := CC
  have HCS : Hid (∀ Y, Below q W Y → _) := CS
  have H1 : Hid (PB q W p.nm (.slice a0 n0 p0) (.slice a1 n1 p1) (.slice al L cl) W1) := hst
  have d0 := hst.c0
  have d1 := hst.c1
  have d2 := hst.c2
  have d3 := hst.c3
  unfold MuP at CM
  clear hst hE hR hw hwz hcap hn0 hn1 hLn hn h0 h1 hl CA CC CS hK ht
  by_cases hlt : 200 < n
  · have b1 : (n : Int) > 200 := by omega
    have b2 : (200 : Int) < (n : Int) := by omega
    go_enter Tryz.func3, Tryz.ntmps3
    go_upto_if 27 with (go_at_call 4; refine CM.mono ?_; rintro e w2 ⟨b, rfl, hs, hb⟩; have H2 : Hid (PB q W p.nm (.slice a0 n0 p0) (.slice a1 n1 p1) (.slice al L cl) w2) := H1.out.below hb; clear hs hb CM d0 d1 d2 d3; rcases b with _ | _)
    all_goals
      have CK := known_any (ea := ea) w2 (HE.out _ H2.out.old).1
      go_wp2_with (go_at_call 5; refine CK.mono ?_; rintro e w3 ⟨rfl, hb⟩; have H3 : Hid (Below q W w3) := sub_le H2.out.old hb (HE.out _ H2.out.old).2; clear hb CK)
      go_ret
      exact ⟨rfl, H3.out⟩
  have b1 : ¬ (n : Int) > 200 := by omega
  have b2 : ¬ (200 : Int) < (n : Int) := by omega
  have HN2 : Hid (n ≤ 200) := by show n ≤ 200; omega
  clear hlt
  go_enter Tryz.func3, Tryz.ntmps3
  go_upto_if 27 with (go_at_call 4; refine CM.mono ?_; rintro e w2 ⟨b, rfl, hs, hb⟩; have HS : Hid (b = false → Sml p) := hs; have H2 : Hid (PB q W p.nm (.slice a0 n0 p0) (.slice a1 n1 p1) (.slice al L cl) w2) := H1.out.below hb; clear hs hb CM d0 d1 d2 d3; rcases b with _ | _)
  rotate_left
  · have CK := known_any (ea := ea) w2 (HE.out _ H2.out.old).1
    go_wp2_with (go_at_call 5; refine CK.mono ?_; rintro e w3 ⟨rfl, hb⟩; have H3 : Hid (Below q W w3) := sub_le H2.out.old hb (HE.out _ H2.out.old).2; clear hb CK)
    go_ret
    exact ⟨rfl, H3.out⟩
  have HSM : Hid (Sml p) := HS.out trivial
  have C3 := HCC.out HSM.out w2 H2.out.old
  obtain ⟨l9, hl9⟩ : ∃ l9, w2.heap.size = l9 := ⟨_, rfl⟩
  rw [hl9] at C3
  have HL9 : Hid (w2.heap.size = l9) := hl9
  have d0 := H2.out.c0
  have d1 := H2.out.c1
  have d2 := H2.out.c2
  have d3 := H2.out.c3
  clear hl9 hq
  go_upto_region 4 with (go_at_call 6; refine C3.mono ?_; rintro e w3 ⟨u0, u1, ul, rfl, ⟨f9, how⟩, hb⟩; (obtain ⟨⟨e0, y0, rfl⟩, ⟨e1, y1, rfl⟩, ⟨e2, y2, rfl⟩, -⟩ := how.1.sl); have H3 : Hid (PB q W p.nm (.slice a0 n0 p0) (.slice a1 n1 p1) (.slice al L cl) w3 ∧ OwI l9 w3.heap.size (.slice e0 p.b0.length y0) (.slice e1 p.b1.length y1) (.slice e2 f9.length y2) p f9 w3) := ⟨H2.out.below (by rw [HL9.out]; exact hb), how⟩; clear hb how C3 d0 d1 d2 d3)
  have hbx := ab_new w3 H3.out.2
  have hal : Below w3.heap.size w3 (w3.alloc (.cells #[.string p.nm, .slice e0 p.b0.length y0, .slice e1 p.b1.length y1, .slice e2 f9.length y2] 26)) := (Below.refl _ _).alloc (Nat.le_refl _) _
  have hpb := H3.out.1.below hal
  have hgz := size_alloc w3 (.cells #[.string p.nm, .slice e0 p.b0.length y0, .slice e1 p.b1.length y1, .slice e2 f9.length y2] 26)
  obtain ⟨g9, hg9⟩ : ∃ g9, w3.heap.size = g9 := ⟨_, rfl⟩
  obtain ⟨W4, hW4⟩ : ∃ W4, w3.alloc (.cells #[.string p.nm, .slice e0 p.b0.length y0, .slice e1 p.b1.length y1, .slice e2 f9.length y2] 26) = W4 := ⟨_, rfl⟩
  simp only [hg9, hW4] at hbx hpb hgz ⊢
  obtain ⟨q1, hq1⟩ : ∃ q1, W4.heap.size = q1 := ⟨_, rfl⟩
  have H4 : Hid (PW q q1 W p.nm (.slice a0 n0 p0) (.slice a1 n1 p1) (.slice al L cl) g9 (.slice e0 p.b0.length y0) (.slice e1 p.b1.length y1) (.slice e2 f9.length y2) p f9 l9 g9 W4 ∧ W4.heap.size = q1) := ⟨⟨hpb, hbx, by have := hpb.lt; omega, by omega, by omega⟩, hq1⟩
  have C4 := HCA.out HSM.out HN2.out W4 hpb.old
  rw [hq1] at C4
  have d0 := hpb.c0
  have d1 := hpb.c1
  have d2 := hpb.c2
  have d3 := hpb.c3
  clear hbx hal hpb hgz hg9 hW4 hq1 H3
  go_upto_region 5 with (go_at_call 7; refine C4.mono ?_; rintro e W5 ⟨vo1, rfl, ⟨A1, hal, hmp⟩, hb⟩; (obtain ⟨x1, z1, rfl⟩ := own_slice' hal.ro); have hA1 : A1.length = 12 := (by have := congrArg List.length hmp; rw [List.length_map, HK.out.1] at this; exact this); have H5 : Hid (Below q1 W4 W5 ∧ AL q1 (.slice x1 12 z1) A1 W5 ∧ A1.map (·.p) = K) := (by rw [hA1] at hal; exact ⟨hb, hal, hmp⟩); rw [hA1]; clear hb hal hmp hA1 C4 d0 d1 d2 d3)
  have hpw := H4.out.1.low H5.out.1 (Nat.le_refl _)
  obtain ⟨q2, hq2⟩ : ∃ q2, W5.heap.size = q2 := ⟨_, rfl⟩
  have HQ2 : Hid (W5.heap.size = q2 ∧ q1 ≤ q2) := ⟨hq2, by have := H5.out.1.size; have := H4.out.2; omega⟩
  have C5 := HCA.out HSM.out HN2.out W5 hpw.pb.old
  rw [hq2] at C5
  have d0 := hpw.pb.c0
  have d1 := hpw.pb.c1
  have d2 := hpw.pb.c2
  have d3 := hpw.pb.c3
  have H5p : Hid _ := hpw
  clear hpw hq2
  go_upto_region 6 with (go_at_call 7; refine C5.mono ?_; rintro e W6 ⟨vo2, rfl, ⟨A2, hal, hmp⟩, hb⟩; (obtain ⟨x2, z2, rfl⟩ := own_slice' hal.ro); have hA2 : A2.length = 12 := (by have := congrArg List.length hmp; rw [List.length_map, HK.out.1] at this; exact this); have H6 : Hid (Below q2 W5 W6 ∧ AL q2 (.slice x2 12 z2) A2 W6 ∧ A2.map (·.p) = K) := (by rw [hA2] at hal; exact ⟨hb, hal, hmp⟩); rw [hA2]; clear hb hal hmp hA2 C5 d0 d1 d2 d3)
  go_upto_region 9 with (fail)
  obtain ⟨q3, hq3⟩ : ∃ q3, W6.heap.size = q3 := ⟨_, rfl⟩
  have HQ3 : Hid (W6.heap.size = q3 ∧ q2 ≤ q3 ∧ q1 ≤ q2) := ⟨hq3, by have := H6.out.1.size; have := HQ2.out; omega, HQ2.out.2⟩
  have HP6 : Hid _ := H5p.out.low H6.out.1 HQ2.out.2
  have HA1 : Hid (AL q1 (.slice x1 12 z1) A1 W6) := H5.out.2.1.below (by rw [HQ2.out.1]; exact H6.out.1)
  have HA2 : Hid (AL q2 (.slice x2 12 z2) A2 W6) := H6.out.2.1
  have HM : Hid (A1.map (·.p) = K ∧ A2.map (·.p) = K ∧ K.length = 12) := ⟨H5.out.2.2, H6.out.2.2, HK.out.1⟩
  obtain ⟨g1, rfl⟩ := row_g HA1.out (by rw [map_len HM.out.1]; exact HM.out.2.2)
  obtain ⟨g2, rfl⟩ := row_g HA2.out (by rw [map_len HM.out.2.1]; exact HM.out.2.2)
  have HI1 : Hid ((∀ a ∈ A1, a.hi ≤ q2 ∧ q1 ≤ a.lo) ∧ g1 < q2 ∧ q1 ≤ g1) := ⟨fun a ha => ⟨by have := (H5.out.2.1.ok a ha).hz; have := HQ2.out.1; omega, HA1.out.ge a ha⟩, by have := (H5.out.2.1.ro.lt g1 rfl).2; have := HQ2.out.1; omega, (H5.out.2.1.ro.lt g1 rfl).1⟩
  have HI2 : Hid ((∀ a ∈ A2, a.hi ≤ q3 ∧ q2 ≤ a.lo) ∧ g2 < q3 ∧ q2 ≤ g2) := ⟨fun a ha => ⟨by have := (HA2.out.ok a ha).hz; have := HQ3.out.1; omega, HA2.out.ge a ha⟩, by have := (HA2.out.ro.lt g2 rfl).2; have := HQ3.out.1; omega, (HA2.out.ro.lt g2 rfl).1⟩
  have HV : Hid ((∀ a ∈ A1, lvl a.fs = a.p.ln) ∧ ∀ a ∈ A2, lvl a.fs = a.p.ln) := ⟨fun a ha => (HA1.out.ok a ha).1.1, fun a ha => (HA2.out.ok a ha).1.1⟩
  clear H5p hq3 hW1 H5 H6
  go_wp2
  go_loopw [12, 13] (fun v12 v13 wr => ∃ (i : Nat) (xw : Option Addr) (zw : Nat) (Aw : List AP), i ≤ 12 ∧ v13 = .int .i64 i ∧ v12 = .slice xw i zw ∧ AL q3 (.slice xw i zw) Aw wr ∧ Aw.map (·.p) = K.take i ∧ Below q3 W6 wr) (fun _ v _ => 12 - (intOf v).toNat)
  case atStart => exact ⟨0, none, 0, [], Nat.zero_le _, rfl, rfl, al_nil _ _, rfl, Below.refl _ _⟩
  case round =>
    obtain ⟨i, xw, zw, Aw, hi, rfl, rfl, hAw, hmw, hbw⟩ := hrel
    have HR : Hid (AL q3 (.slice xw i zw) Aw wr ∧ Aw.map (·.p) = K.take i ∧ Below q3 W6 wr) := ⟨hAw, hmw, hbw⟩
    have HB : Hid (Below W6.heap.size W6 wr) := by rw [HQ3.out.1]; exact hbw
    clear hAw hmw hbw
    by_cases hlt : i < 12
    · have c1 : (i : Int) < 12 := by omega
      have c0 : (0 : Int) ≤ (i : Int) := by omega
      obtain ⟨a, ha, hKa⟩ := map_at HM.out.1 (i := i) (by rw [HM.out.2.2]; exact hlt)
      obtain ⟨b, hb, hKb⟩ := map_at HM.out.2.1 (i := i) (by rw [HM.out.2.2]; exact hlt)
      have hab : b.p = a.p := by rw [hKa] at hKb; injection hKb with h; exact h.symm
      have HAB : Hid (A1[i]? = some a ∧ A2[i]? = some b ∧ K[i]? = some a.p ∧ b.p = a.p ∧ Sz a.p ∧ i < 12) := ⟨ha, hb, hKa, hab, HK.out.2 _ (List.mem_of_getElem? hKa), hlt⟩
      have CS1 : Hid (∀ Y, Below wr.heap.size wr Y → Calls Tryz.prog 8 #[.agg #[.string a.p.nm, a.v0, a.v1, a.vl], .agg #[.string a.p.nm, b.v0, b.v1, b.vl]] Y fun e w' => e = .returned (.bool true) ∧ Below Y.heap.size Y w') := fun Y hY => by
        have hB2 : Below W6.heap.size W6 Y := HB.out.trans (hY.mono HB.out.size)
        have r1 := ((HA1.out.below hB2).ok a (List.mem_of_getElem? ha)).rd HAB.out.2.2.2.2.1
        have r2 := ((HA2.out.below hB2).ok b (List.mem_of_getElem? hb)).rd (by rw [hab]; exact HAB.out.2.2.2.2.1)
        rw [hab] at r2
        exact same_true r1 r2
      have HX : Hid (∀ Y, Below wr.heap.size wr Y → (Y.cell? ⟨g1, i * 4, none⟩ = some (.string a.p.nm) ∧ Y.cell? ⟨g1, i * 4 + 1, none⟩ = some a.v0 ∧ Y.cell? ⟨g1, i * 4 + 2, none⟩ = some a.v1 ∧ Y.cell? ⟨g1, i * 4 + 3, none⟩ = some a.vl) ∧ (Y.cell? ⟨g2, i * 4, none⟩ = some (.string a.p.nm) ∧ Y.cell? ⟨g2, i * 4 + 1, none⟩ = some b.v0 ∧ Y.cell? ⟨g2, i * 4 + 2, none⟩ = some b.v1 ∧ Y.cell? ⟨g2, i * 4 + 3, none⟩ = some b.vl)) := fun Y hY => by
        have hB2 : Below W6.heap.size W6 Y := HB.out.trans (hY.mono HB.out.size)
        have h' := row_at2 (HA2.out.below hB2).ro hb
        rw [hab] at h'
        exact ⟨row_at2 (HA1.out.below hB2).ro ha, h'⟩
      clear ha hb hKa hKb hab hi hlt
      go_upto_region 12 with (fail)
      refine Go.Pin.wp_region_cls (fun Y => Below wr.heap.size wr Y) (by kernel_rfl) (by kernel_rfl) ((Below.refl _ _).drew) ?_
      intro Sq fq hNq hRq hSq
      have s0 := fun x => (HX.out _ (hRq x)).1.1
      have s1 := fun x => (HX.out _ (hRq x)).1.2.1
      have s2 := fun x => (HX.out _ (hRq x)).1.2.2.1
      have s3 := fun x => (HX.out _ (hRq x)).1.2.2.2
      have t0 := fun x => (HX.out _ (hRq x)).2.1
      have t1 := fun x => (HX.out _ (hRq x)).2.2.1
      have t2 := fun x => (HX.out _ (hRq x)).2.2.2.1
      have t3 := fun x => (HX.out _ (hRq x)).2.2.2.2
      have C1 := fun x => CS1.out (fq x) (hRq x)
      repeat (go_big_quiet_step (exact (C1 _).mono (fun e w' h => ⟨h.1, hSq _ ((hRq _).trans (h.2.mono (hRq _).size))⟩)))
      refine wpQuiet_nil ?_
      intro _ hw'
      obtain ⟨xq, hw''⟩ := hw'
      subst hw''
      have HYq := hRq xq
      generalize fq xq = Y at HYq ⊢
      clear hRq hSq hNq xq fq Sq s0 s1 s2 s3 t0 t1 t2 t3 C1
      have HY : Hid (Below wr.heap.size wr Y) := HYq
      have hx := HX.out Y HYq
      have s0 := hx.1.1
      have s1 := hx.1.2.1
      have s2 := hx.1.2.2.1
      have s3 := hx.1.2.2.2
      have hB2 : Below W6.heap.size W6 Y := HB.out.trans (HYq.mono HB.out.size)
      have CC1 := copied_own (.agg #[.string a.p.nm, a.v0, a.v1, a.vl]) a.p Y (((HA1.out.below hB2).ok a (List.mem_of_getElem? HAB.out.1)).rd HAB.out.2.2.2.2.1) HAB.out.2.2.2.2.1.big
      have HQY : Hid (AL q3 (.slice xw i zw) Aw Y ∧ q3 ≤ Y.heap.size ∧ Below q3 W6 Y) := ⟨HR.out.1.below HYq, by have := hB2.size; have := HQ3.out.1; omega, by rw [← HQ3.out.1]; exact hB2⟩
      clear hx hB2 HYq
      go_upto_region 11 with (first
        | (go_at_call 6; refine CC1.mono ?_; rintro e w8 ⟨u0, u1, ul, rfl, ⟨f8, how⟩, hb⟩; (obtain ⟨⟨r0, o0, rfl⟩, ⟨r1, o1, rfl⟩, ⟨r2, o2, rfl⟩, -⟩ := how.1.sl); have HAPP : Hid (∀ ty, ∃ v' w', (Builtin.append_ #[31, 31] ty #[.slice xw i zw, .slice (some ⟨w8.heap.size, 0, none⟩) 1 1]).run Tryz.prog (w8.alloc (.cells #[.string a.p.nm, .slice r0 a.p.b0.length o0, .slice r1 a.p.b1.length o1, .slice r2 f8.length o2] 26)) = .ok v' w' ∧ (∃ A', AL q3 v' A' w' ∧ A'.map (·.p) = K.take (i + 1)) ∧ (∃ a' c, v' = .slice a' (i + 1) c) ∧ Below q3 Y w') := HQY.out.1.snoc HR.out.2.1 (by rw [HM.out.2.2]; exact HAB.out.2.2.2.2.2) HM.out.2.2 HAB.out.2.2.1 hb how HQY.out.2.1; clear hb how CC1 s0 s1 s2 s3)
        | (at_builtin; go_loud (refine wpList_app _ rfl _ _ 31 31 rfl _ _ rfl rfl HAPP.out ?_; rintro v9 w9 ⟨⟨A9, hal9, hm9⟩, ⟨x9, z9, rfl⟩, hb9⟩; have H9 : Hid (AL q3 (.slice x9 (i + 1) z9) A9 w9 ∧ A9.map (·.p) = K.take (i + 1) ∧ Below q3 W6 w9) := ⟨hal9, hm9, HQY.out.2.2.trans hb9⟩; clear hal9 hm9 hb9)))
      go_wp2
      exact ⟨⟨i + 1, x9, z9, A9, HAB.out.2.2.2.2.2, congrArg (Value.int .i64) (Int.natCast_succ i).symm, rfl, H9.out⟩, by have := HAB.out.2.2.2.2.2; show 12 - ((i : Int) + 1).toNat < 12 - ((i : Int)).toNat; omega⟩
    · obtain rfl : i = 12 := by omega
      have hK12 : K.take 12 = K := List.take_of_length_le (by rw [HM.out.2.2]; exact Nat.le_refl _)
      have hm3 := HR.out.2.1
      rw [hK12] at hm3
      obtain ⟨g3, rfl⟩ := row_g HR.out.1 (by rw [map_len hm3]; exact HM.out.2.2)
      have HW7 : Hid (AL q3 (.slice (some ⟨g3, 0, none⟩) 12 zw) Aw wr ∧ Aw.map (·.p) = K) := ⟨HR.out.1, hm3⟩
      have HP7 : Hid _ := HP6.out.low HR.out.2.2 (by have := HQ3.out; omega)
      have HA17 : Hid _ := HA1.out.below HB.out
      have HA27 : Hid _ := HA2.out.below HB.out
      have HZ7 : Hid (q3 ≤ wr.heap.size) := by have := HB.out.size; have := HQ3.out.1; show q3 ≤ wr.heap.size; omega
      rw [show ((12 : Nat) : Int) = 12 from rfl]
      clear hm3 hK12 HR HB HA1 HA2 HP6 hi hlt
      go_upto_region 15 with (fail)
      obtain ⟨W7, hW7⟩ : ∃ W7, wr = W7 := ⟨_, rfl⟩
      rw [hW7] at HW7 HP7 HA17 HA27 HZ7 ⊢
      clear hW7 wr
      go_wp2
      go_loopw [14] (fun v14 wr => ∃ (i : Nat), i ≤ 12 ∧ v14 = .int .i64 i ∧ AL q1 (.slice (some ⟨g1, 0, none⟩) 12 z1) (filA mk1 A1 i) wr ∧ Ch q1 q2 W7 wr) (fun v _ => 12 - (intOf v).toNat)
      case atStart => exact ⟨0, Nat.zero_le _, rfl, HA17.out, Ch.refl _ _ _⟩
      case round =>
        obtain ⟨i, hi, rfl, hA, hch⟩ := hrel
        have HR : Hid (AL q1 (.slice (some ⟨g1, 0, none⟩) 12 z1) (filA mk1 A1 i) wr ∧ Ch q1 q2 W7 wr) := ⟨hA, hch⟩
        clear hA hch
        by_cases hlt : i < 12
        · have c1 : (i : Int) < 12 := by omega
          have c0 : (0 : Int) ≤ (i : Int) := by omega
          obtain ⟨a, ha, hKa⟩ := map_at HM.out.1 (i := i) (by rw [HM.out.2.2]; exact hlt)
          have h1 := filA_at mk1 A1 i i a ha
          rw [if_neg (Nat.lt_irrefl _)] at h1
          obtain ⟨s0, s1, s2, s3⟩ := row_at2 HR.out.1.ro h1
          have CF := fill_at HR.out.1 ha (HK.out.2 _ (List.mem_of_getElem? hKa)) (mk_ok hlt).1
          have HAB : Hid (A1[i]? = some a ∧ i < 12) := ⟨ha, hlt⟩
          unfold mk1 at CF
          clear h1 ha hKa hi hlt
          go_upto_region 17 with (go_at_call 9; refine CF.mono ?_; rintro e w8 ⟨rfl, hal, hch⟩; have H8 : Hid (AL q1 (.slice (some ⟨g1, 0, none⟩) 12 z1) (filA mk1 A1 (i + 1)) w8 ∧ Ch q1 q2 W7 w8) := ⟨hal, HR.out.2.then hch (HI1.out.1 a (List.mem_of_getElem? HAB.out.1)).2 (HI1.out.1 a (List.mem_of_getElem? HAB.out.1)).1⟩; clear hal hch CF s0 s1 s2 s3)
          go_wp2
          exact ⟨⟨i + 1, HAB.out.2, congrArg (Value.int .i64) (Int.natCast_succ i).symm, H8.out⟩, by have := HAB.out.2; show 12 - ((i : Int) + 1).toNat < 12 - ((i : Int)).toNat; omega⟩
        · obtain rfl : i = 12 := by omega
          have HB18 : Hid (AL q1 (.slice (some ⟨g1, 0, none⟩) 12 z1) (filA mk1 A1 12) wr) := HR.out.1
          have HW8 : Hid (AL q3 (.slice (some ⟨g3, 0, none⟩) 12 zw) Aw wr ∧ Aw.map (·.p) = K) := ⟨HW7.out.1.ch HR.out.2 HQ3.out.2.1, HW7.out.2⟩
          have HP8 : Hid _ := HP7.out.low HR.out.2.1 (Nat.le_refl _)
          have HA28 : Hid _ := HA27.out.ch HR.out.2 (Nat.le_refl _)
          have HZ8 : Hid (q3 ≤ wr.heap.size) := Nat.le_trans HZ7.out HR.out.2.1.size
          rw [show ((12 : Nat) : Int) = 12 from rfl]
          clear HR HW7 HP7 HA17 HA27 HZ7 hi hlt
          go_upto_region 19 with (fail)
          obtain ⟨W8, hW8⟩ : ∃ W8, wr = W8 := ⟨_, rfl⟩
          rw [hW8] at HB18 HW8 HP8 HA28 HZ8 ⊢
          clear hW8 wr
          go_wp2
          go_loopw [15] (fun v15 wr => ∃ (i : Nat), i ≤ 12 ∧ v15 = .int .i64 i ∧ AL q2 (.slice (some ⟨g2, 0, none⟩) 12 z2) (filA mk2 A2 i) wr ∧ Ch q2 q3 W8 wr) (fun v _ => 12 - (intOf v).toNat)
          case atStart => exact ⟨0, Nat.zero_le _, rfl, HA28.out, Ch.refl _ _ _⟩
          case round =>
            obtain ⟨i, hi, rfl, hA, hch⟩ := hrel
            have HR : Hid (AL q2 (.slice (some ⟨g2, 0, none⟩) 12 z2) (filA mk2 A2 i) wr ∧ Ch q2 q3 W8 wr) := ⟨hA, hch⟩
            clear hA hch
            by_cases hlt : i < 12
            · have c1 : (i : Int) < 12 := by omega
              have c0 : (0 : Int) ≤ (i : Int) := by omega
              obtain ⟨b, hb, hKb⟩ := map_at HM.out.2.1 (i := i) (by rw [HM.out.2.2]; exact hlt)
              obtain ⟨c, hc, hKc⟩ := map_at HW8.out.2 (i := i) (by rw [HM.out.2.2]; exact hlt)
              have hbc : c.p = b.p := by rw [hKb] at hKc; injection hKc with h; exact h.symm
              have h1 := filA_at mk2 A2 i i b hb
              rw [if_neg (Nat.lt_irrefl _)] at h1
              have HAB : Hid (A2[i]? = some b ∧ (filA mk2 A2 i)[i]? = some b ∧ Sz b.p ∧ i < 12) := ⟨hb, h1, HK.out.2 _ (List.mem_of_getElem? hKb), hlt⟩
              have HW9 : Hid (AL q3 (.slice (some ⟨g3, 0, none⟩) 12 zw) Aw wr) := HW8.out.1.ch HR.out.2 (Nat.le_refl _)
              have CS1 : Hid (∀ Y, Below wr.heap.size wr Y → Calls Tryz.prog 8 #[.agg #[.string b.p.nm, b.v0, b.v1, b.vl], .agg #[.string b.p.nm, c.v0, c.v1, c.vl]] Y fun e w' => e = .returned (.bool true) ∧ Below Y.heap.size Y w') := fun Y hY => by
                have r1 := ((HR.out.1.below hY).ok b (List.mem_of_getElem? h1)).rd HAB.out.2.2.1
                have r2 := ((HW9.out.below hY).ok c (List.mem_of_getElem? hc)).rd (by rw [hbc]; exact HAB.out.2.2.1)
                rw [hbc] at r2
                exact same_true r1 r2
              have HX : Hid (∀ Y, Below wr.heap.size wr Y → (Y.cell? ⟨g2, i * 4, none⟩ = some (.string b.p.nm) ∧ Y.cell? ⟨g2, i * 4 + 1, none⟩ = some b.v0 ∧ Y.cell? ⟨g2, i * 4 + 2, none⟩ = some b.v1 ∧ Y.cell? ⟨g2, i * 4 + 3, none⟩ = some b.vl) ∧ (Y.cell? ⟨g3, i * 4, none⟩ = some (.string b.p.nm) ∧ Y.cell? ⟨g3, i * 4 + 1, none⟩ = some c.v0 ∧ Y.cell? ⟨g3, i * 4 + 2, none⟩ = some c.v1 ∧ Y.cell? ⟨g3, i * 4 + 3, none⟩ = some c.vl)) := fun Y hY => by
                have h' := row_at2 (HW9.out.below hY).ro hc
                rw [hbc] at h'
                exact ⟨row_at2 (HR.out.1.below hY).ro h1, h'⟩
              clear hb hc hKb hKc hbc h1 hi hlt
              go_upto_region 22 with (fail)
              refine Go.Pin.wp_region_cls (fun Y => Below wr.heap.size wr Y) (by kernel_rfl) (by kernel_rfl) ((Below.refl _ _).drew) ?_
              intro Sq fq hNq hRq hSq
              have s0 := fun x => (HX.out _ (hRq x)).1.1
              have s1 := fun x => (HX.out _ (hRq x)).1.2.1
              have s2 := fun x => (HX.out _ (hRq x)).1.2.2.1
              have s3 := fun x => (HX.out _ (hRq x)).1.2.2.2
              have t0 := fun x => (HX.out _ (hRq x)).2.1
              have t1 := fun x => (HX.out _ (hRq x)).2.2.1
              have t2 := fun x => (HX.out _ (hRq x)).2.2.2.1
              have t3 := fun x => (HX.out _ (hRq x)).2.2.2.2
              have C1 := fun x => CS1.out (fq x) (hRq x)
              repeat (go_big_quiet_step (exact (C1 _).mono (fun e w' h => ⟨h.1, hSq _ ((hRq _).trans (h.2.mono (hRq _).size))⟩)))
              refine wpQuiet_nil ?_
              intro _ hw'
              obtain ⟨xq, hw''⟩ := hw'
              subst hw''
              have HYq := hRq xq
              generalize fq xq = Y at HYq ⊢
              clear hRq hSq hNq xq fq Sq s0 s1 s2 s3 t0 t1 t2 t3 C1
              have hx := HX.out Y HYq
              have s0 := hx.1.1
              have s1 := hx.1.2.1
              have s2 := hx.1.2.2.1
              have s3 := hx.1.2.2.2
              have HRY : Hid (AL q2 (.slice (some ⟨g2, 0, none⟩) 12 z2) (filA mk2 A2 i) Y ∧ Ch q2 q3 W8 Y) := ⟨HR.out.1.below HYq, HR.out.2.below HYq HR.out.2.1.size (by have := HR.out.2.1.size; have := HZ8.out; have := HQ3.out; omega)⟩
              have CF := fill_at HRY.out.1 HAB.out.1 HAB.out.2.2.1 (mk_ok HAB.out.2.2.2).2
              unfold mk2 at CF
              clear hx HYq HX CS1
              go_upto_region 21 with (go_at_call 9; refine CF.mono ?_; rintro e w9 ⟨rfl, hal, hch⟩; have H9 : Hid (AL q2 (.slice (some ⟨g2, 0, none⟩) 12 z2) (filA mk2 A2 (i + 1)) w9 ∧ Ch q2 q3 W8 w9) := ⟨hal, HRY.out.2.then hch (HI2.out.1 b (List.mem_of_getElem? HAB.out.1)).2 (HI2.out.1 b (List.mem_of_getElem? HAB.out.1)).1⟩; clear hal hch CF s0 s1 s2 s3)
              go_wp2
              exact ⟨⟨i + 1, HAB.out.2.2.2, congrArg (Value.int .i64) (Int.natCast_succ i).symm, H9.out⟩, by have := HAB.out.2.2.2; show 12 - ((i : Int) + 1).toNat < 12 - ((i : Int)).toNat; omega⟩
            · obtain rfl : i = 12 := by omega
              have hi1 : ∀ a ∈ filA mk1 A1 12, a.hi ≤ q2 := filA_map _ _ _ (fun a => a.hi ≤ q2) (fun a ha => ⟨(HI1.out.1 a ha).1, fun _ => (HI1.out.1 a ha).1⟩)
              have hi2 : ∀ a ∈ filA mk2 A2 12, a.hi ≤ q3 := filA_map _ _ _ (fun a => a.hi ≤ q3) (fun a ha => ⟨(HI2.out.1 a ha).1, fun _ => (HI2.out.1 a ha).1⟩)
              have hz9 : q3 ≤ wr.heap.size := Nat.le_trans HZ8.out HR.out.2.1.size
              have hgg := gg_start (m1 := mk1) (m2 := mk2) (HB18.out.chl HR.out.2 hi1 (fun g hg => by have e : some g1 = some g := hg; injection e with e; have := HI1.out.2.1; omega)) HR.out.1 hi1 hi2 (fun g hg => by have e : some g1 = some g := hg; injection e with e; have := HI1.out.2.1; omega) (fun g hg => by have e : some g2 = some g := hg; injection e with e; have := HI2.out.2.1; omega) HQ3.out.2.1 hz9
              have hff1 := ff_of (m := mk1) HM.out.1 HM.out.2.2 HK.out.2 HV.out.1
              have hff2 := ff_of (m := mk2) HM.out.2.1 HM.out.2.2 HK.out.2 HV.out.2
              have HW9 : Hid (AL q3 (.slice (some ⟨g3, 0, none⟩) 12 zw) Aw wr ∧ Aw.map (·.p) = K) := ⟨HW8.out.1.ch HR.out.2 (Nat.le_refl _), HW8.out.2⟩
              have HP9 : Hid _ := HP8.out.low HR.out.2.1 HQ3.out.2.2
              generalize filA mk1 A1 12 = B1 at hgg hff1 hi1
              generalize filA mk2 A2 12 = B2 at hgg hff2 hi2
              obtain ⟨q4, hq4⟩ : ∃ q4, wr.heap.size = q4 := ⟨_, rfl⟩
              rw [hq4] at hgg hz9
              have HG9 : Hid (GG q1 q2 q2 q3 q4 0 (.slice (some ⟨g1, 0, none⟩) 12 z1) (.slice (some ⟨g2, 0, none⟩) 12 z2) B1 B2 mk1 mk2 [] [] (.slice none 0 0) wr ∧ wr.heap.size = q4 ∧ q3 ≤ q4) := ⟨hgg, hq4, hz9⟩
              have HFF : Hid (FF mk1 B1 ∧ FF mk2 B2) := ⟨hff1, hff2⟩
              rw [show ((12 : Nat) : Int) = 12 from rfl]
              clear hgg hff1 hff2 hi1 hi2 hz9 hq4 HR HB18 HW8 HP8 HA28 HZ8 hi hlt
              go_upto_region 26 with (fail)
              obtain ⟨W9, hW9⟩ : ∃ W9, wr = W9 := ⟨_, rfl⟩
              rw [hW9] at HW9 HP9 HG9 ⊢
              clear hW9 wr
              go_wp2
              go_loopw [16, 17] (fun v16 v17 wr => ∃ (i m : Nat) (xg : Option Addr) (zg : Nat) (Z1 Z2 : List ZG), i ≤ 12 ∧ v17 = .int .i64 i ∧ v16 = .slice xg m zg ∧ m = 2 * i ∧ Z1.length = i ∧ Z2.length = i ∧ GG q1 q2 q2 q3 q4 i (.slice (some ⟨g1, 0, none⟩) 12 z1) (.slice (some ⟨g2, 0, none⟩) 12 z2) B1 B2 mk1 mk2 Z1 Z2 (.slice xg m zg) wr ∧ Ch q1 q3 W9 wr) (fun _ v _ => 12 - (intOf v).toNat)
              case atStart => exact ⟨0, 0, none, 0, [], [], Nat.zero_le _, rfl, rfl, rfl, rfl, rfl, HG9.out.1, Ch.refl _ _ _⟩
              case round =>
                obtain ⟨i, m, xg, zg, Z1, Z2, hi, rfl, rfl, hm, hl1, hl2, hgg, hch⟩ := hrel
                have HR : Hid (GG q1 q2 q2 q3 q4 i (.slice (some ⟨g1, 0, none⟩) 12 z1) (.slice (some ⟨g2, 0, none⟩) 12 z2) B1 B2 mk1 mk2 Z1 Z2 (.slice xg m zg) wr ∧ Ch q1 q3 W9 wr ∧ m = 2 * i ∧ Z1.length = i ∧ Z2.length = i) := ⟨hgg, hch, hm, hl1, hl2⟩
                clear hgg hch hl1 hl2 hm
                by_cases hlt : i < 12
                · have c1 : (i : Int) < 12 := by omega
                  have c0 : (0 : Int) ≤ (i : Int) := by omega
                  obtain ⟨a', ha, hsa, -⟩ := HFF.out.1.2 i hlt
                  obtain ⟨b', hb, hsb, -⟩ := HFF.out.2.2 i hlt
                  generalize AP.fil (mk1 i) a' = a at ha hsa
                  generalize AP.fil (mk2 i) b' = b at hb hsb
                  have HAB : Hid (B1[i]? = some a ∧ B2[i]? = some b ∧ Sz a.p ∧ Sz b.p ∧ i < 12) := ⟨ha, hb, hsa, hsb, hlt⟩
                  clear ha hb hsa hsb hi hlt a' b'
                  go_upto_region 29 with (fail)
                  have hgd := HR.out.1.below (Below.refl wr.heap.size wr).drew
                  have hbd : Below wr.heap.size wr wr.drew := (Below.refl _ _).drew
                  obtain ⟨wd, hwd⟩ : ∃ wd, wr.drew = wd := ⟨_, rfl⟩
                  rw [hwd] at hgd hbd
                  have hS0 : C4 g1 i a wd ∧ C4 g2 i b wd := hgd.c4 HAB.out.1 HAB.out.2.1
                  refine Go.Pin.wp_region_hcls (fun Y => C4 g1 i a Y ∧ C4 g2 i b Y) 21 (by rfl) (by kernel_rfl) (by rw [hwd]; exact hS0) ?_
                  intro Sq fq hNq hRq hSq
                  rw [hwd]
                  have s0 := fun x => (hRq x).1.1
                  have s1 := fun x => (hRq x).1.2.1
                  have s2 := fun x => (hRq x).1.2.2.1
                  have s3 := fun x => (hRq x).1.2.2.2
                  have t0 := fun x => (hRq x).2.1
                  have t1 := fun x => (hRq x).2.2.1
                  have t2 := fun x => (hRq x).2.2.2.1
                  have t3 := fun x => (hRq x).2.2.2.2
                  have HGD : Hid _ := hgd
                  have HBD : Hid (Below wr.heap.size wr wd) := hbd
                  have st0 : C4 g1 i a wd ∧ C4 g2 i b wd := hS0
                  clear hgd hbd hS0 hwd
                  refine Go.Pin.takeQ 0 (by simp only [List.getElem?_toArray, List.getElem?_cons_zero, List.getElem?_cons_succ]; exact rfl) (by kernel_rfl) (by kernel_rfl) (by kernel_rfl) (by rfl) (fun _ _ d _ _ h => by cases d <;> exact h) (st0) (hSq).out (by kernel_rfl) ?_
                  intro Kq hKq
                  go_big_quiet_op
                  go_big_quiet_on
                  refine Go.Pin.takeQ 1 (by simp only [List.getElem?_toArray, List.getElem?_cons_zero, List.getElem?_cons_succ]; exact rfl) (by kernel_rfl) (by kernel_rfl) (by kernel_rfl) (by rfl) (fun _ _ d _ _ h => by cases d <;> exact h) (st0) (hSq).out (by kernel_rfl) ?_
                  intro Kq hKq
                  go_big_quiet_op
                  go_big_quiet_on
                  refine Go.Pin.takeQ 2 (by simp only [List.getElem?_toArray, List.getElem?_cons_zero, List.getElem?_cons_succ]; exact rfl) (by kernel_rfl) (by kernel_rfl) (by kernel_rfl) (by rfl) (fun _ _ d _ _ h => by cases d <;> exact h) (st0) (hSq).out (by kernel_rfl) ?_
                  intro Kq hKq
                  go_big_quiet_op
                  go_big_quiet_on
                  refine Go.Pin.takeQ 3 (by simp only [List.getElem?_toArray, List.getElem?_cons_zero, List.getElem?_cons_succ]; exact rfl) (by kernel_rfl) (by kernel_rfl) (by kernel_rfl) (by rfl) (fun _ _ d _ _ h => by cases d <;> exact h) (st0) (hSq).out (by kernel_rfl) ?_
                  intro Kq hKq
                  go_big_quiet_op
                  go_big_quiet_on
                  refine Go.Pin.takeQ 4 (by simp only [List.getElem?_toArray, List.getElem?_cons_zero, List.getElem?_cons_succ]; exact rfl) (by kernel_rfl) (by kernel_rfl) (by kernel_rfl) (by rfl) (fun _ _ d _ _ h => by cases d <;> exact h) (st0) (hSq).out (by kernel_rfl) ?_
                  intro Kq hKq
                  go_big_quiet_op
                  go_big_quiet_on
                  refine Go.Pin.takeQ 5 (by simp only [List.getElem?_toArray, List.getElem?_cons_zero, List.getElem?_cons_succ]; exact rfl) (by kernel_rfl) (by kernel_rfl) (by kernel_rfl) (by rfl) (fun _ _ d _ _ h => by cases d <;> exact h) (st0) (hSq).out (by kernel_rfl) ?_
                  intro Kq hKq
                  go_big_quiet_op
                  go_big_quiet_on
                  refine Go.Pin.takeQ 6 (by simp only [List.getElem?_toArray, List.getElem?_cons_zero, List.getElem?_cons_succ]; exact rfl) (by kernel_rfl) (by kernel_rfl) (by kernel_rfl) (by rfl) (fun _ _ d _ _ h => by cases d <;> exact h) (st0) (hSq).out (by kernel_rfl) ?_
                  intro Kq hKq
                  go_big_quiet_op
                  go_big_quiet_on
                  refine Go.Pin.takeQ 7 (by simp only [List.getElem?_toArray, List.getElem?_cons_zero, List.getElem?_cons_succ]; exact rfl) (by kernel_rfl) (by kernel_rfl) (by kernel_rfl) (by rfl) (fun _ _ d _ _ h => by cases d <;> exact h) (st0) (hSq).out (by kernel_rfl) ?_
                  intro Kq hKq
                  go_big_quiet_op
                  go_big_quiet_on
                  refine Go.Pin.takeQ 9 (by simp only [List.getElem?_toArray, List.getElem?_cons_zero, List.getElem?_cons_succ]; exact rfl) (by kernel_rfl) (by kernel_rfl) (by kernel_rfl) (by rfl) (fun _ _ d _ _ h => by cases d <;> exact h) (st0) (hSq).out (by kernel_rfl) ?_
                  intro Kq hKq
                  go_big_quiet_op
                  go_big_quiet_on
                  refine Go.Pin.takeQ 10 (by simp only [List.getElem?_toArray, List.getElem?_cons_zero, List.getElem?_cons_succ]; exact rfl) (by kernel_rfl) (by kernel_rfl) (by kernel_rfl) (by rfl) (fun _ _ d _ _ h => by cases d <;> exact h) (st0) (hSq).out (by kernel_rfl) ?_
                  intro Kq hKq
                  go_big_quiet_op
                  go_big_quiet_on
                  refine Go.Pin.takeQ 11 (by simp only [List.getElem?_toArray, List.getElem?_cons_zero, List.getElem?_cons_succ]; exact rfl) (by kernel_rfl) (by kernel_rfl) (by kernel_rfl) (by rfl) (fun _ _ d _ _ h => by cases d <;> exact h) (st0) (hSq).out (by kernel_rfl) ?_
                  intro Kq hKq
                  go_big_quiet_op
                  go_big_quiet_on
                  refine Go.Pin.takeQ 12 (by simp only [List.getElem?_toArray, List.getElem?_cons_zero, List.getElem?_cons_succ]; exact rfl) (by kernel_rfl) (by kernel_rfl) (by kernel_rfl) (by rfl) (fun _ _ d _ _ h => by cases d <;> exact h) (st0) (hSq).out (by kernel_rfl) ?_
                  intro Kq hKq
                  go_big_quiet_op
                  go_big_quiet_on
                  refine Go.Pin.takeQ 13 (by simp only [List.getElem?_toArray, List.getElem?_cons_zero, List.getElem?_cons_succ]; exact rfl) (by kernel_rfl) (by kernel_rfl) (by kernel_rfl) (by rfl) (fun _ _ d _ _ h => by cases d <;> exact h) (st0) (hSq).out (by kernel_rfl) ?_
                  intro Kq hKq
                  go_big_quiet_op
                  go_big_quiet_on
                  refine Go.Pin.takeQ 14 (by simp only [List.getElem?_toArray, List.getElem?_cons_zero, List.getElem?_cons_succ]; exact rfl) (by kernel_rfl) (by kernel_rfl) (by kernel_rfl) (by rfl) (fun _ _ d _ _ h => by cases d <;> exact h) (st0) (hSq).out (by kernel_rfl) ?_
                  intro Kq hKq
                  go_big_quiet_op
                  go_big_quiet_on
                  refine Go.Pin.takeQ 15 (by simp only [List.getElem?_toArray, List.getElem?_cons_zero, List.getElem?_cons_succ]; exact rfl) (by kernel_rfl) (by kernel_rfl) (by kernel_rfl) (by rfl) (fun _ _ d _ _ h => by cases d <;> exact h) (st0) (hSq).out (by kernel_rfl) ?_
                  intro Kq hKq
                  go_big_quiet_op
                  go_big_quiet_on
                  refine Go.Pin.takeQ 16 (by simp only [List.getElem?_toArray, List.getElem?_cons_zero, List.getElem?_cons_succ]; exact rfl) (by kernel_rfl) (by kernel_rfl) (by kernel_rfl) (by rfl) (fun _ _ d _ _ h => by cases d <;> exact h) (st0) (hSq).out (by kernel_rfl) ?_
                  intro Kq hKq
                  go_big_quiet_op
                  go_big_quiet_on
                  have CG1 := grow_at (mk := mk1 i) (HGD.out.s1.ok i a HAB.out.1 (by rw [HR.out.2.2.2.1]; exact Nat.le_refl _)) HAB.out.2.2.1 (mk_ok HAB.out.2.2.2.2).1
                  unfold mk1 at CG1
                  refine Go.Pin.readyQ 8 (by simp only [List.getElem?_toArray, List.getElem?_cons_zero, List.getElem?_cons_succ]; exact rfl) (by kernel_rfl) (by kernel_rfl) ?_
                  intro K hK
                  refine wpCallV (d := some 123) (f := 10) rfl rfl (args := #[.agg #[.string a.p.nm, a.v0, a.v1, a.vl], .int .i64 (1000 * ((i : Int) + 1))]) (by simp only [List.map_toArray, List.map_cons, List.map_nil]; rfl) (fun _ => rfl) CG1 ?_
                  rintro x w1 ⟨aT, nT, cT, aL, nL, cL, rfl, hG1, hC1⟩
                  have gg1 := HGD.out.grow1 HR.out.2.2.2.1 HAB.out.1 hG1 hC1
                  have st1 : C4 g1 i a w1 ∧ C4 g2 i b w1 := gg1.c4 HAB.out.1 HAB.out.2.1
                  refine hK _ _ st1 ?_
                  simp only [Act.put, List.setIfInBounds_toArray, List.set_cons_zero, List.set_cons_succ]
                  clear hK K CG1
                  have CG2 := grow_at (mk := mk2 i) (gg1.s2.ok i b HAB.out.2.1 (by rw [HR.out.2.2.2.2]; exact Nat.le_refl _)) HAB.out.2.2.2.1 (mk_ok HAB.out.2.2.2.2).2
                  unfold mk2 at CG2
                  refine Go.Pin.readyQ 17 (by simp only [List.getElem?_toArray, List.getElem?_cons_zero, List.getElem?_cons_succ]; exact rfl) (by kernel_rfl) (by kernel_rfl) ?_
                  intro K hK
                  refine wpCallV (d := some 132) (f := 10) rfl rfl (args := #[.agg #[.string b.p.nm, b.v0, b.v1, b.vl], .int .i64 (1000 * ((i : Int) + 1) + 500)]) (by simp only [List.map_toArray, List.map_cons, List.map_nil]; rfl) (fun _ => rfl) CG2 ?_
                  rintro x w2 ⟨bT, mT, dT, bL, mL, dL, rfl, hG2, hC2⟩
                  have gg2 := gg1.grow2 HR.out.2.2.2.2 HAB.out.2.1 hG2 hC2
                  have st2 : C4 g1 i a w2 ∧ C4 g2 i b w2 := gg2.c4 HAB.out.1 HAB.out.2.1
                  refine hK _ _ st2 ?_
                  simp only [Act.put, List.setIfInBounds_toArray, List.set_cons_zero, List.set_cons_succ]
                  clear hK K CG2
                  have hal3 : Below w2.heap.size w2 (w2.alloc (.cells #[.slice aT nT cT, .slice aL nL cL, .slice bT mT dT, .slice bL mL dL] 38)) := (Below.refl _ _).alloc (Nat.le_refl _) _
                  have st3 := (gg2.below hal3).c4 HAB.out.1 HAB.out.2.1
                  refine Go.Pin.readyQ 18 (by simp only [List.getElem?_toArray, List.getElem?_cons_zero, List.getElem?_cons_succ]; exact rfl) (by kernel_rfl) (by kernel_rfl) ?_
                  intro K hK
                  refine wpRun (d := some 133) (v := .slice (some ⟨w2.heap.size, 0, none⟩) 2 2) (w' := w2.alloc (.cells #[.slice aT nT cT, .slice aL nL cL, .slice bT mT dT, .slice bL mL dL] 38)) rfl (by unfold execOp; go_simp) (hK _ _ st3 ?_)
                  simp only [Act.put, List.setIfInBounds_toArray, List.set_cons_zero, List.set_cons_succ]
                  clear hK K
                  have happ := gg2.app (z1 := ⟨.slice aT nT cT, .slice aL nL cL, wd.heap.size, w1.heap.size⟩) (z2 := ⟨.slice bT mT dT, .slice bL mL dL, w1.heap.size, w2.heap.size⟩) (by rw [List.getElem?_append_right (by rw [HR.out.2.2.2.1]; exact Nat.le_refl _), HR.out.2.2.2.1, Nat.sub_self]; rfl) (by rw [List.getElem?_append_right (by rw [HR.out.2.2.2.2]; exact Nat.le_refl _), HR.out.2.2.2.2, Nat.sub_self]; rfl) (by have := HAB.out.2.2.2.2; omega) (by simp [Value.oneCell'])
                  refine Go.Pin.readyQ 19 (by simp only [List.getElem?_toArray, List.getElem?_cons_zero, List.getElem?_cons_succ]; exact rfl) (by kernel_rfl) (by kernel_rfl) ?_
                  intro K hK
                  refine wpApp (d := some 134) (v := .slice xg m zg) (u := .slice (some ⟨w2.heap.size, 0, none⟩) 2 2) rfl rfl rfl rfl happ ?_
                  rintro v5 w5 ⟨gg5, ⟨x5, z5, rfl⟩, hb5⟩
                  refine hK _ _ (gg5.c4 HAB.out.1 HAB.out.2.1) ?_
                  simp only [Act.put, List.setIfInBounds_toArray, List.set_cons_zero, List.set_cons_succ]
                  clear hK K
                  refine Go.Pin.readyQ 20 (by simp only [List.getElem?_toArray, List.getElem?_cons_zero, List.getElem?_cons_succ]; exact rfl) (by kernel_rfl) (by kernel_rfl) ?_
                  intro K hK
                  refine wpRun (d := some 16) (v := .slice x5 (2 * i + 2) z5) (w' := w5) rfl (by unfold execOp; go_simp) (hK _ _ (gg5.c4 HAB.out.1 HAB.out.2.1) ?_)
                  simp only [Act.put, List.setIfInBounds_toArray, List.set_cons_zero, List.set_cons_succ]
                  clear hK K
                  refine wpAnyH_done (by kernel_rfl) ?_ _
                  have H5 : Hid (GG q1 q2 q2 q3 q4 (i + 1) (.slice (some ⟨g1, 0, none⟩) 12 z1) (.slice (some ⟨g2, 0, none⟩) 12 z2) B1 B2 mk1 mk2 (Z1 ++ [⟨.slice aT nT cT, .slice aL nL cL, wd.heap.size, w1.heap.size⟩]) (Z2 ++ [⟨.slice bT mT dT, .slice bL mL dL, w1.heap.size, w2.heap.size⟩]) (.slice x5 (2 * i + 2) z5) w5 ∧ Ch q1 q3 W9 w5) := ⟨gg5, by
                    have hma := List.mem_of_getElem? HAB.out.1
                    have hmb := List.mem_of_getElem? HAB.out.2.1
                    have k1 := HR.out.2.1.below HBD.out HR.out.2.1.1.size (by have := HR.out.2.1.1.size; have := HG9.out; have := HQ3.out; omega)
                    have k2 := k1.then hC1 (HR.out.1.s1.ge a hma) (Nat.le_trans (HR.out.1.s1.he a hma) HQ3.out.2.1)
                    have k3 := k2.then hC2 (Nat.le_trans HQ3.out.2.2 (HR.out.1.s2.ge b hmb)) (HR.out.1.s2.he b hmb)
                    exact k3.below hb5 (by have := HG9.out.2.1; omega) (by have := HG9.out; have := HQ3.out; omega)⟩
                  clear gg1 gg2 gg5 hb5 happ st3 hal3 st2 st1 hG1 hG2 hC1 hC2 s0 s1 s2 s3 t0 t1 t2 t3 st0 hSq hRq hNq HGD HBD
                  go_wp2
                  exact ⟨⟨i + 1, 2 * i + 2, x5, z5, _, _, HAB.out.2.2.2.2, congrArg (Value.int .i64) (Int.natCast_succ i).symm, rfl, by omega, by rw [List.length_append, HR.out.2.2.2.1]; rfl, by rw [List.length_append, HR.out.2.2.2.2]; rfl, H5.out⟩, by have := HAB.out.2.2.2.2; show 12 - ((i : Int) + 1).toNat < 12 - ((i : Int)).toNat; omega⟩
                · obtain rfl : i = 12 := by omega
                  have HW10 : Hid (AL q3 (.slice (some ⟨g3, 0, none⟩) 12 zw) Aw wr ∧ Aw.map (·.p) = K) := ⟨HW9.out.1.ch HR.out.2.1 (Nat.le_refl _), HW9.out.2⟩
                  have HP10 : Hid _ := HP9.out.low HR.out.2.1.1 (Nat.le_refl _)
                  obtain ⟨g5, rfl, -⟩ := HR.out.1.c5 (i := 0) (a := Z1[0]'(by rw [HR.out.2.2.2.1]; decide)) (b := Z2[0]'(by rw [HR.out.2.2.2.2]; decide)) HR.out.2.2.2.1 HR.out.2.2.2.2 (List.getElem?_eq_getElem _) (List.getElem?_eq_getElem _)
                  obtain rfl := HR.out.2.2.1
                  rw [show 2 * 12 = 24 from rfl] at HR ⊢
                  have HG10 : Hid (GG q1 q2 q2 q3 q4 12 (.slice (some ⟨g1, 0, none⟩) 12 z1) (.slice (some ⟨g2, 0, none⟩) 12 z2) B1 B2 mk1 mk2 Z1 Z2 (.slice (some ⟨g5, 0, none⟩) 24 zg) wr ∧ Z1.length = 12 ∧ Z2.length = 12) := ⟨HR.out.1, HR.out.2.2.2.1, HR.out.2.2.2.2⟩
                  have HZ10 : Hid (q3 ≤ wr.heap.size) := by have := HR.out.1.e4; have := HG9.out; show q3 ≤ wr.heap.size; omega
                  rw [show ((12 : Nat) : Int) = 12 from rfl]
                  clear HR HW9 HP9 HG9 hi hlt
                  go_upto_region 30 with (fail)
                  obtain ⟨W10, hW10⟩ : ∃ W10, wr = W10 := ⟨_, rfl⟩
                  rw [hW10] at HW10 HP10 HG10 HZ10 ⊢
                  clear hW10 wr
                  go_wp2
                  go_loopw [18] (fun v18 wr => ∃ (i : Nat), i ≤ 12 ∧ v18 = .int .i64 i ∧ Below W10.heap.size W10 wr) (fun v _ => 12 - (intOf v).toNat)
                  case atStart => exact ⟨0, Nat.zero_le _, rfl, Below.refl _ _⟩
                  case round =>
                    obtain ⟨i, hi, rfl, hbw⟩ := hrel
                    have HB : Hid (Below W10.heap.size W10 wr) := hbw
                    clear hbw
                    by_cases hlt : i < 12
                    · have c1 : (i : Int) < 12 := by omega
                      have c0 : (0 : Int) ≤ (i : Int) := by omega
                      have c2 : 2 * (i : Int) < 24 := by omega
                      have c3 : 2 * (i : Int) + 1 < 24 := by omega
                      have c4 : 0 ≤ 2 * (i : Int) := by omega
                      have c5 : 0 ≤ 2 * (i : Int) + 1 := by omega
                      have n1 : (2 * (i : Int)).toNat = 2 * i := by omega
                      have n2 : (2 * (i : Int) + 1).toNat = 2 * i + 1 := by omega
                      obtain ⟨a', ha, hsa, -⟩ := HFF.out.1.2 i hlt
                      obtain ⟨b', hb, hsb, -⟩ := HFF.out.2.2 i hlt
                      obtain ⟨za, hza⟩ : ∃ za, Z1[i]? = some za := ⟨_, List.getElem?_eq_getElem (by rw [HG10.out.2.1]; exact hlt)⟩
                      obtain ⟨zb, hzb⟩ : ∃ zb, Z2[i]? = some zb := ⟨_, List.getElem?_eq_getElem (by rw [HG10.out.2.2]; exact hlt)⟩
                      have CB1 := fun Y (hY : Below wr.heap.size wr Y) => bears_at (HG10.out.1.below (HB.out.trans (hY.mono HB.out.size))).s1 ha hza hsa (mk_ok hlt).1
                      have CB2 := fun Y (hY : Below wr.heap.size wr Y) => bears_at (HG10.out.1.below (HB.out.trans (hY.mono HB.out.size))).s2 hb hzb hsb (mk_ok hlt).2
                      generalize AP.fil (mk1 i) a' = a at ha hsa CB1
                      generalize AP.fil (mk2 i) b' = b at hb hsb CB2
                      unfold mk1 at CB1
                      unfold mk2 at CB2
                      have HX : Hid (∀ Y, Below wr.heap.size wr Y → (C4 g1 i a Y ∧ C4 g2 i b Y) ∧ C5 g5 i za zb Y) := fun Y hY => by
                        have hg := HG10.out.1.below (HB.out.trans (hY.mono HB.out.size))
                        exact ⟨hg.c4 ha hb, hg.c5' HG10.out.2.1 HG10.out.2.2 hza hzb⟩
                      have HC1 : Hid _ := CB1
                      have HC2 : Hid _ := CB2
                      have HLT : Hid (i < 12) := hlt
                      clear ha hb hsa hsb hza hzb hi hlt a' b' CB1 CB2
                      go_upto_region 33 with (fail)
                      refine Go.Pin.wp_region_clb (fun Y => Below wr.heap.size wr Y) (by kernel_rfl) (by kernel_rfl) ((Below.refl _ _).drew) ?_
                      intro Sq fq hNq hRq hSq
                      dsimp only [List.append_eq, List.cons_append, List.nil_append, List.map, Go.Pin.bare]
                      have s0 := fun x => (HX.out _ (hRq x)).1.1.1
                      have s1 := fun x => (HX.out _ (hRq x)).1.1.2.1
                      have s2 := fun x => (HX.out _ (hRq x)).1.1.2.2.1
                      have s3 := fun x => (HX.out _ (hRq x)).1.1.2.2.2
                      have t0 := fun x => (HX.out _ (hRq x)).1.2.1
                      have t1 := fun x => (HX.out _ (hRq x)).1.2.2.1
                      have t2 := fun x => (HX.out _ (hRq x)).1.2.2.2.1
                      have t3 := fun x => (HX.out _ (hRq x)).1.2.2.2.2
                      have u0 := fun x => (HX.out _ (hRq x)).2.1
                      have u1 := fun x => (HX.out _ (hRq x)).2.2.1
                      have u2 := fun x => (HX.out _ (hRq x)).2.2.2.1
                      have u3 := fun x => (HX.out _ (hRq x)).2.2.2.2
                      have C1 := fun x => HC1.out (fq x) (hRq x)
                      have C2 := fun x => HC2.out (fq x) (hRq x)
                      repeat (go_big_quiet_step (first
                          | (with_reducible refine Calls.mono (C1 _) ?_; intro e w' h; exact ⟨h.1, hSq _ ((hRq _).trans (h.2.mono (hRq _).size))⟩)
                          | (with_reducible refine Calls.mono (C2 _) ?_; intro e w' h; exact ⟨h.1, hSq _ ((hRq _).trans (h.2.mono (hRq _).size))⟩)))
                      refine wpQuiet_nil ?_
                      intro _ hw'
                      obtain ⟨xq, hw''⟩ := hw'
                      subst hw''
                      have HYq := hRq xq
                      generalize fq xq = Y at HYq ⊢
                      clear hRq hSq hNq xq fq Sq s0 s1 s2 s3 t0 t1 t2 t3 u0 u1 u2 u3 C1 C2 HX HC1 HC2
                      have HY : Hid (Below W10.heap.size W10 Y) := HB.out.trans (HYq.mono HB.out.size)
                      clear HYq
                      go_wp2
                      exact ⟨⟨i + 1, HLT.out, congrArg (Value.int .i64) (Int.natCast_succ i).symm, HY.out⟩, by have := HLT.out; show 12 - ((i : Int) + 1).toNat < 12 - ((i : Int)).toNat; omega⟩
                    · obtain rfl : i = 12 := by omega
                      have HW11 : Hid (AL q3 (.slice (some ⟨g3, 0, none⟩) 12 zw) Aw wr ∧ Aw.map (·.p) = K) := ⟨HW10.out.1.below HB.out, HW10.out.2⟩
                      have HP11 : Hid _ := HP10.out.low HB.out (by have := HZ10.out; have := HQ3.out; omega)
                      have HZ11 : Hid (q1 ≤ wr.heap.size) := by have := HZ10.out; have := HQ3.out; have := HB.out.size; show q1 ≤ wr.heap.size; omega
                      rw [show ((12 : Nat) : Int) = 12 from rfl]
                      clear HB HW10 HP10 HG10 HZ10 hi hlt
                      go_upto_region 35 with (fail)
                      obtain ⟨W11, hW11⟩ : ∃ W11, wr = W11 := ⟨_, rfl⟩
                      rw [hW11] at HW11 HP11 HZ11 ⊢
                      clear hW11 wr
                      have C6 := HCA.out HSM.out HN2.out W11 HP11.out.pb.old
                      obtain ⟨q5, hq5⟩ : ∃ q5, W11.heap.size = q5 := ⟨_, rfl⟩
                      rw [hq5] at C6
                      have HQ5 : Hid (W11.heap.size = q5) := hq5
                      have d0 := HP11.out.pb.c0
                      have d1 := HP11.out.pb.c1
                      have d2 := HP11.out.pb.c2
                      have d3 := HP11.out.pb.c3
                      clear hq5
                      go_upto_region 36 with (go_at_call 7; refine C6.mono ?_; rintro e W12 ⟨vo5, rfl, ⟨A5, hal, hmp⟩, hb⟩; (obtain ⟨x5, z5, rfl⟩ := own_slice' hal.ro); have hA5 : A5.length = 12 := (by have := congrArg List.length hmp; rw [List.length_map, HK.out.1] at this; exact this); have H12 : Hid (Below q5 W11 W12 ∧ AL q5 (.slice x5 12 z5) A5 W12 ∧ A5.map (·.p) = K) := (by rw [hA5] at hal; exact ⟨hb, hal, hmp⟩); rw [hA5]; clear hb hal hmp hA5 C6 d0 d1 d2 d3)
                      obtain ⟨g6, rfl⟩ := row_g H12.out.2.1 (by rw [map_len H12.out.2.2]; exact HM.out.2.2)
                      have HW12 : Hid (AL q3 (.slice (some ⟨g3, 0, none⟩) 12 zw) Aw W12 ∧ Aw.map (·.p) = K) := ⟨HW11.out.1.below (by rw [HQ5.out]; exact H12.out.1), HW11.out.2⟩
                      have HP12 : Hid _ := HP11.out.low H12.out.1 (by rw [← HQ5.out]; exact HZ11.out)
                      have HZ12 : Hid (q1 ≤ W12.heap.size) := by have := HZ11.out; have := H12.out.1.size; show q1 ≤ W12.heap.size; omega
                      clear HW11 HP11 HZ11
                      go_wp2
                      go_loopw [20] (fun v20 wr => ∃ (i : Nat), i ≤ 12 ∧ v20 = .int .i64 i ∧ Below W12.heap.size W12 wr) (fun v _ => 12 - (intOf v).toNat)
                      case atStart => exact ⟨0, Nat.zero_le _, rfl, Below.refl _ _⟩
                      case round =>
                        obtain ⟨i, hi, rfl, hbw⟩ := hrel
                        have HB : Hid (Below W12.heap.size W12 wr) := hbw
                        clear hbw
                        by_cases hlt : i < 12
                        · have c1 : (i : Int) < 12 := by omega
                          have c0 : (0 : Int) ≤ (i : Int) := by omega
                          obtain ⟨b, hb, hKb⟩ := map_at H12.out.2.2 (i := i) (by rw [HM.out.2.2]; exact hlt)
                          obtain ⟨c, hc, hKc⟩ := map_at HW12.out.2 (i := i) (by rw [HM.out.2.2]; exact hlt)
                          have hbc : c.p = b.p := by rw [hKb] at hKc; injection hKc with h; exact h.symm
                          have hsz := HK.out.2 _ (List.mem_of_getElem? hKb)
                          have HLT : Hid (i < 12) := hlt
                          have CS1 : Hid (∀ Y, Below wr.heap.size wr Y → Calls Tryz.prog 8 #[.agg #[.string b.p.nm, b.v0, b.v1, b.vl], .agg #[.string b.p.nm, c.v0, c.v1, c.vl]] Y fun e w' => e = .returned (.bool true) ∧ Below Y.heap.size Y w') := fun Y hY => by
                            have hB2 : Below W12.heap.size W12 Y := HB.out.trans (hY.mono HB.out.size)
                            have r1 := ((H12.out.2.1.below hB2).ok b (List.mem_of_getElem? hb)).rd hsz
                            have r2 := ((HW12.out.1.below hB2).ok c (List.mem_of_getElem? hc)).rd (by rw [hbc]; exact hsz)
                            rw [hbc] at r2
                            exact same_true r1 r2
                          have HX : Hid (∀ Y, Below wr.heap.size wr Y → (Y.cell? ⟨g6, i * 4, none⟩ = some (.string b.p.nm) ∧ Y.cell? ⟨g6, i * 4 + 1, none⟩ = some b.v0 ∧ Y.cell? ⟨g6, i * 4 + 2, none⟩ = some b.v1 ∧ Y.cell? ⟨g6, i * 4 + 3, none⟩ = some b.vl) ∧ (Y.cell? ⟨g3, i * 4, none⟩ = some (.string b.p.nm) ∧ Y.cell? ⟨g3, i * 4 + 1, none⟩ = some c.v0 ∧ Y.cell? ⟨g3, i * 4 + 2, none⟩ = some c.v1 ∧ Y.cell? ⟨g3, i * 4 + 3, none⟩ = some c.vl)) := fun Y hY => by
                            have hB2 : Below W12.heap.size W12 Y := HB.out.trans (hY.mono HB.out.size)
                            have h' := row_at2 (HW12.out.1.below hB2).ro hc
                            rw [hbc] at h'
                            exact ⟨row_at2 (H12.out.2.1.below hB2).ro hb, h'⟩
                          clear hb hc hKb hKc hbc hsz hi hlt
                          go_upto_region 39 with (fail)
                          refine Go.Pin.wp_region_cls (fun Y => Below wr.heap.size wr Y) (by kernel_rfl) (by kernel_rfl) ((Below.refl _ _).drew) ?_
                          intro Sq fq hNq hRq hSq
                          have s0 := fun x => (HX.out _ (hRq x)).1.1
                          have s1 := fun x => (HX.out _ (hRq x)).1.2.1
                          have s2 := fun x => (HX.out _ (hRq x)).1.2.2.1
                          have s3 := fun x => (HX.out _ (hRq x)).1.2.2.2
                          have t0 := fun x => (HX.out _ (hRq x)).2.1
                          have t1 := fun x => (HX.out _ (hRq x)).2.2.1
                          have t2 := fun x => (HX.out _ (hRq x)).2.2.2.1
                          have t3 := fun x => (HX.out _ (hRq x)).2.2.2.2
                          have C1 := fun x => CS1.out (fq x) (hRq x)
                          repeat (go_big_quiet_step (exact (C1 _).mono (fun e w' h => ⟨h.1, hSq _ ((hRq _).trans (h.2.mono (hRq _).size))⟩)))
                          refine wpQuiet_nil ?_
                          intro _ hw'
                          obtain ⟨xq, hw''⟩ := hw'
                          subst hw''
                          have HYq := hRq xq
                          generalize fq xq = Y at HYq ⊢
                          clear hRq hSq hNq xq fq Sq s0 s1 s2 s3 t0 t1 t2 t3 C1 HX CS1
                          have HY : Hid (Below W12.heap.size W12 Y) := HB.out.trans (HYq.mono HB.out.size)
                          clear HYq
                          go_wp2
                          exact ⟨⟨i + 1, HLT.out, congrArg (Value.int .i64) (Int.natCast_succ i).symm, HY.out⟩, by have := HLT.out; show 12 - ((i : Int) + 1).toNat < 12 - ((i : Int)).toNat; omega⟩
                        · obtain rfl : i = 12 := by omega
                          have hpw := HP12.out.low HB.out HZ12.out
                          have CS9 := same_true (HCS.out wr hpw.pb.old) (sml_rd HSM.out hpw.ab.ok)
                          have d0 := hpw.pb.c0
                          have d1 := hpw.pb.c1
                          have d2 := hpw.pb.c2
                          have d3 := hpw.pb.c3
                          have r0 := hpw.ab.c0
                          have r1 := hpw.ab.c1
                          have r2 := hpw.ab.c2
                          have r3 := hpw.ab.c3
                          have HO : Hid (Below q W wr) := hpw.pb.old
                          rw [show ((12 : Nat) : Int) = 12 from rfl]
                          clear hpw HB HP12 HW12 H12 hi hlt
                          go_wp2_with (first
                            | (go_at_call 8; refine CS9.mono ?_; rintro e w8 ⟨rfl, hb⟩; have H8 : Hid (Below q W w8) := sub_le HO.out hb (HE.out _ HO.out).2; have CK := known_any (ea := ea) w8 (HE.out _ H8.out).1; clear hb CS9 d0 d1 d2 d3 r0 r1 r2 r3)
                            | (go_at_call 5; refine CK.mono ?_; rintro e w9 ⟨rfl, hb⟩; have H9 : Hid (Below q W w9) := sub_le H8.out hb (HE.out _ H8.out).2; clear hb CK))
                          go_ret
                          exact ⟨rfl, H9.out⟩
end Go.Proofs.YtpfidohkohldaaaGreatDoor
