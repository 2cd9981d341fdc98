import Derived.Test.YtjhleocpipmklaaDoorMiae
import Derived.Test.YtjhleocpipmklaaDoorMiaa
namespace Go.Proofs.YtjhleocpipmklaaDoor
set_option linter.unusedSimpArgs false
set_option linter.unusedVariables false
open Go.ChangeShapes Go.WideShapes Go.ChangeAt Go.RowKit Go.Pin Go.Pat
theorem infoP : (Tryd.prog.info? 26).map (·.size) = some 4 := by kernel_rfl
theorem shp_lines : ∀ (L : List Ln) (o : Option Int) (n : Nat), shp o n L = true → ∀ l ∈ L, (l.1 = 0 ∨ l.1 = 1) ∧ ∀ t ∈ l.2, 1 ≤ t ∧ t ≤ 7
  | [], _, _, _ => fun l h => nomatch h
  | (f, ts) :: r, o, n, h => fun l hl => by
    rw [shp_split] at h
    simp only [Bool.and_eq_true, decide_eq_true_eq, List.all_eq_true, isTok] at h
    rcases List.mem_cons.1 hl with rfl | hl
    · exact ⟨h.1.1.1.1.1, h.1.2⟩
    · exact shp_lines r _ _ h.2 l hl
set_option maxRecDepth 100000 in
set_option maxHeartbeats 4000000 in
theorem check_any (v : Value) (p : Pt) (w : World) (h : RdP w v p) :
    Calls Tryd.prog 28 #[v] w fun e w' => e = .returned (.int .i64 (chk p)) ∧ Below w.heap.size w w' := by
  have hsh := fun (W : World) (hW : Below w.heap.size w W) => shaped_any v p W (h.below hW)
  have hbg := fun (W : World) (hW : Below w.heap.size w W) => begin_any v p W (h.below hW)
  have how := fun (W : World) (hW : Below w.heap.size w W) => oneWay_any v p W (h.below hW)
  obtain ⟨v0, v1, vl, rfl, h0, h1, hl⟩ := h
  obtain ⟨al, cl, rfl, _, hm, _⟩ := id hl
  have hst := pb_start w p.nm v0 v1 (.slice al p.ln.length cl)
  have hat := fun j (hj : j < p.ln.length) => hl.at hj
  obtain ⟨q, hq⟩ : ∃ q, w.heap.size = q := ⟨_, rfl⟩
  obtain ⟨n, hn⟩ : ∃ n, p.ln.length = n := ⟨_, rfl⟩
  obtain ⟨nm, hnm⟩ : ∃ nm, p.nm = nm := ⟨_, rfl⟩
  simp only [hn, hq, hnm] at hst hat hm hsh hbg how ⊢
  obtain ⟨W, hW⟩ : ∃ W, w.alloc (.cells #[.string nm, v0, v1, .slice al n cl] 26) = W := ⟨_, rfl⟩
  rw [hW] at hst
  have HP : Hid (PB q w nm v0 v1 (.slice al n cl) W) := hst
  have HAT : Hid (∀ j, j < n → _) := hat
  have HN : Hid (p.ln.length = n) := hn
  have HM : Hid (n ≤ 140737488355328) := hm
  have HSH : Hid _ := hsh
  have HBG : Hid _ := hbg
  have HOW : Hid _ := how
  have c0 := hst.c0
  have c1 := hst.c1
  have c2 := hst.c2
  have c3 := hst.c3
  rcases hs : shaped p with _ | _
  · have HR : Hid (chk p = 9) := by show chk p = 9; simp [chk, hs]
    rw [hs] at HSH
    clear hst hat hm hsh hbg how h0 h1 hl
    go_enter Tryd.func28, Tryd.ntmps28
    go_wp2_with (go_at_call 48; refine (HSH.out _ HP.out.old).mono ?_; rintro e w' ⟨rfl, hw⟩; have HW : Hid (PB q w nm v0 v1 (.slice al n cl) w') := HP.out.below hw; clear hw)
    go_ret
    exact ⟨by rw [HR.out]; rfl, HW.out.old⟩
  rw [hs] at HSH
  have HSP : Hid (∀ l ∈ p.ln, (l.1 = 0 ∨ l.1 = 1) ∧ ∀ t ∈ l.2, 1 ≤ t ∧ t ≤ 7) := by
    have := hs
    unfold shaped at this
    simp only [Bool.and_eq_true] at this
    exact shp_lines _ _ _ this.2
  have HSD : Hid (shaped p = true) := hs
  clear hst hat hm hsh hbg how h0 h1 hl hs
  go_enter Tryd.func28, Tryd.ntmps28
  go_upto_region 3 with (go_at_call 48; refine (HSH.out _ HP.out.old).mono ?_; rintro e w' ⟨rfl, hw⟩; have HW : Hid (PB q w nm v0 v1 (.slice al n cl) w') := HP.out.below hw; clear hw; have d0 := HW.out.c0; have d1 := HW.out.c1; have d2 := HW.out.c2; have d3 := HW.out.c3)
  go_wp2_with (first | (go_at_call 49; refine (HBG.out _ HW.out.old).mono ?_; rintro e w2 ⟨rfl, hw⟩; have HW2 : Hid (PB q w nm v0 v1 (.slice al n cl) w2) := HW.out.below hw; clear hw; simp only [SV]) | (with_reducible refine at_list ?_; refine hold_store 90 (.tmp 3) (.tmp 13) rfl ?_))

  refine store_row_new rfl 90 (.tmp 3) (.tmp 13) rfl w2.heap.size (BV (beg p)) rfl rfl rfl 90 (BV Sn0) (infoS (beg_length p)) (szS (beg_length p)) (BV_one _) ?_
  have hck := ck_start HW2.out (beg p)
  obtain ⟨g, hg⟩ : ∃ g, w2.heap.size = g := ⟨_, rfl⟩
  obtain ⟨W3, hW3⟩ : ∃ W3, w2.alloc (.cells (BV (beg p)) 90) = W3 := ⟨_, rfl⟩
  rw [hg, hW3] at hck
  simp only [hg, hW3]
  have HC : Hid (CK q g w nm v0 v1 (.slice al n cl) (beg p) W3) := hck
  clear hck hg hW3 d0 d1 d2 d3 c0 c1 c2 c3 HW HW2 hW
  go_wp2
  go_loopw [4] (fun v4 wr => ∃ (k : Nat) (x : Sn), k ≤ n ∧ v4 = .int .i64 k ∧ x.length = 12 ∧ lns (beg p) p.ln = lns x (p.ln.drop k) ∧ CK q g w nm v0 v1 (.slice al n cl) x wr) (fun v _ => n - (intOf v).toNat)
  case atStart => exact ⟨0, beg p, Nat.zero_le _, rfl, beg_length p, rfl, HC.out⟩
  case round =>
    obtain ⟨k, x, hk, rfl, hx, hln, hck⟩ := hrel
    have c3 := hck.pb.c3
    by_cases hlt : k < n
    · obtain ⟨b, o, a2, n2, c2, rfl, hc, hrn, hn2⟩ := HAT.out k hlt
      have d0 := hc wr hck.pb.old
      have x0 := d0.1
      have x1 := d0.2
      have b1 : (k : Int) < (n : Int) := by omega
      have HCK : Hid (CK q g w nm v0 v1 (.slice (some ⟨b, o, none⟩) n cl) x wr) := hck
      have HLN : Hid (lns (beg p) p.ln = lns x (p.ln.drop k) ∧ x.length = 12) := ⟨hln, hx⟩
      have HRN : Hid (RdN w (.slice a2 n2 c2) (p.ln.getD k (0, [])).2 ∧ n2 = (p.ln.getD k (0, [])).2.length) := ⟨hrn, hn2⟩
      clear hck hln hrn hn2 d0 hc hx
      obtain ⟨f, hf⟩ : ∃ f, (p.ln.getD k (0, [])).1 = f := ⟨_, rfl⟩
      rw [hf] at x0
      go_upto_region 8 with fail
      have hcl := cl_start HCK.out f (.slice a2 n2 c2)
      obtain ⟨m, hm2⟩ : ∃ m, wr.heap.size = m := ⟨_, rfl⟩
      obtain ⟨W1, hW1⟩ : ∃ W1, wr.alloc (.cells #[.int .i64 f, .slice a2 n2 c2] 43) = W1 := ⟨_, rfl⟩
      rw [hm2, hW1] at hcl
      simp only [hm2, hW1]
      have HL : Hid (CL q g m w nm v0 v1 (.slice (some ⟨b, o, none⟩) n cl) x f (.slice a2 n2 c2) W1) := hcl
      have hmem : p.ln.getD k (0, []) ∈ p.ln := by
        have : k < p.ln.length := by rw [HN.out]; exact hlt
        simp [List.getD, this]
      have hsp := HSP.out _ hmem
      obtain ⟨ts, hts⟩ : ∃ ts, (p.ln.getD k (0, [])).2 = ts := ⟨_, rfl⟩
      have hrn := HRN.out.1
      have hn2 := HRN.out.2
      rw [hts] at hrn hn2 hsp
      rw [hf] at hsp
      have hta := hrn.at
      rw [hq] at hta
      have hdr := drop_getD p.ln k (by rw [HN.out]; exact hlt)
      rw [show p.ln.getD k (0, []) = (f, ts) from Prod.ext hf hts] at hdr
      obtain ⟨s, hs2, hsf⟩ : ∃ s : Nat, s < 2 ∧ f = (s : Int) := by rcases hsp.1 with h | h; exact ⟨0, by omega, h⟩; exact ⟨1, by omega, h⟩
      have HTA : Hid (n2 = ts.length ∧ n2 ≤ 140737488355328 ∧ ∀ j, j < n2 → ∃ b o, a2 = some ⟨b, o, none⟩ ∧ ∀ W, Below q w W → W.cell? ⟨b, o + j, none⟩ = some (.int .i64 (ts.getD j 0))) := hta
      have HTS : Hid (∀ t ∈ ts, 1 ≤ t ∧ t ≤ 7) := hsp.2
      have HS2 : Hid (s < 2) := hs2
      have HDR : Hid (p.ln.drop k = (f, ts) :: p.ln.drop (k + 1)) := hdr
      clear hcl hm2 hW1 x0 x1 hmem hsp hts hrn hn2 hta hdr hs2 c3 hf HRN
      subst hsf
      go_wp2
      go_loopw [6] (fun v6 wy => ∃ (j : Nat) (y : Sn), j ≤ n2 ∧ v6 = .int .i64 j ∧ y.length = 12 ∧ tks s x ts = tks s y (ts.drop j) ∧ CL q g m w nm v0 v1 (.slice (some ⟨b, o, none⟩) n cl) y (s : Int) (.slice a2 n2 c2) wy) (fun v _ => n2 - (intOf v).toNat)
      case atStart => exact ⟨0, x, Nat.zero_le _, rfl, HLN.out.2, rfl, HL.out⟩
      case round =>
        obtain ⟨j, y, hj, rfl, hy, htk, hcl⟩ := hrel
        have c0 := hcl.c0
        have c1 := hcl.c1
        by_cases hjl : j < n2
        · have b4 : (j : Int) < (n2 : Int) := by omega
          obtain ⟨b', o', rfl, hcj⟩ := HTA.out.2.2 j hjl
          have hjs : j < ts.length := by have := HTA.out.1; omega
          obtain ⟨t, ht⟩ : ∃ t, ts.getD j 0 = t := ⟨_, rfl⟩
          have ht7 : 1 ≤ t ∧ t ≤ 7 := by
            rw [← ht]
            exact HTS.out _ (by simp [List.getD, hjs])
          rw [ht] at hcj
          have hstep : tks s y (ts.drop j) = (if (tk y s t).2 = 0 then tks s (tk y s t).1 (ts.drop (j + 1)) else tk y s t) := by
            rw [List.drop_eq_getElem_cons hjs, show ts[j] = t from by rw [← ht]; simp [List.getD, hjs]]
            rfl
          have HST : Hid (tks s x ts = (if (tk y s t).2 = 0 then tks s (tk y s t).1 (ts.drop (j + 1)) else tk y s t)) := htk.trans hstep
          have HY : Hid (y.length = 12) := hy
          have HCLY : Hid (CL q g m w nm v0 v1 (.slice (some ⟨b, o, none⟩) n cl) y (s : Int) (.slice (some ⟨b', o', none⟩) n2 c2) wr) := hcl
          have HCJ : Hid (∀ W, Below q w W → W.cell? ⟨b', o' + j, none⟩ = some (.int .i64 t)) := hcj
          have HT7 : Hid (1 ≤ t ∧ t ≤ 7) := ht7
          have HJ : Hid (j < n2 ∧ n2 ≤ 140737488355328) := ⟨hjl, HTA.out.2.1⟩
          clear htk hstep hy hcl hcj ht7 ht hj
          go_upto_region 11 with fail
          refine wp_as (c' := rgC11) (by kernel_rfl) ?_
          refine C11 HY.out HS2.out HT7.out HJ.out.1 HCLY.out HCJ.out rfl rfl rfl rfl (fun _ _ d _ _ h => by cases d <;> exact h) ?_
          intro g7 Y hg7 hz hb
          have hcy := HCLY.out.below hb
          have hly : (tk y s t).1.length = 12 := by rw [tk_length]; exact HY.out
          obtain ⟨y2, hy2⟩ : ∃ y2, (tk y s t).1 = y2 := ⟨_, rfl⟩
          obtain ⟨e, he⟩ : ∃ e, (tk y s t).2 = e := ⟨_, rfl⟩
          rw [hy2] at hz hly
          rw [he, hy2] at HST
          simp only [hy2, he]
          have HZ : Hid (Y.heap[g7]? = some (.cells (BV y2) 90)) := hz
          have HCY : Hid (CL q g m w nm v0 v1 (.slice (some ⟨b, o, none⟩) n cl) y (s : Int) (.slice (some ⟨b', o', none⟩) n2 c2) Y) := hcy
          have HLY : Hid (y2.length = 12) := hly
          have HTK : Hid (tk y s t = (y2, e)) := Prod.ext hy2 he
          clear hz hcy hly hy2 he hb hg7 c0 c1
          by_cases he0 : e = 0
          · subst he0
            rw [if_pos rfl] at HST
            go_wp2_with (with_reducible refine at_list ?_; first | (refine wpList_load_row rfl 90 (.tmp 7) rfl g7 rfl 90 (BV y2) (0, 0) _ HZ.out Tryd.underlying90 rfl (infoS HLY.out) ?_) | (refine wpList_store_row rfl 90 (.tmp 3) (.tmp 48) rfl g (BV y2) rfl rfl 90 (BV y) HCY.out.ck.hx (infoS HLY.out) (by simp [HY.out, HLY.out]) (BV_one _) ?_))
            exact ⟨⟨j + 1, y2, HJ.out.1, congrArg (Value.int .i64) (wrapS HJ.out.1 HJ.out.2), HLY.out, HST.out, HCY.out.over y2⟩, measS HJ.out.1 HJ.out.2⟩
          · have heb : (e == 0) = false := by simpa using he0
            rw [if_neg he0] at HST
            have HR : Hid (chk p = e) := by
              show chk p = e
              have h1 : (lns (beg p) p.ln) = (y2, e) := by
                rw [HLN.out.1, HDR.out]
                show (if (tks (s : Int).toNat x ts).2 ≠ 0 then tks (s : Int).toNat x ts else _) = _
                rw [show ((s : Int)).toNat = s from by omega, HST.out, HTK.out, if_pos he0]
              simp [chk, HSD.out, h1, he0]
            go_wp2
            go_ret
            exact ⟨by rw [HR.out]; rfl, HCY.out.ck.pb.old⟩
        · have b4 : ¬ (j : Int) < (n2 : Int) := by omega
          have HST : Hid (tks s x ts = (y, 0)) := by
            show tks s x ts = (y, 0)
            rw [htk, List.drop_eq_nil_of_le (by have := HTA.out.1; omega)]
            rfl
          have HY : Hid (y.length = 12) := hy
          have HCLY : Hid (CL q g m w nm v0 v1 (.slice (some ⟨b, o, none⟩) n cl) y (s : Int) (.slice a2 n2 c2) wr) := hcl
          have HSF := fun W => safe_any y hy s HS2.out W
          have hlns : lns (beg p) p.ln = if sf y s then lns y (p.ln.drop (k + 1)) else (x, 12) := by
            rw [HLN.out.1, HDR.out]
            show (if (tks (s : Int).toNat x ts).2 ≠ 0 then tks (s : Int).toNat x ts else if sf (tks (s : Int).toNat x ts).1 (s : Int).toNat then lns (tks (s : Int).toNat x ts).1 (p.ln.drop (k + 1)) else (x, 12)) = _
            rw [show ((s : Int)).toNat = s from by omega, HST.out]
            simp
          simp only [SV] at HSF
          have HK : Hid (k < n ∧ n ≤ 140737488355328) := ⟨hlt, HM.out⟩
          clear htk hcl hy hj
          rcases hsf : sf y s with _ | _
          · rw [hsf] at HSF hlns
            have HR : Hid (chk p = 12) := by show chk p = 12; simp [chk, HSD.out, hlns]
            clear hlns hsf
            go_wp2_with (first | (go_at_call 51; refine (HSF _).mono ?_; rintro e w' ⟨rfl, hw⟩; have HW : Hid _ := HCLY.out.below hw; clear hw) | (with_reducible refine at_list ?_; refine wpList_load_row rfl 90 (.tmp 3) rfl g rfl 90 (BV y) (0, 0) _ HCLY.out.ck.hx Tryd.underlying90 rfl (infoS HY.out) ?_))
            go_ret
            exact ⟨by rw [HR.out]; rfl, HW.out.ck.pb.old⟩
          · rw [hsf] at HSF hlns
            have HL2 : Hid (lns (beg p) p.ln = lns y (p.ln.drop (k + 1))) := by show _ = _; rw [hlns]; simp
            clear hlns hsf
            go_wp2_with (first | (go_at_call 51; refine (HSF _).mono ?_; rintro e w' ⟨rfl, hw⟩; have HW : Hid _ := HCLY.out.below hw; clear hw) | (with_reducible refine at_list ?_; refine wpList_load_row rfl 90 (.tmp 3) rfl g rfl 90 (BV y) (0, 0) _ HCLY.out.ck.hx Tryd.underlying90 rfl (infoS HY.out) ?_))
            exact ⟨⟨k + 1, y, HK.out.1, congrArg (Value.int .i64) (wrapS HK.out.1 HK.out.2), HY.out, HL2.out, HW.out.ck⟩, measS HK.out.1 HK.out.2⟩
    · have b1 : ¬ (k : Int) < (n : Int) := by omega
      have hl2 : lns (beg p) p.ln = (x, 0) := by
        rw [hln, List.drop_eq_nil_of_le (by rw [HN.out]; omega)]
        rfl
      have HX : Hid (x.length = 12) := hx
      have HCK : Hid (CK q g w nm v0 v1 (.slice al n cl) x wr) := hck
      have HS0 : ∀ W, Calls Tryd.prog 51 #[.agg (BV x), .int .i64 0] W fun e w' => e = .returned (.bool (sf x 0)) ∧ Below W.heap.size W w' := fun W => safe_any x hx 0 (by decide) W
      have HS1 : ∀ W, Calls Tryd.prog 51 #[.agg (BV x), .int .i64 1] W fun e w' => e = .returned (.bool (sf x 1)) ∧ Below W.heap.size W w' := fun W => safe_any x hx 1 (by decide) W
      clear hck hx hln hk
      rcases e0 : sf x 0 with _ | _
      · rw [e0] at HS0
        have HR : Hid (chk p = 12) := by show chk p = 12; simp [chk, HSD.out, hl2, e0]
        clear hl2 e0 HS1
        go_wp2_with (first | (go_at_call 51; refine Calls.mono (HS0 _) ?_; rintro e w1 ⟨rfl, hw⟩; have HW1 : Hid (CK q g w nm v0 v1 (.slice al n cl) x w1) := HCK.out.below hw; clear hw; have d0 := HW1.out.pb.c0; have d1 := HW1.out.pb.c1; have d2 := HW1.out.pb.c2; have d3 := HW1.out.pb.c3) | (with_reducible refine at_list ?_; first | (refine load_row_w rfl 90 (.tmp 3) rfl g rfl 90 (BV x) (0, 0) _ HCK.out.hx Tryd.underlying90 rfl (infoS HX.out) ?_)))
        go_ret
        exact ⟨by rw [HR.out]; rfl, HW1.out.pb.old⟩
      rw [e0] at HS0
      rcases e2 : oneWay p with _ | _
      · rw [e2] at HOW
        rcases e1 : sf x 1 with _ | _
        · rw [e1] at HS1
          have HR : Hid (chk p = 12) := by show chk p = 12; simp [chk, HSD.out, hl2, e0, e1, e2]
          clear hl2 e0 e1 e2
          go_wp2_with (first | (go_at_call 51; have HQQ := HW2.out; refine Calls.mono (HS1 _) ?_; rintro e w3 ⟨rfl, hw⟩; have HW3 : Hid (CK q g w nm v0 v1 (.slice al n cl) x w3) := HW2.out.below hw; clear hw) | (go_at_call 51; refine Calls.mono (HS0 _) ?_; rintro e w1 ⟨rfl, hw⟩; have HW1 : Hid (CK q g w nm v0 v1 (.slice al n cl) x w1) := HCK.out.below hw; clear hw; have d0 := HW1.out.pb.c0; have d1 := HW1.out.pb.c1; have d2 := HW1.out.pb.c2; have d3 := HW1.out.pb.c3) | (go_at_call 52; refine (HOW.out _ HW1.out.pb.old).mono ?_; rintro e w2 ⟨rfl, hw⟩; have HW2 : Hid (CK q g w nm v0 v1 (.slice al n cl) x w2) := HW1.out.below hw; clear hw) | (with_reducible refine at_list ?_; first | (refine load_row_w rfl 90 (.tmp 3) rfl g rfl 90 (BV x) (0, 0) _ HCK.out.hx Tryd.underlying90 rfl (infoS HX.out) ?_) | (refine load_row_w (by kernel_rfl) 90 (.tmp 3) rfl g rfl 90 (BV x) (0, 0) _ HW2.out.hx Tryd.underlying90 rfl (infoS HX.out) ?_)))
          go_ret
          exact ⟨by rw [HR.out]; rfl, HW3.out.pb.old⟩
        · rw [e1] at HS1
          have HR : Hid (chk p = 0) := by show chk p = 0; simp [chk, HSD.out, hl2, e0, e1, e2]
          clear hl2 e0 e1 e2
          go_wp2_with (first | (go_at_call 51; have HQQ := HW2.out; refine Calls.mono (HS1 _) ?_; rintro e w3 ⟨rfl, hw⟩; have HW3 : Hid (CK q g w nm v0 v1 (.slice al n cl) x w3) := HW2.out.below hw; clear hw) | (go_at_call 51; refine Calls.mono (HS0 _) ?_; rintro e w1 ⟨rfl, hw⟩; have HW1 : Hid (CK q g w nm v0 v1 (.slice al n cl) x w1) := HCK.out.below hw; clear hw; have d0 := HW1.out.pb.c0; have d1 := HW1.out.pb.c1; have d2 := HW1.out.pb.c2; have d3 := HW1.out.pb.c3) | (go_at_call 52; refine (HOW.out _ HW1.out.pb.old).mono ?_; rintro e w2 ⟨rfl, hw⟩; have HW2 : Hid (CK q g w nm v0 v1 (.slice al n cl) x w2) := HW1.out.below hw; clear hw) | (with_reducible refine at_list ?_; first | (refine load_row_w rfl 90 (.tmp 3) rfl g rfl 90 (BV x) (0, 0) _ HCK.out.hx Tryd.underlying90 rfl (infoS HX.out) ?_) | (refine load_row_w (by kernel_rfl) 90 (.tmp 3) rfl g rfl 90 (BV x) (0, 0) _ HW2.out.hx Tryd.underlying90 rfl (infoS HX.out) ?_)))
          go_ret
          exact ⟨by rw [HR.out]; rfl, HW3.out.pb.old⟩
      · rw [e2] at HOW
        have HR : Hid (chk p = 0) := by show chk p = 0; simp [chk, HSD.out, hl2, e0, e2]
        clear hl2 e0 e2 HS1
        go_wp2_with (first | (go_at_call 51; refine Calls.mono (HS0 _) ?_; rintro e w1 ⟨rfl, hw⟩; have HW1 : Hid (CK q g w nm v0 v1 (.slice al n cl) x w1) := HCK.out.below hw; clear hw; have d0 := HW1.out.pb.c0; have d1 := HW1.out.pb.c1; have d2 := HW1.out.pb.c2; have d3 := HW1.out.pb.c3) | (go_at_call 52; refine (HOW.out _ HW1.out.pb.old).mono ?_; rintro e w2 ⟨rfl, hw⟩; have HW2 : Hid (CK q g w nm v0 v1 (.slice al n cl) x w2) := HW1.out.below hw; clear hw) | (with_reducible refine at_list ?_; first | (refine load_row_w rfl 90 (.tmp 3) rfl g rfl 90 (BV x) (0, 0) _ HCK.out.hx Tryd.underlying90 rfl (infoS HX.out) ?_)))
        go_ret
        exact ⟨by rw [HR.out]; rfl, HW2.out.pb.old⟩
end Go.Proofs.YtjhleocpipmklaaDoor
namespace Go.Proofs.YtjhleocpipmklaaDoor
set_option linter.unusedSimpArgs false
set_option linter.unusedVariables false
open Go.ChangeShapes Go.WideShapes Go.ChangeAt Go.RowKit Go.Pin Go.Pat
theorem measP {i n : Nat} (h : i < n) : n - (intOf (Value.int .i64 ((i : Int) + 1))).toNat < n - (intOf (Value.int .i64 (i : Int))).toNat := by
  show n - ((i : Int) + 1).toNat < n - ((i : Int)).toNat
  omega
set_option maxRecDepth 100000 in
theorem static_any (s : Int) (w : World) : Calls Tryd.prog 54 #[.int .i64 s] w fun e w' => e = .returned (.int .i64 (stc s)) ∧ w' = w := by
  go_enter Tryd.func54, Tryd.ntmps54
  go_wp2
  all_goals
    go_ret
    exact ⟨by simp_all [stc], rfl⟩
set_option maxRecDepth 100000 in
set_option maxHeartbeats 4000000 in
theorem sender_any (v : Value) (p : Pt) (w : World) (h : RdP w v p) (hv : ∀ l ∈ p.ln, l.1 = 0 ∨ l.1 = 1) (k : Nat) (hk : k ≤ 1000) :
    Calls Tryd.prog 29 #[v, .int .i64 (k : Int)] w fun e w' => e = .returned (.int .i64 (sender p k)) ∧ Below w.heap.size w w' := by
  have how := fun (W : World) (hW : Below w.heap.size w W) => oneWay_any v p W (h.below hW)
  obtain ⟨v0, v1, vl, rfl, h0, h1, hl⟩ := h
  obtain ⟨al, cl, rfl, _, hm, _⟩ := id hl
  have hst := pb_start w p.nm v0 v1 (.slice al p.ln.length cl)
  have hat := fun j (hj : j < p.ln.length) => hl.at hj
  obtain ⟨q, hq⟩ : ∃ q, w.heap.size = q := ⟨_, rfl⟩
  obtain ⟨n, hn⟩ : ∃ n, p.ln.length = n := ⟨_, rfl⟩
  obtain ⟨nm, hnm⟩ : ∃ nm, p.nm = nm := ⟨_, rfl⟩
  simp only [hn, hq, hnm] at hst hat hm how ⊢
  obtain ⟨W, hW⟩ : ∃ W, w.alloc (.cells #[.string nm, v0, v1, .slice al n cl] 26) = W := ⟨_, rfl⟩
  rw [hW] at hst
  have HP : Hid (PB q w nm v0 v1 (.slice al n cl) W) := hst
  have c0 := hst.c0
  have c1 := hst.c1
  have c2 := hst.c2
  have c3 := hst.c3
  by_cases hlt : k < n
  · obtain ⟨b, o, a2, n2, c2', rfl, hc, _, _⟩ := hat k hlt
    have x0 := (hc W hst.old).1
    have b1 : (k : Int) < (n : Int) := by omega
    have HR : Hid (sender p k = (p.ln.getD k (0, [])).1) := by show sender p k = _; simp [sender, hn, hlt]
    generalize (p.ln.getD k (0, [])).1 = f at *
    clear hst hat hm how h0 h1 hl hc
    go_enter Tryd.func29, Tryd.ntmps29
    go_wp2
    go_ret
    exact ⟨by rw [HR.out]; rfl, HP.out.old⟩
  have b1 : ¬ (k : Int) < (n : Int) := by omega
  by_cases hn0 : n = 0
  · subst hn0
    have HR : Hid (sender p k = 0) := by show sender p k = 0; simp [sender, hn]
    clear hst hat hm how h0 h1 hl
    go_enter Tryd.func29, Tryd.ntmps29
    go_wp2
    go_ret
    exact ⟨by rw [HR.out]; rfl, HP.out.old⟩
  have z1 : ¬ (n : Int) = 0 := by omega
  have z2 : ((n : Int) == 0) = false := by simpa using z1
  have HOW := how W hst.old
  rcases e : oneWay p with _ | _
  · rw [e] at HOW
    obtain ⟨b, o, a2, n2, c2', rfl, hc, _, _⟩ := hat (n - 1) (by omega)
    have hf : (p.ln.getD (n - 1) (0, [])).1 = lst p := by rw [← hn]; rfl
    rw [hf] at hc
    have hlf : lst p = 0 ∨ lst p = 1 := hv _ (by rw [hn]; simp [List.getD, show n - 1 < p.ln.length by omega])
    have hs : sender p k = if (k - n) % 2 = 0 then 1 - lst p else lst p := by simp [sender, hn, hlt, hn0, e]
    generalize lst p = f at *
    have HC : Hid _ := hc
    have bw : wrap64 ((n : Int) - 1) = ((n - 1 : Nat) : Int) := by rw [IntWalk.wrap64_in _ ⟨by omega, by omega⟩]; omega
    have bw2 : wrap64 ((k : Int) - (n : Int)) = ((k - n : Nat) : Int) := by rw [IntWalk.wrap64_in _ ⟨by omega, by omega⟩]; omega
    have b5 : ((n - 1 : Nat) : Int) < (n : Int) := by omega
    have HS : Hid (sender p k = if (k - n) % 2 = 0 then 1 - f else f) := hs
    have HF : Hid (f = 0 ∨ f = 1) := hlf
    clear hst hat hm how h0 h1 hl hc hs hf hlf
    rcases HF.out with rfl | rfl <;> by_cases hp : (k - n) % 2 = 0
    all_goals
     have hr : (((k : Int) - (n : Int)) % 2 == 0) = decide ((k - n) % 2 = 0) := by
       by_cases h : (k - n) % 2 = 0
       · rw [decide_eq_true h]; simp; omega
       · rw [decide_eq_false h]; simp; omega
     first | rw [decide_eq_true hp] at hr | rw [decide_eq_false hp] at hr
     go_enter Tryd.func29, Tryd.ntmps29
     go_upto_region 5 with (go_at_call 52; refine Calls.mono HOW ?_; rintro e w2 ⟨rfl, hw⟩; have HW2 : Hid (PB q w nm v0 v1 (.slice (some ⟨b, o, none⟩) n cl) w2) := HP.out.below hw; clear hw; have d3 := HW2.out.c3; have x0 := (HC.out w2 HW2.out.old).1)
     go_wp2
     go_ret
     exact ⟨by rw [HS.out]; simp only [hp, if_true, if_false]; rfl, HW2.out.old⟩
  · rw [e] at HOW
    have HR : Hid (sender p k = 0) := by show sender p k = 0; simp [sender, hn, hlt, hn0, e]
    clear hst hat hm how h0 h1 hl
    go_enter Tryd.func29, Tryd.ntmps29
    go_wp2_with (go_at_call 52; refine Calls.mono HOW ?_; rintro e w2 ⟨rfl, hw⟩; have HW2 : Hid (PB q w nm v0 v1 (.slice al n cl) w2) := HP.out.below hw; clear hw)
    go_ret
    exact ⟨by rw [HR.out]; rfl, HW2.out.old⟩
theorem any_take (L : List Ln) (f : Ln → Bool) (i : Nat) (h : i < L.length) : (L.take (i + 1)).any f = ((L.take i).any f || f (L.getD i (0, []))) := by
  rw [List.take_add_one, List.any_append, List.getElem?_eq_getElem h]
  simp [List.getD, h]
theorem any_takeI (C : List Int) (t : Int) (i : Nat) (h : i < C.length) : (C.take (i + 1)).any (· == t) = ((C.take i).any (· == t) || (C.getD i 0 == t)) := by
  rw [List.take_add_one, List.any_append, List.getElem?_eq_getElem h]
  simp [List.getD, h]
theorem any_true {α : Type} {L : List α} {f : α → Bool} {i : Nat} (h : (L.take i).any f = true) : L.any f = true := by
  rw [List.any_eq_true] at h ⊢
  obtain ⟨x, hx, hf⟩ := h
  exact ⟨x, List.mem_of_mem_take hx, hf⟩
set_option maxRecDepth 100000 in
set_option maxHeartbeats 4000000 in
theorem done_any (v : Value) (p : Pt) (w : World) (h : RdP w v p) (k : Nat) (hk : k ≤ 1000) (t : Int) :
    Calls Tryd.prog 53 #[v, .int .i64 (k : Int), .int .i64 t] w fun e w' => e = .returned (.bool (dn p k t)) ∧ Below w.heap.size w w' := by
  obtain ⟨v0, v1, vl, rfl, h0, h1, hl⟩ := h
  obtain ⟨al, cl, rfl, _, hm, _⟩ := id hl
  have hst := pb_start w p.nm v0 v1 (.slice al p.ln.length cl)
  have hat := fun j (hj : j < p.ln.length) => hl.at hj
  obtain ⟨q, hq⟩ : ∃ q, w.heap.size = q := ⟨_, rfl⟩
  obtain ⟨n, hn⟩ : ∃ n, p.ln.length = n := ⟨_, rfl⟩
  obtain ⟨nm, hnm⟩ : ∃ nm, p.nm = nm := ⟨_, rfl⟩
  simp only [hn, hq, hnm] at hst hat hm ⊢
  obtain ⟨W, hW⟩ : ∃ W, w.alloc (.cells #[.string nm, v0, v1, .slice al n cl] 26) = W := ⟨_, rfl⟩
  rw [hW] at hst
  have HP : Hid (PB q w nm v0 v1 (.slice al n cl) W) := hst
  have c3 := hst.c3
  have HAT : Hid (∀ j, j < n → _) := hat
  have HN : Hid (p.ln.length = n) := hn
  have HM : Hid (n ≤ 140737488355328) := hm
  have HK : Hid (k ≤ 1000) := hk
  clear hst hat hm h0 h1 hl
  go_enter Tryd.func53, Tryd.ntmps53
  go_wp2
  go_loopw [7] (fun v7 wr => ∃ i : Nat, i ≤ n ∧ i ≤ k + 1 ∧ v7 = .int .i64 i ∧ (p.ln.take i).any (fun l => l.2.any (· == t)) = false ∧ wr = W) (fun v _ => n - (intOf v).toNat)
  case atStart => exact ⟨0, Nat.zero_le _, Nat.zero_le _, rfl, by simp, rfl⟩
  case round =>
    obtain ⟨i, hi, hik, rfl, hno, rfl⟩ := hrel
    by_cases hin : i ≤ k ∧ i < n
    · have b1 : (i : Int) ≤ (k : Int) := by omega
      have b2 : (i : Int) < (n : Int) := by omega
      obtain ⟨b, o, a2, n2, c2, rfl, hc, hrn, hn2⟩ := HAT.out i hin.2
      have x1 := (hc _ HP.out.old).2
      have hta := hrn.at
      rw [hq] at hta
      obtain ⟨ts, hts⟩ : ∃ ts, (p.ln.getD i (0, [])).2 = ts := ⟨_, rfl⟩
      rw [hts] at hta hn2
      have hnx := any_take p.ln (fun l => l.2.any (· == t)) i (by rw [HN.out]; exact hin.2)
      simp only [hno, hts, Bool.false_or] at hnx
      have HNX : Hid ((p.ln.take (i + 1)).any (fun l => l.2.any (· == t)) = ts.any (· == t)) := hnx
      have HTA : Hid _ := hta
      have HI : Hid (i ≤ k ∧ i < n) := hin
      clear hc hrn hta hnx hts hno hi hik hin
      go_wp2
      go_loopw [8] (fun v8 wy => ∃ j : Nat, j ≤ n2 ∧ v8 = .int .i64 j ∧ (ts.take j).any (· == t) = false ∧ wy = wr) (fun v _ => n2 - (intOf v).toNat)
      case atStart => exact ⟨0, Nat.zero_le _, rfl, by simp, rfl⟩
      case round =>
        obtain ⟨j, hj, rfl, hno, rfl⟩ := hrel
        by_cases hjl : j < n2
        · have b4 : (j : Int) < (n2 : Int) := by omega
          obtain ⟨b', o', rfl, hcj⟩ := HTA.out.2.2 j hjl
          have cj := hcj _ HP.out.old
          have hjs : j < ts.length := by have := HTA.out.1; omega
          have hnx := any_takeI ts t j hjs
          rw [hno, Bool.false_or] at hnx
          obtain ⟨u, hu⟩ : ∃ u, ts.getD j 0 = u := ⟨_, rfl⟩
          rw [hu] at cj hnx
          have HN2 : Hid ((ts.take (j + 1)).any (· == t) = (u == t)) := hnx
          have HJ : Hid (j < n2 ∧ n2 ≤ 140737488355328) := ⟨hjl, HTA.out.2.1⟩
          clear hcj hnx hno hj
          by_cases hut : u = t
          · subst hut
            have HR : Hid (dn p k u = true) := by
              show dn p k u = true
              have h1 : ts.any (· == u) = true := any_true (i := j + 1) (by rw [HN2.out]; simp)
              have h2 := HNX.out
              rw [h1] at h2
              unfold dn
              have e : p.ln.take (i + 1) = (p.ln.take (k + 1)).take (i + 1) := by rw [List.take_take]; congr 1; have := HI.out.1; omega
              rw [e] at h2
              exact any_true h2
            go_wp2
            go_ret
            exact ⟨by rw [HR.out]; rfl, HP.out.old⟩
          · have hub : (u == t) = false := by simpa using hut
            have HUB : Hid ((u == t) = false) := hub
            go_wp2
            first
              | exact ⟨⟨j + 1, HJ.out.1, congrArg (Value.int .i64) (wrapS HJ.out.1 HJ.out.2), by rw [HN2.out, HUB.out], trivial⟩, measS HJ.out.1 HJ.out.2⟩
              | exact ⟨⟨j + 1, HJ.out.1, congrArg (Value.int .i64) (wrapS HJ.out.1 HJ.out.2), by rw [HN2.out, HUB.out], rfl⟩, measS HJ.out.1 HJ.out.2⟩
        · have b4 : ¬ (j : Int) < (n2 : Int) := by omega
          have HNN : Hid ((p.ln.take (i + 1)).any (fun l => l.2.any (· == t)) = false) := by
            show (p.ln.take (i + 1)).any (fun l => l.2.any (· == t)) = false
            rw [HNX.out, ← hno, List.take_of_length_le (by have := HTA.out.1; omega)]
          clear hno
          go_wp2
          exact ⟨⟨i + 1, HI.out.2, Nat.succ_le_succ HI.out.1, congrArg (Value.int .i64) (Int.natCast_succ i).symm, HNN.out, trivial⟩, measP HI.out.2⟩
    · have HR : Hid (dn p k t = false) := by
        show dn p k t = false
        unfold dn
        rw [← hno]
        by_cases h : i ≤ k
        · have : n ≤ i := by omega
          rw [List.take_of_length_le (by rw [HN.out]; omega), List.take_of_length_le (by rw [HN.out]; omega)]
        · rw [show i = k + 1 by omega]
      by_cases hle : i ≤ k
      · have b1 : (i : Int) ≤ (k : Int) := by omega
        have b2 : ¬ (i : Int) < (n : Int) := by omega
        clear hno hin
        go_wp2
        go_ret
        exact ⟨by rw [HR.out]; rfl, HP.out.old⟩
      · have b1 : ¬ (i : Int) ≤ (k : Int) := by omega
        have b1' : decide ((i : Int) ≤ (k : Int)) = false := decide_eq_false b1
        clear hno hin
        go_wp2
        go_ret
        exact ⟨by rw [HR.out]; rfl, HP.out.old⟩
end Go.Proofs.YtjhleocpipmklaaDoor
