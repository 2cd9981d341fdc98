import Derived.Maps.AppendAt
import Derived.Test.YtffpfnecmabhpaaDoorMtae
import Derived.Test.YtffpfnecmabhpaaDoorMtaa
namespace Go.Proofs.YtffpfnecmabhpaaDoor
set_option linter.unusedSimpArgs false
set_option linter.unusedVariables false
open Go.ChangeShapes Go.WideShapes Go.ChangeAt Go.RowKit Go.Pin Go.Pat
theorem infoP : (Tryd.prog.info? 26).map (·.size) = some 4 := by kernel_rfl
theorem shp_lines : ∀ (L : List Ln) (o : Option Int) (n : Nat), shp o n L = true → ∀ l ∈ L, (l.1 = 0 ∨ l.1 = 1) ∧ ∀ t ∈ l.2, 1 ≤ t ∧ t ≤ 7
  | [], _, _, _ => fun l h => nomatch h
  | (f, ts) :: r, o, n, h => fun l hl => by
    rw [shp_split] at h
    simp only [Bool.and_eq_true, decide_eq_true_eq, List.all_eq_true, isTok] at h
    rcases List.mem_cons.1 hl with rfl | hl
    · exact ⟨h.1.1.1.1.1, h.1.2⟩
    · exact shp_lines r _ _ h.2 l hl
set_option maxRecDepth 100000 in
set_option maxHeartbeats 4000000 in
theorem check_any (v : Value) (p : Pt) (w : World) (h : RdP w v p) :
    Calls Tryd.prog 4 #[v] w fun e w' => e = .returned (.int .i64 (chk p)) ∧ Below w.heap.size w w' := by
  have hsh := fun (W : World) (hW : Below w.heap.size w W) => shaped_any v p W (h.below hW)
  have hbg := fun (W : World) (hW : Below w.heap.size w W) => begin_any v p W (h.below hW)
  have how := fun (W : World) (hW : Below w.heap.size w W) => oneWay_any v p W (h.below hW)
  obtain ⟨v0, v1, vl, rfl, h0, h1, hl⟩ := h
  obtain ⟨al, cl, rfl, _, hm, _⟩ := id hl
  have hst := pb_start w p.nm v0 v1 (.slice al p.ln.length cl)
  have hat := fun j (hj : j < p.ln.length) => hl.at hj
  obtain ⟨q, hq⟩ : ∃ q, w.heap.size = q := ⟨_, rfl⟩
  obtain ⟨n, hn⟩ : ∃ n, p.ln.length = n := ⟨_, rfl⟩
  obtain ⟨nm, hnm⟩ : ∃ nm, p.nm = nm := ⟨_, rfl⟩
  simp only [hn, hq, hnm] at hst hat hm hsh hbg how ⊢
  obtain ⟨W, hW⟩ : ∃ W, w.alloc (.cells #[.string nm, v0, v1, .slice al n cl] 26) = W := ⟨_, rfl⟩
  rw [hW] at hst
  have HP : Hid (PB q w nm v0 v1 (.slice al n cl) W) := hst
  have HAT : Hid (∀ j, j < n → _) := hat
  have HN : Hid (p.ln.length = n) := hn
  have HM : Hid (n ≤ 140737488355328) := hm
  have HSH : Hid _ := hsh
  have HBG : Hid _ := hbg
  have HOW : Hid _ := how
  have c0 := hst.c0
  have c1 := hst.c1
  have c2 := hst.c2
  have c3 := hst.c3
  rcases hs : shaped p with _ | _
  · have HR : Hid (chk p = 9) := by show chk p = 9; simp [chk, hs]
    rw [hs] at HSH
    clear hst hat hm hsh hbg how h0 h1 hl
    go_enter Tryd.func4, Tryd.ntmps4
    go_wp2_with (go_at_call 7; refine (HSH.out _ HP.out.old).mono ?_; rintro e w' ⟨rfl, hw⟩; have HW : Hid (PB q w nm v0 v1 (.slice al n cl) w') := HP.out.below hw; clear hw)
    go_ret
    exact ⟨by rw [HR.out]; rfl, HW.out.old⟩
  rw [hs] at HSH
  have HSP : Hid (∀ l ∈ p.ln, (l.1 = 0 ∨ l.1 = 1) ∧ ∀ t ∈ l.2, 1 ≤ t ∧ t ≤ 7) := by
    have := hs
    unfold shaped at this
    simp only [Bool.and_eq_true] at this
    exact shp_lines _ _ _ this.2
  have HSD : Hid (shaped p = true) := hs
  clear hst hat hm hsh hbg how h0 h1 hl hs
  go_enter Tryd.func4, Tryd.ntmps4
  go_upto_region 3 with (go_at_call 7; refine (HSH.out _ HP.out.old).mono ?_; rintro e w' ⟨rfl, hw⟩; have HW : Hid (PB q w nm v0 v1 (.slice al n cl) w') := HP.out.below hw; clear hw; have d0 := HW.out.c0; have d1 := HW.out.c1; have d2 := HW.out.c2; have d3 := HW.out.c3)
  go_wp2_with (first | (go_at_call 8; refine (HBG.out _ HW.out.old).mono ?_; rintro e w2 ⟨rfl, hw⟩; have HW2 : Hid (PB q w nm v0 v1 (.slice al n cl) w2) := HW.out.below hw; clear hw; simp only [SV]) | (with_reducible refine at_list ?_; refine hold_store 42 (.tmp 3) (.tmp 13) rfl ?_))

  refine store_row_new rfl 42 (.tmp 3) (.tmp 13) rfl w2.heap.size (BV (beg p)) rfl rfl rfl 42 (BV Sn0) (infoS (beg_length p)) (szS (beg_length p)) (BV_one _) ?_
  have hck := ck_start HW2.out (beg p)
  obtain ⟨g, hg⟩ : ∃ g, w2.heap.size = g := ⟨_, rfl⟩
  obtain ⟨W3, hW3⟩ : ∃ W3, w2.alloc (.cells (BV (beg p)) 42) = W3 := ⟨_, rfl⟩
  rw [hg, hW3] at hck
  simp only [hg, hW3]
  have HC : Hid (CK q g w nm v0 v1 (.slice al n cl) (beg p) W3) := hck
  clear hck hg hW3 d0 d1 d2 d3 c0 c1 c2 c3 HW HW2 hW
  go_wp2
  go_loopw [4] (fun v4 wr => ∃ (k : Nat) (x : Sn), k ≤ n ∧ v4 = .int .i64 k ∧ x.length = 12 ∧ lns (beg p) p.ln = lns x (p.ln.drop k) ∧ CK q g w nm v0 v1 (.slice al n cl) x wr) (fun v _ => n - (intOf v).toNat)
  case atStart => exact ⟨0, beg p, Nat.zero_le _, rfl, beg_length p, rfl, HC.out⟩
  case round =>
    obtain ⟨k, x, hk, rfl, hx, hln, hck⟩ := hrel
    have c3 := hck.pb.c3
    by_cases hlt : k < n
    · obtain ⟨b, o, a2, n2, c2, rfl, hc, hrn, hn2⟩ := HAT.out k hlt
      have d0 := hc wr hck.pb.old
      have x0 := d0.1
      have x1 := d0.2
      have b1 : (k : Int) < (n : Int) := by omega
      have HCK : Hid (CK q g w nm v0 v1 (.slice (some ⟨b, o, none⟩) n cl) x wr) := hck
      have HLN : Hid (lns (beg p) p.ln = lns x (p.ln.drop k) ∧ x.length = 12) := ⟨hln, hx⟩
      have HRN : Hid (RdN w (.slice a2 n2 c2) (p.ln.getD k (0, [])).2 ∧ n2 = (p.ln.getD k (0, [])).2.length) := ⟨hrn, hn2⟩
      clear hck hln hrn hn2 d0 hc hx
      obtain ⟨f, hf⟩ : ∃ f, (p.ln.getD k (0, [])).1 = f := ⟨_, rfl⟩
      rw [hf] at x0
      go_upto_region 8 with fail
      have hcl := cl_start HCK.out f (.slice a2 n2 c2)
      obtain ⟨m, hm2⟩ : ∃ m, wr.heap.size = m := ⟨_, rfl⟩
      obtain ⟨W1, hW1⟩ : ∃ W1, wr.alloc (.cells #[.int .i64 f, .slice a2 n2 c2] 45) = W1 := ⟨_, rfl⟩
      rw [hm2, hW1] at hcl
      simp only [hm2, hW1]
      have HL : Hid (CL q g m w nm v0 v1 (.slice (some ⟨b, o, none⟩) n cl) x f (.slice a2 n2 c2) W1) := hcl
      have hmem : p.ln.getD k (0, []) ∈ p.ln := by
        have : k < p.ln.length := by rw [HN.out]; exact hlt
        simp [List.getD, this]
      have hsp := HSP.out _ hmem
      obtain ⟨ts, hts⟩ : ∃ ts, (p.ln.getD k (0, [])).2 = ts := ⟨_, rfl⟩
      have hrn := HRN.out.1
      have hn2 := HRN.out.2
      rw [hts] at hrn hn2 hsp
      rw [hf] at hsp
      have hta := hrn.at
      rw [hq] at hta
      have hdr := drop_getD p.ln k (by rw [HN.out]; exact hlt)
      rw [show p.ln.getD k (0, []) = (f, ts) from Prod.ext hf hts] at hdr
      obtain ⟨s, hs2, hsf⟩ : ∃ s : Nat, s < 2 ∧ f = (s : Int) := by rcases hsp.1 with h | h; exact ⟨0, by omega, h⟩; exact ⟨1, by omega, h⟩
      have HTA : Hid (n2 = ts.length ∧ n2 ≤ 140737488355328 ∧ ∀ j, j < n2 → ∃ b o, a2 = some ⟨b, o, none⟩ ∧ ∀ W, Below q w W → W.cell? ⟨b, o + j, none⟩ = some (.int .i64 (ts.getD j 0))) := hta
      have HTS : Hid (∀ t ∈ ts, 1 ≤ t ∧ t ≤ 7) := hsp.2
      have HS2 : Hid (s < 2) := hs2
      have HDR : Hid (p.ln.drop k = (f, ts) :: p.ln.drop (k + 1)) := hdr
      clear hcl hm2 hW1 x0 x1 hmem hsp hts hrn hn2 hta hdr hs2 c3 hf HRN
      subst hsf
      go_wp2
      go_loopw [6] (fun v6 wy => ∃ (j : Nat) (y : Sn), j ≤ n2 ∧ v6 = .int .i64 j ∧ y.length = 12 ∧ tks s x ts = tks s y (ts.drop j) ∧ CL q g m w nm v0 v1 (.slice (some ⟨b, o, none⟩) n cl) y (s : Int) (.slice a2 n2 c2) wy) (fun v _ => n2 - (intOf v).toNat)
      case atStart => exact ⟨0, x, Nat.zero_le _, rfl, HLN.out.2, rfl, HL.out⟩
      case round =>
        obtain ⟨j, y, hj, rfl, hy, htk, hcl⟩ := hrel
        have c0 := hcl.c0
        have c1 := hcl.c1
        by_cases hjl : j < n2
        · have b4 : (j : Int) < (n2 : Int) := by omega
          obtain ⟨b', o', rfl, hcj⟩ := HTA.out.2.2 j hjl
          have hjs : j < ts.length := by have := HTA.out.1; omega
          obtain ⟨t, ht⟩ : ∃ t, ts.getD j 0 = t := ⟨_, rfl⟩
          have ht7 : 1 ≤ t ∧ t ≤ 7 := by
            rw [← ht]
            exact HTS.out _ (by simp [List.getD, hjs])
          rw [ht] at hcj
          have hstep : tks s y (ts.drop j) = (if (tk y s t).2 = 0 then tks s (tk y s t).1 (ts.drop (j + 1)) else tk y s t) := by
            rw [List.drop_eq_getElem_cons hjs, show ts[j] = t from by rw [← ht]; simp [List.getD, hjs]]
            rfl
          have HST : Hid (tks s x ts = (if (tk y s t).2 = 0 then tks s (tk y s t).1 (ts.drop (j + 1)) else tk y s t)) := htk.trans hstep
          have HY : Hid (y.length = 12) := hy
          have HCLY : Hid (CL q g m w nm v0 v1 (.slice (some ⟨b, o, none⟩) n cl) y (s : Int) (.slice (some ⟨b', o', none⟩) n2 c2) wr) := hcl
          have HCJ : Hid (∀ W, Below q w W → W.cell? ⟨b', o' + j, none⟩ = some (.int .i64 t)) := hcj
          have HT7 : Hid (1 ≤ t ∧ t ≤ 7) := ht7
          have HJ : Hid (j < n2 ∧ n2 ≤ 140737488355328) := ⟨hjl, HTA.out.2.1⟩
          clear htk hstep hy hcl hcj ht7 ht hj
          go_upto_region 11 with fail
          refine wp_as (c' := rgC11) (by kernel_rfl) ?_
          refine C11 HY.out HS2.out HT7.out HJ.out.1 HCLY.out HCJ.out rfl rfl rfl rfl (fun _ _ d _ _ h => by cases d <;> exact h) ?_
          intro g7 Y hg7 hz hb
          have hcy := HCLY.out.below hb
          have hly : (tk y s t).1.length = 12 := by rw [tk_length]; exact HY.out
          obtain ⟨y2, hy2⟩ : ∃ y2, (tk y s t).1 = y2 := ⟨_, rfl⟩
          obtain ⟨e, he⟩ : ∃ e, (tk y s t).2 = e := ⟨_, rfl⟩
          rw [hy2] at hz hly
          rw [he, hy2] at HST
          simp only [hy2, he]
          have HZ : Hid (Y.heap[g7]? = some (.cells (BV y2) 42)) := hz
          have HCY : Hid (CL q g m w nm v0 v1 (.slice (some ⟨b, o, none⟩) n cl) y (s : Int) (.slice (some ⟨b', o', none⟩) n2 c2) Y) := hcy
          have HLY : Hid (y2.length = 12) := hly
          have HTK : Hid (tk y s t = (y2, e)) := Prod.ext hy2 he
          clear hz hcy hly hy2 he hb hg7 c0 c1
          by_cases he0 : e = 0
          · subst he0
            rw [if_pos rfl] at HST
            go_wp2_with (with_reducible refine at_list ?_; first | (refine wpList_load_row rfl 42 (.tmp 7) rfl g7 rfl 42 (BV y2) (0, 0) _ HZ.out Tryd.underlying42 rfl (infoS HLY.out) ?_) | (refine wpList_store_row rfl 42 (.tmp 3) (.tmp 48) rfl g (BV y2) rfl rfl 42 (BV y) HCY.out.ck.hx (infoS HLY.out) (by simp [HY.out, HLY.out]) (BV_one _) ?_))
            exact ⟨⟨j + 1, y2, HJ.out.1, congrArg (Value.int .i64) (wrapS HJ.out.1 HJ.out.2), HLY.out, HST.out, HCY.out.over y2⟩, measS HJ.out.1 HJ.out.2⟩
          · have heb : (e == 0) = false := by simpa using he0
            rw [if_neg he0] at HST
            have HR : Hid (chk p = e) := by
              show chk p = e
              have h1 : (lns (beg p) p.ln) = (y2, e) := by
                rw [HLN.out.1, HDR.out]
                show (if (tks (s : Int).toNat x ts).2 ≠ 0 then tks (s : Int).toNat x ts else _) = _
                rw [show ((s : Int)).toNat = s from by omega, HST.out, HTK.out, if_pos he0]
              simp [chk, HSD.out, h1, he0]
            go_wp2
            go_ret
            exact ⟨by rw [HR.out]; rfl, HCY.out.ck.pb.old⟩
        · have b4 : ¬ (j : Int) < (n2 : Int) := by omega
          have HST : Hid (tks s x ts = (y, 0)) := by
            show tks s x ts = (y, 0)
            rw [htk, List.drop_eq_nil_of_le (by have := HTA.out.1; omega)]
            rfl
          have HY : Hid (y.length = 12) := hy
          have HCLY : Hid (CL q g m w nm v0 v1 (.slice (some ⟨b, o, none⟩) n cl) y (s : Int) (.slice a2 n2 c2) wr) := hcl
          have HSF := fun W => safe_any y hy s HS2.out W
          have hlns : lns (beg p) p.ln = if sf y s then lns y (p.ln.drop (k + 1)) else (x, 12) := by
            rw [HLN.out.1, HDR.out]
            show (if (tks (s : Int).toNat x ts).2 ≠ 0 then tks (s : Int).toNat x ts else if sf (tks (s : Int).toNat x ts).1 (s : Int).toNat then lns (tks (s : Int).toNat x ts).1 (p.ln.drop (k + 1)) else (x, 12)) = _
            rw [show ((s : Int)).toNat = s from by omega, HST.out]
            simp
          simp only [SV] at HSF
          have HK : Hid (k < n ∧ n ≤ 140737488355328) := ⟨hlt, HM.out⟩
          clear htk hcl hy hj
          rcases hsf : sf y s with _ | _
          · rw [hsf] at HSF hlns
            have HR : Hid (chk p = 12) := by show chk p = 12; simp [chk, HSD.out, hlns]
            clear hlns hsf
            go_wp2_with (first | (go_at_call 10; refine (HSF _).mono ?_; rintro e w' ⟨rfl, hw⟩; have HW : Hid _ := HCLY.out.below hw; clear hw) | (with_reducible refine at_list ?_; refine wpList_load_row rfl 42 (.tmp 3) rfl g rfl 42 (BV y) (0, 0) _ HCLY.out.ck.hx Tryd.underlying42 rfl (infoS HY.out) ?_))
            go_ret
            exact ⟨by rw [HR.out]; rfl, HW.out.ck.pb.old⟩
          · rw [hsf] at HSF hlns
            have HL2 : Hid (lns (beg p) p.ln = lns y (p.ln.drop (k + 1))) := by show _ = _; rw [hlns]; simp
            clear hlns hsf
            go_wp2_with (first | (go_at_call 10; refine (HSF _).mono ?_; rintro e w' ⟨rfl, hw⟩; have HW : Hid _ := HCLY.out.below hw; clear hw) | (with_reducible refine at_list ?_; refine wpList_load_row rfl 42 (.tmp 3) rfl g rfl 42 (BV y) (0, 0) _ HCLY.out.ck.hx Tryd.underlying42 rfl (infoS HY.out) ?_))
            exact ⟨⟨k + 1, y, HK.out.1, congrArg (Value.int .i64) (wrapS HK.out.1 HK.out.2), HY.out, HL2.out, HW.out.ck⟩, measS HK.out.1 HK.out.2⟩
    · have b1 : ¬ (k : Int) < (n : Int) := by omega
      have hl2 : lns (beg p) p.ln = (x, 0) := by
        rw [hln, List.drop_eq_nil_of_le (by rw [HN.out]; omega)]
        rfl
      have HX : Hid (x.length = 12) := hx
      have HCK : Hid (CK q g w nm v0 v1 (.slice al n cl) x wr) := hck
      have HS0 : ∀ W, Calls Tryd.prog 10 #[.agg (BV x), .int .i64 0] W fun e w' => e = .returned (.bool (sf x 0)) ∧ Below W.heap.size W w' := fun W => safe_any x hx 0 (by decide) W
      have HS1 : ∀ W, Calls Tryd.prog 10 #[.agg (BV x), .int .i64 1] W fun e w' => e = .returned (.bool (sf x 1)) ∧ Below W.heap.size W w' := fun W => safe_any x hx 1 (by decide) W
      clear hck hx hln hk
      rcases e0 : sf x 0 with _ | _
      · rw [e0] at HS0
        have HR : Hid (chk p = 12) := by show chk p = 12; simp [chk, HSD.out, hl2, e0]
        clear hl2 e0 HS1
        go_wp2_with (first | (go_at_call 10; refine Calls.mono (HS0 _) ?_; rintro e w1 ⟨rfl, hw⟩; have HW1 : Hid (CK q g w nm v0 v1 (.slice al n cl) x w1) := HCK.out.below hw; clear hw; have d0 := HW1.out.pb.c0; have d1 := HW1.out.pb.c1; have d2 := HW1.out.pb.c2; have d3 := HW1.out.pb.c3) | (with_reducible refine at_list ?_; first | (refine load_row_w rfl 42 (.tmp 3) rfl g rfl 42 (BV x) (0, 0) _ HCK.out.hx Tryd.underlying42 rfl (infoS HX.out) ?_)))
        go_ret
        exact ⟨by rw [HR.out]; rfl, HW1.out.pb.old⟩
      rw [e0] at HS0
      rcases e2 : oneWay p with _ | _
      · rw [e2] at HOW
        rcases e1 : sf x 1 with _ | _
        · rw [e1] at HS1
          have HR : Hid (chk p = 12) := by show chk p = 12; simp [chk, HSD.out, hl2, e0, e1, e2]
          clear hl2 e0 e1 e2
          go_wp2_with (first | (go_at_call 10; have HQQ := HW2.out; refine Calls.mono (HS1 _) ?_; rintro e w3 ⟨rfl, hw⟩; have HW3 : Hid (CK q g w nm v0 v1 (.slice al n cl) x w3) := HW2.out.below hw; clear hw) | (go_at_call 10; refine Calls.mono (HS0 _) ?_; rintro e w1 ⟨rfl, hw⟩; have HW1 : Hid (CK q g w nm v0 v1 (.slice al n cl) x w1) := HCK.out.below hw; clear hw; have d0 := HW1.out.pb.c0; have d1 := HW1.out.pb.c1; have d2 := HW1.out.pb.c2; have d3 := HW1.out.pb.c3) | (go_at_call 11; refine (HOW.out _ HW1.out.pb.old).mono ?_; rintro e w2 ⟨rfl, hw⟩; have HW2 : Hid (CK q g w nm v0 v1 (.slice al n cl) x w2) := HW1.out.below hw; clear hw) | (with_reducible refine at_list ?_; first | (refine load_row_w rfl 42 (.tmp 3) rfl g rfl 42 (BV x) (0, 0) _ HCK.out.hx Tryd.underlying42 rfl (infoS HX.out) ?_) | (refine load_row_w (by kernel_rfl) 42 (.tmp 3) rfl g rfl 42 (BV x) (0, 0) _ HW2.out.hx Tryd.underlying42 rfl (infoS HX.out) ?_)))
          go_ret
          exact ⟨by rw [HR.out]; rfl, HW3.out.pb.old⟩
        · rw [e1] at HS1
          have HR : Hid (chk p = 0) := by show chk p = 0; simp [chk, HSD.out, hl2, e0, e1, e2]
          clear hl2 e0 e1 e2
          go_wp2_with (first | (go_at_call 10; have HQQ := HW2.out; refine Calls.mono (HS1 _) ?_; rintro e w3 ⟨rfl, hw⟩; have HW3 : Hid (CK q g w nm v0 v1 (.slice al n cl) x w3) := HW2.out.below hw; clear hw) | (go_at_call 10; refine Calls.mono (HS0 _) ?_; rintro e w1 ⟨rfl, hw⟩; have HW1 : Hid (CK q g w nm v0 v1 (.slice al n cl) x w1) := HCK.out.below hw; clear hw; have d0 := HW1.out.pb.c0; have d1 := HW1.out.pb.c1; have d2 := HW1.out.pb.c2; have d3 := HW1.out.pb.c3) | (go_at_call 11; refine (HOW.out _ HW1.out.pb.old).mono ?_; rintro e w2 ⟨rfl, hw⟩; have HW2 : Hid (CK q g w nm v0 v1 (.slice al n cl) x w2) := HW1.out.below hw; clear hw) | (with_reducible refine at_list ?_; first | (refine load_row_w rfl 42 (.tmp 3) rfl g rfl 42 (BV x) (0, 0) _ HCK.out.hx Tryd.underlying42 rfl (infoS HX.out) ?_) | (refine load_row_w (by kernel_rfl) 42 (.tmp 3) rfl g rfl 42 (BV x) (0, 0) _ HW2.out.hx Tryd.underlying42 rfl (infoS HX.out) ?_)))
          go_ret
          exact ⟨by rw [HR.out]; rfl, HW3.out.pb.old⟩
      · rw [e2] at HOW
        have HR : Hid (chk p = 0) := by show chk p = 0; simp [chk, HSD.out, hl2, e0, e2]
        clear hl2 e0 e2 HS1
        go_wp2_with (first | (go_at_call 10; refine Calls.mono (HS0 _) ?_; rintro e w1 ⟨rfl, hw⟩; have HW1 : Hid (CK q g w nm v0 v1 (.slice al n cl) x w1) := HCK.out.below hw; clear hw; have d0 := HW1.out.pb.c0; have d1 := HW1.out.pb.c1; have d2 := HW1.out.pb.c2; have d3 := HW1.out.pb.c3) | (go_at_call 11; refine (HOW.out _ HW1.out.pb.old).mono ?_; rintro e w2 ⟨rfl, hw⟩; have HW2 : Hid (CK q g w nm v0 v1 (.slice al n cl) x w2) := HW1.out.below hw; clear hw) | (with_reducible refine at_list ?_; first | (refine load_row_w rfl 42 (.tmp 3) rfl g rfl 42 (BV x) (0, 0) _ HCK.out.hx Tryd.underlying42 rfl (infoS HX.out) ?_)))
        go_ret
        exact ⟨by rw [HR.out]; rfl, HW2.out.pb.old⟩
end Go.Proofs.YtffpfnecmabhpaaDoor
namespace Go.Proofs.YtffpfnecmabhpaaDoor
set_option linter.unusedSimpArgs false
set_option linter.unusedVariables false
open Go.ChangeShapes Go.WideShapes Go.ChangeAt Go.RowKit Go.Pin Go.Pat
theorem measP {i n : Nat} (h : i < n) : n - (intOf (Value.int .i64 ((i : Int) + 1))).toNat < n - (intOf (Value.int .i64 (i : Int))).toNat := by
  show n - ((i : Int) + 1).toNat < n - ((i : Int)).toNat
  omega
theorem any_take (L : List Ln) (f : Ln → Bool) (i : Nat) (h : i < L.length) : (L.take (i + 1)).any f = ((L.take i).any f || f (L.getD i (0, []))) := by
  rw [List.take_add_one, List.any_append, List.getElem?_eq_getElem h]
  simp [List.getD, h]
theorem any_takeI (C : List Int) (t : Int) (i : Nat) (h : i < C.length) : (C.take (i + 1)).any (· == t) = ((C.take i).any (· == t) || (C.getD i 0 == t)) := by
  rw [List.take_add_one, List.any_append, List.getElem?_eq_getElem h]
  simp [List.getD, h]
theorem any_true {α : Type} {L : List α} {f : α → Bool} {i : Nat} (h : (L.take i).any f = true) : L.any f = true := by
  rw [List.any_eq_true] at h ⊢
  obtain ⟨x, hx, hf⟩ := h
  exact ⟨x, List.mem_of_mem_take hx, hf⟩
end Go.Proofs.YtffpfnecmabhpaaDoor
namespace Go.Proofs.YtffpfnecmabhpaaDoor
set_option linter.unusedSimpArgs false
set_option linter.unusedVariables false
open Go.ChangeShapes Go.WideShapes Go.ChangeAt Go.RowKit Go.Pin Go.Pat
section
variable {a : Act} {o : Oper} {x y z : Operand}
theorem run_ldP {q : Nat} {nm : ByteArray} {v0 v1 vl : Value} (ho : o.op = .load 26 x) (he : a.eval x = .pointer (some ⟨q, 0, none⟩)) (w : World) (hg : w.heap[q]? = some (.cells #[.string nm, v0, v1, vl] 26)) : (execOp a.eval o).run Tryd.prog w = .ok (.value (.agg #[.string nm, v0, v1, vl])) w := by
  unfold execOp
  simp only [ho, he, Instr.loadAt, Instr.sureAddr, Sem.run_bind, Sem.run_pure, Result.andThen_ok, run_loadVar_row w q _ _ _ _ _ hg Tryd.underlying26 rfl infoP]
theorem run_sub1 {f : Int} (hf : f = 0 ∨ f = 1) (ho : o.op = .binOp .sub 3 (.const (.int .i64 1)) y 3) (he : a.eval y = .int .i64 f) (w : World) : (execOp a.eval o).run Tryd.prog w = .ok (.value (.int .i64 (1 - f))) w := by
  unfold execOp
  have hc : a.eval (.const (.int .i64 1)) = .int .i64 1 := rfl
  rcases hf with rfl | rfl
  · simp only [ho, he, hc]
    go_simp
    decide
  · simp only [ho, he, hc]
    go_simp
    decide
end
end Go.Proofs.YtffpfnecmabhpaaDoor
namespace Go.Proofs.YtffpfnecmabhpaaDoor
set_option linter.unusedSimpArgs false
set_option linter.unusedVariables false
open Go.ChangeShapes Go.WideShapes Go.ChangeAt Go.RowKit Go.Pin Go.Pat
end Go.Proofs.YtffpfnecmabhpaaDoor
namespace Go.Proofs.YtffpfnecmabhpaaDoor
set_option linter.unusedSimpArgs false
set_option linter.unusedVariables false
open Go.ChangeShapes Go.WideShapes Go.ChangeAt Go.RowKit Go.Pin Go.Pat
end Go.Proofs.YtffpfnecmabhpaaDoor
/- lists of one's own that grow by one; append in a drawn region and outside of one -/
namespace Go.Proofs.YtffpfnecmabhpaaDoor
set_option linter.unusedSimpArgs false
set_option linter.unusedVariables false
open Go.ChangeShapes Go.WideShapes Go.ChangeAt Go.RowKit Go.Pin Go.Pat
theorem wpApp {P : Program} {o : Oper} {a : Act} {w : World} {K : Act → World → Prop} {Q : Exit → Act → World → Prop} {s x : Operand} {t : TypeId} {v u : Value} {R : Value → World → Prop} {d : Option Nat}
    (ho : o.op = .call { callee := .builtin .append, args := #[s, x], argTypes := #[t, t] }) (hd : o.dst = d) (hs : a.eval s = v) (hx : a.eval x = u) (hr : ∀ ty, ∃ v' w', (Builtin.append_ #[t, t] ty #[v, u]).run P w = .ok v' w' ∧ R v' w') (h : ∀ v' w', R v' w' → K (a.put d v') w') : Oper.wp P o a w K Q := by
  subst hd
  obtain ⟨v', w', h1, h2⟩ := hr o.type
  unfold Oper.wp execOp
  simp only [ho, resolve, invoke, builtin, Sem.run_bind, Sem.run_pure, Result.andThen_ok, List.map_toArray, List.map_cons, List.map_nil, hs, hx, h1]
  exact h v' w' h2
theorem wpList_app {P : Program} (w : World) {ops : Array Oper} {rest : List Oper} {o : Oper} {a : Act} {Q : Exit → Act → World → Prop} {R : Value → World → Prop} (hgd : o.guard = none) (d s : Operand) (t t' : TypeId)
    (ho : o.op = .call { callee := .builtin .append, args := #[d, s], argTypes := #[t, t'] }) (v u : Value) (hd : a.eval d = v) (hs : a.eval s = u)
    (hr : ∀ ty, ∃ v' w', (Builtin.append_ #[t, t'] ty #[v, u]).run P w = .ok v' w' ∧ R v' w') (h : ∀ v' w', R v' w' → wpList P ops Q rest (a.put o.dst v') w') : wpList P ops Q (o :: rest) a w :=
  wpList_plain hgd fun _ hK => by
    obtain ⟨v', w', h1, h2⟩ := hr o.type
    unfold Oper.wp execOp
    simp only [ho, resolve, invoke, builtin, Sem.run_bind, Sem.run_pure, Result.andThen_ok, List.map_toArray, List.map_cons, List.map_nil, hd, hs, h1]
    exact hK _ _ (h v' w' h2)
theorem owns_below {w w' : World} (hb : Below w.heap.size w w') {b : Nat} {e : TypeId} {size : Nat} {v : Value} {n : Nat} {xs : List Value} (ho : w.ownsRow b e size v n xs) : w'.ownsRow b e size v n xs := by
  refine ⟨ho.1, ?_⟩
  rcases ho.2 with h0 | ⟨g, cap, cur, rfl, h1, hg, hr⟩
  · exact .inl h0
  · exact .inr ⟨g, cap, cur, rfl, h1, (hb.block g (Array.getElem?_eq_some_iff.1 hg).1).trans hg, hr⟩
theorem own_app {t e : TypeId} {z : Value} {k by_ : Nat} (hU : Tryd.prog.underlying t = some (.slice e)) (hI : (Tryd.prog.info? e).map (fun i => (i.zero, i.size, i.bytes)) = some (some z, k, by_)) (hz : z.cells.size = k) (hk : 0 < k)
    {w : World} {b : Nat} {v : Value} {n : Nat} {xs : List Value} (hown : w.ownsRow b e k v n xs) {a : Nat} {news : List Value} {t' : TypeId} {fr : Nat × Nat} (hc : w.heap[a]? = some (.cells news.toArray t' fr)) (hl : news.length = k) (h1 : ∀ u ∈ news, u.oneCell' = true) (hn : (n + 1) * by_ ≤ 140737488355328) (hn2 : n + 1 ≤ 140737488355328) (hb : b ≤ w.heap.size) :
    ∀ ty, ∃ v' w', (Builtin.append_ #[t, t] ty #[v, .slice (some ⟨a, 0, none⟩) 1 1]).run Tryd.prog w = .ok v' w' ∧ (w'.ownsRow b e k v' (n + 1) (xs ++ news) ∧ w.grownBy w' v.ownBlock ∧ (v'.ownBlock = v.ownBlock ∨ v'.ownBlock = some w.heap.size)) := fun ty => by
  obtain ⟨i, i1, hz'⟩ := Option.map_eq_some_iff.1 hI
  simp only [Prod.mk.injEq] at hz'
  obtain ⟨i2, i3, i4⟩ := hz'
  obtain ⟨v', w', hr, h2, h3, _, h5⟩ := run_append_own_at (P := Tryd.prog) w b t ty e i z k by_ hU i1 i2 i3 i4 hz hk v n xs hown ⟨a, 0, none⟩ 1 1 news (by rw [hl, Nat.one_mul]) (fun j u hu => by
    rw [add_mid, Nat.zero_add, cell_of_row _ _ _ _ _ _ hc, ← hu]; simp) h1 (by unfold maxLen; omega) hn hb
  exact ⟨v', w', hr, h2, h3, h5⟩
/-- what grows at its own list leaves all below it -/
theorem grown_below {w w' W : World} {q b : Nat} {e : TypeId} {k n : Nat} {v : Value} {xs : List Value} (hb : Below q W w) (ho : w.ownsRow b e k v n xs) (hq : q ≤ b) (hq2 : q ≤ w.heap.size) (hg : w.grownBy w' v.ownBlock) : Below q W w' :=
  hb.grown hg hq2 (fun k hk => by have := (ho.lt k hk).1; omega)
theorem parts_str : (Tryd.prog.info? 9).map (fun i => (i.zero, i.size, i.bytes)) = some (some (.string ⟨#[]⟩), 1, 16) := by kernel_rfl
theorem parts_int : (Tryd.prog.info? 3).map (fun i => (i.zero, i.size, i.bytes)) = some (some (.int .i64 0), 1, 8) := by kernel_rfl
theorem own_nil0 (w : World) (b : Nat) (e : TypeId) (k : Nat) : w.ownsRow b e k (.slice none 0 0) 0 [] := ⟨by simp, .inl ⟨rfl, rfl⟩⟩
/-- texts that are read -/
def RdS (w : World) (v : Value) (L : List ByteArray) : Prop :=
  ∃ a cap, v = .slice a L.length cap ∧ ∀ j, j < L.length → ∃ b o, a = some ⟨b, o, none⟩ ∧ w.cell? ⟨b, o + j, none⟩ = some (.string (L.getD j ⟨#[]⟩))
theorem RdS.below {w W : World} {v : Value} {L : List ByteArray} (h : RdS w v L) (hb : Below w.heap.size w W) : RdS W v L := by
  obtain ⟨a, c, e, h3⟩ := h
  refine ⟨a, c, e, fun j hj => ?_⟩
  obtain ⟨b, o, g1, g2⟩ := h3 j hj
  exact ⟨b, o, g1, cell_below hb g2⟩
theorem own_cell {w : World} {b : Nat} {e : TypeId} {k n : Nat} {a : Option Addr} {m cap : Nat} {xs : List Value} (h : w.ownsRow b e k (.slice a m cap) n xs) : m = n ∧ ∀ j u, xs[j]? = some u → ∃ g, a = some ⟨g, 0, none⟩ ∧ b ≤ g ∧ w.cell? ⟨g, j, none⟩ = some u := by
  rcases h.2 with ⟨e', e2⟩ | ⟨g, cap', cur, e', hb, hg, h1, h2, h3, h4⟩
  · injection e' with e1 e3 e4
    refine ⟨by omega, fun j u hu => ?_⟩
    have := h.1
    have := (List.getElem?_eq_some_iff.1 hu).1
    subst e2
    omega
  · injection e' with e1 e2 e3
    refine ⟨e2, fun j u hu => ⟨g, e1, hb, ?_⟩⟩
    have hj := (List.getElem?_eq_some_iff.1 hu).1
    rw [h.1] at hj
    rw [cell_of_row _ _ _ _ _ _ hg, ← hu, ← h4, List.getElem?_take_of_lt hj]
    simp
theorem own_slice' {w : World} {b : Nat} {e : TypeId} {k n : Nat} {v : Value} {xs : List Value} (h : w.ownsRow b e k v n xs) : ∃ a cap, v = .slice a n cap := by
  rcases h.2 with ⟨rfl, rfl⟩ | ⟨g, cap, cur, rfl, _⟩
  · exact ⟨_, _, rfl⟩
  · exact ⟨_, _, rfl⟩
theorem own_strs {w : World} {b : Nat} {v : Value} {L : List ByteArray} (h : w.ownsRow b 9 1 v L.length (L.map Value.string)) : RdS w v L := by
  obtain ⟨a, cap, rfl⟩ := own_slice' h
  refine ⟨a, cap, rfl, fun j hj => ?_⟩
  obtain ⟨g, e, _, hc⟩ := (own_cell h).2 j (.string (L.getD j ⟨#[]⟩)) (by simp [List.getD, hj])
  exact ⟨g, 0, e, by rw [Nat.zero_add]; exact hc⟩
theorem own_ints {w : World} {b : Nat} {v : Value} {C : List Int} (h : w.ownsRow b 3 1 v C.length (C.map (Value.int .i64))) (hC : C.length ≤ 140737488355328) : RdN w v C := by
  rcases h.2 with ⟨rfl, e2⟩ | ⟨g, cap', cur, rfl, hb, hg, h1, h2, h3, h4⟩
  · obtain rfl : C = [] := List.length_eq_zero_iff.1 e2
    exact ⟨none, 0, rfl, ⟨Nat.le_refl _, fun _ => rfl⟩, hC, .inl rfl⟩
  · refine ⟨_, cap', rfl, ⟨h1, fun h => nomatch h⟩, hC, .inr ⟨g, 0, rfl, fun j u hu => ?_⟩⟩
    obtain ⟨g', e, _, hc⟩ := (own_cell h).2 j u hu
    injection e with e
    injection e with e
    subst e
    rw [Nat.zero_add]
    exact hc
end Go.Proofs.YtffpfnecmabhpaaDoor
namespace Go.Proofs.YtffpfnecmabhpaaDoor
set_option linter.unusedSimpArgs false
set_option linter.unusedVariables false
open Go.ChangeShapes Go.WideShapes Go.ChangeAt Go.RowKit Go.Pin Go.Pat
abbrev Gd := Int × Int × Int
def gcs (l : List Gd) : List Value := l.flatMap fun g => [.int .i64 g.1, .int .i64 g.2.1, .int .i64 g.2.2]
theorem gcs_length (l : List Gd) : (gcs l).length = l.length * 3 := by
  induction l with
  | nil => rfl
  | cons g r ih => simp [gcs] at ih ⊢; omega
theorem gcs_snoc (l : List Gd) (g : Gd) : gcs (l ++ [g]) = gcs l ++ [.int .i64 g.1, .int .i64 g.2.1, .int .i64 g.2.2] := by simp [gcs]
theorem parts_g : (Tryd.prog.info? 35).map (fun i => (i.zero, i.size, i.bytes)) = some (some (.agg #[.int .i64 0, .int .i64 0, .int .i64 0]), 3, 24) := by kernel_rfl
/-- Levels' boxes: the pattern's, a list of grades that grows -/
structure LV (q : Nat) (w : World) (nm : ByteArray) (v0 v1 vl : Value) (gs : List Gd) (v : Value) (wr : World) : Prop where
  pb : PB q w nm v0 v1 vl wr
  own : wr.ownsRow (q + 1) 35 3 v gs.length (gcs gs)
section
variable {q : Nat} {w wr w' : World} {nm : ByteArray} {v0 v1 vl v : Value} {gs : List Gd}
theorem LV.below (h : LV q w nm v0 v1 vl gs v wr) (hb : Below wr.heap.size wr w') : LV q w nm v0 v1 vl gs v w' := ⟨h.pb.below hb, owns_below hb h.own⟩
theorem LV.app (h : LV q w nm v0 v1 vl gs v wr) (hn : gs.length + 1 ≤ 1000) (a : Nat) (g : Gd) (hc : wr.heap[a]? = some (.cells #[.int .i64 g.1, .int .i64 g.2.1, .int .i64 g.2.2] 35)) :
    ∀ ty, ∃ v' w', (Builtin.append_ #[29, 29] ty #[v, .slice (some ⟨a, 0, none⟩) 1 1]).run Tryd.prog wr = .ok v' w' ∧ LV q w nm v0 v1 vl (gs ++ [g]) v' w' := fun ty => by
  obtain ⟨i, i1, hz⟩ := Option.map_eq_some_iff.1 parts_g
  simp only [Prod.mk.injEq] at hz
  obtain ⟨i2, i3, i4⟩ := hz
  obtain ⟨v', w', hr, h2, h3, _, _⟩ := run_append_own_at (P := Tryd.prog) wr (q + 1) 29 ty 35 i (.agg #[.int .i64 0, .int .i64 0, .int .i64 0]) 3 24 Tryd.underlying29 i1 i2 i3 i4 rfl (by decide) v gs.length (gcs gs) h.own ⟨a, 0, none⟩ 1 1 [.int .i64 g.1, .int .i64 g.2.1, .int .i64 g.2.2] rfl (fun j u hu => by
    rw [add_mid, Nat.zero_add, cell_of_row _ _ _ _ _ _ hc, ← hu]; simp) (fun u hu => by simp at hu; rcases hu with rfl | rfl | rfl <;> rfl) (by unfold maxLen; omega) (by omega) h.pb.lt
  refine ⟨v', w', hr, ⟨?_, Nat.lt_of_lt_of_le h.pb.lt h3.size, ?_⟩, ?_⟩
  · refine ⟨h3.os.trans h.pb.old.os, h3.tape.trans h.pb.old.tape, h3.output.trans h.pb.old.output, Nat.le_trans h.pb.old.size h3.size, fun k hk => ?_⟩
    rw [h3.block k (Nat.lt_trans hk h.pb.lt) (fun e => by have := (h.own.lt k e.symm).1; omega)]
    exact h.pb.old.block k hk
  · rw [h3.block q h.pb.lt (fun e => by have := (h.own.lt q e.symm).1; omega)]
    exact h.pb.row
  · rw [gcs_snoc, List.length_append]
    exact h2
end
section
variable {a : Act} {o : Oper} {x y z : Operand}
theorem run_mkG {s : Nat} {c0 c1 c2 : Value} (ho : o.op = .buildSlice 29 1 #[(0, .tmp s)]) (he : a.eval (.tmp s) = .agg #[c0, c1, c2]) (w : World) : (execOp a.eval o).run Tryd.prog w = .ok (.value (.slice (some ⟨w.heap.size, 0, none⟩) 1 1)) (w.alloc (.cells #[c0, c1, c2] 35)) := by
  unfold execOp
  have he' : a.tmps[s]?.getD undef = .agg #[c0, c1, c2] := by rw [← he]; simp [Act.eval]
  simp only [ho]
  go_simp
theorem run_bG {s t u : Nat} {x y z : Int} (ho : o.op = .build 35 #[(0, .tmp s), (1, .tmp t), (2, .tmp u)]) (h1 : a.eval (.tmp s) = .int .i64 x) (h2 : a.eval (.tmp t) = .int .i64 y) (h3 : a.eval (.tmp u) = .int .i64 z) (w : World) : (execOp a.eval o).run Tryd.prog w = .ok (.value (.agg #[.int .i64 x, .int .i64 y, .int .i64 z])) w := by
  unfold execOp
  have e1 : a.tmps[s]?.getD undef = .int .i64 x := by rw [← h1]; simp [Act.eval]
  have e2 : a.tmps[t]?.getD undef = .int .i64 y := by rw [← h2]; simp [Act.eval]
  have e3 : a.tmps[u]?.getD undef = .int .i64 z := by rw [← h3]; simp [Act.eval]
  simp only [ho]
  go_simp
end
end Go.Proofs.YtffpfnecmabhpaaDoor
namespace Go.Proofs.YtffpfnecmabhpaaDoor
set_option linter.unusedSimpArgs false
set_option linter.unusedVariables false
open Go.ChangeShapes Go.WideShapes Go.ChangeAt Go.RowKit Go.Pin Go.Pat
theorem shp_len : ∀ (L : List Ln) (o : Option Int) (m : Nat), shp o m L = true → L ≠ [] → m + L.length ≤ 24
  | [], _, _, _, h => absurd rfl h
  | (f, ts) :: r, o, m, h, _ => by
    rw [shp_split] at h
    simp only [Bool.and_eq_true, decide_eq_true_eq, Bool.not_eq_true', List.isEmpty_eq_false_iff] at h
    have h1 : 0 < ts.length := List.length_pos_iff.2 h.1.1.1.2
    have h2 := h.1.1.2
    by_cases hr : r = []
    · subst hr; simp; omega
    · have := shp_len r _ _ h.2 hr
      simp; omega
theorem chk_valid {p : Pt} (h : chk p = 0) : (∀ l ∈ p.ln, l.1 = 0 ∨ l.1 = 1) ∧ p.ln.length ≤ 24 := by
  have hs : shaped p = true := by
    rcases e : shaped p with _ | _
    · simp [chk, e] at h
    · rfl
  unfold shaped at hs
  simp only [Bool.and_eq_true, Bool.not_eq_true', List.isEmpty_eq_false_iff] at hs
  refine ⟨fun l hl => (shp_lines _ _ _ hs.2 l hl).1, ?_⟩
  have := shp_len _ _ _ hs.2 hs.1.2
  omega
def gd (p : Pt) (k : Nat) : Gd := (sender p k, src p k, dst p k)
def lvE (p : Pt) (more : Int) : Int := if chk p ≠ 0 then chk p else if more < 0 ∨ 64 < more then 1 else 0
def lvL (p : Pt) (more : Int) : List Gd := if lvE p more = 0 then (List.range (p.ln.length + more.toNat)).map (gd p) else []
theorem own_nil (w : World) (b : Nat) : w.ownsRow b 35 3 (.slice none 0 0) 0 (gcs []) := ⟨rfl, .inl ⟨rfl, rfl⟩⟩
end Go.Proofs.YtffpfnecmabhpaaDoor
