import Derived.Deep.Slices
import Derived.Deep.Strs
import Derived.SizedLaws
import Derived.LaidLaws
import Derived.ChangeArms
import Derived.OpenShut
import Derived.Lib.LaidTab
import Derived.Test.YtjhleocpipmklaaDoorMjad
namespace Go.Proofs.YtjhleocpipmklaaDoor
set_option linter.unusedSimpArgs false
set_option linter.unusedVariables false
open Go.ChangeShapes Go.WideShapes Go.ChangeAt Go.RowKit Go.Pin Go.Pat
theorem infoP : (Tryd.prog.info? 26).map (·.size) = some 4 := by kernel_rfl
theorem shp_lines : ∀ (L : List Ln) (o : Option Int) (n : Nat), shp o n L = true → ∀ l ∈ L, (l.1 = 0 ∨ l.1 = 1) ∧ ∀ t ∈ l.2, 1 ≤ t ∧ t ≤ 7
  | [], _, _, _ => fun l h => nomatch h
  | (f, ts) :: r, o, n, h => fun l hl => by
    rw [shp_split] at h
    simp only [Bool.and_eq_true, decide_eq_true_eq, List.all_eq_true, isTok] at h
    rcases List.mem_cons.1 hl with rfl | hl
    · exact ⟨h.1.1.1.1.1, h.1.2⟩
    · exact shp_lines r _ _ h.2 l hl
set_option maxRecDepth 100000 in
set_option maxHeartbeats 4000000 in
theorem check_any (v : Value) (p : Pt) (w : World) (h : RdP w v p) :
    Calls Tryd.prog 28 #[v] w fun e w' => e = .returned (.int .i64 (chk p)) ∧ Below w.heap.size w w' := by
  have hsh := fun (W : World) (hW : Below w.heap.size w W) => shaped_any v p W (h.below hW)
  have hbg := fun (W : World) (hW : Below w.heap.size w W) => begin_any v p W (h.below hW)
  have how := fun (W : World) (hW : Below w.heap.size w W) => oneWay_any v p W (h.below hW)
  obtain ⟨v0, v1, vl, rfl, h0, h1, hl⟩ := h
  obtain ⟨al, cl, rfl, _, hm, _⟩ := id hl
  have hst := pb_start w p.nm v0 v1 (.slice al p.ln.length cl)
  have hat := fun j (hj : j < p.ln.length) => hl.at hj
  obtain ⟨q, hq⟩ : ∃ q, w.heap.size = q := ⟨_, rfl⟩
  obtain ⟨n, hn⟩ : ∃ n, p.ln.length = n := ⟨_, rfl⟩
  obtain ⟨nm, hnm⟩ : ∃ nm, p.nm = nm := ⟨_, rfl⟩
  simp only [hn, hq, hnm] at hst hat hm hsh hbg how ⊢
  obtain ⟨W, hW⟩ : ∃ W, w.alloc (.cells #[.string nm, v0, v1, .slice al n cl] 26) = W := ⟨_, rfl⟩
  rw [hW] at hst
  have HP : Hid (PB q w nm v0 v1 (.slice al n cl) W) := hst
  have HAT : Hid (∀ j, j < n → _) := hat
  have HN : Hid (p.ln.length = n) := hn
  have HM : Hid (n ≤ 140737488355328) := hm
  have HSH : Hid _ := hsh
  have HBG : Hid _ := hbg
  have HOW : Hid _ := how
  have c0 := hst.c0
  have c1 := hst.c1
  have c2 := hst.c2
  have c3 := hst.c3
  rcases hs : shaped p with _ | _
  · have HR : Hid (chk p = 9) := by show chk p = 9; simp [chk, hs]
    rw [hs] at HSH
    clear hst hat hm hsh hbg how h0 h1 hl
    go_enter Tryd.func28, Tryd.ntmps28
    go_wp2_with (go_at_call 48; refine (HSH.out _ HP.out.old).mono ?_; rintro e w' ⟨rfl, hw⟩; have HW : Hid (PB q w nm v0 v1 (.slice al n cl) w') := HP.out.below hw; clear hw)
    go_ret
    exact ⟨by rw [HR.out]; rfl, HW.out.old⟩
  rw [hs] at HSH
  have HSP : Hid (∀ l ∈ p.ln, (l.1 = 0 ∨ l.1 = 1) ∧ ∀ t ∈ l.2, 1 ≤ t ∧ t ≤ 7) := by
    have := hs
    unfold shaped at this
    simp only [Bool.and_eq_true] at this
    exact shp_lines _ _ _ this.2
  have HSD : Hid (shaped p = true) := hs
  clear hst hat hm hsh hbg how h0 h1 hl hs
  go_enter Tryd.func28, Tryd.ntmps28
  go_upto_region 3 with (go_at_call 48; refine (HSH.out _ HP.out.old).mono ?_; rintro e w' ⟨rfl, hw⟩; have HW : Hid (PB q w nm v0 v1 (.slice al n cl) w') := HP.out.below hw; clear hw; have d0 := HW.out.c0; have d1 := HW.out.c1; have d2 := HW.out.c2; have d3 := HW.out.c3)
  go_wp2_with (first | (go_at_call 49; refine (HBG.out _ HW.out.old).mono ?_; rintro e w2 ⟨rfl, hw⟩; have HW2 : Hid (PB q w nm v0 v1 (.slice al n cl) w2) := HW.out.below hw; clear hw; simp only [SV]) | (with_reducible refine at_list ?_; refine hold_store 90 (.tmp 3) (.tmp 13) rfl ?_))

  refine store_row_new rfl 90 (.tmp 3) (.tmp 13) rfl w2.heap.size (BV (beg p)) rfl rfl rfl 90 (BV Sn0) (infoS (beg_length p)) (szS (beg_length p)) (BV_one _) ?_
  have hck := ck_start HW2.out (beg p)
  obtain ⟨g, hg⟩ : ∃ g, w2.heap.size = g := ⟨_, rfl⟩
  obtain ⟨W3, hW3⟩ : ∃ W3, w2.alloc (.cells (BV (beg p)) 90) = W3 := ⟨_, rfl⟩
  rw [hg, hW3] at hck
  simp only [hg, hW3]
  have HC : Hid (CK q g w nm v0 v1 (.slice al n cl) (beg p) W3) := hck
  clear hck hg hW3 d0 d1 d2 d3 c0 c1 c2 c3 HW HW2 hW
  go_wp2
  go_loopw [4] (fun v4 wr => ∃ (k : Nat) (x : Sn), k ≤ n ∧ v4 = .int .i64 k ∧ x.length = 12 ∧ lns (beg p) p.ln = lns x (p.ln.drop k) ∧ CK q g w nm v0 v1 (.slice al n cl) x wr) (fun v _ => n - (intOf v).toNat)
  case atStart => exact ⟨0, beg p, Nat.zero_le _, rfl, beg_length p, rfl, HC.out⟩
  case round =>
    obtain ⟨k, x, hk, rfl, hx, hln, hck⟩ := hrel
    have c3 := hck.pb.c3
    by_cases hlt : k < n
    · obtain ⟨b, o, a2, n2, c2, rfl, hc, hrn, hn2⟩ := HAT.out k hlt
      have d0 := hc wr hck.pb.old
      have x0 := d0.1
      have x1 := d0.2
      have b1 : (k : Int) < (n : Int) := by omega
      have HCK : Hid (CK q g w nm v0 v1 (.slice (some ⟨b, o, none⟩) n cl) x wr) := hck
      have HLN : Hid (lns (beg p) p.ln = lns x (p.ln.drop k) ∧ x.length = 12) := ⟨hln, hx⟩
      have HRN : Hid (RdN w (.slice a2 n2 c2) (p.ln.getD k (0, [])).2 ∧ n2 = (p.ln.getD k (0, [])).2.length) := ⟨hrn, hn2⟩
      clear hck hln hrn hn2 d0 hc hx
      obtain ⟨f, hf⟩ : ∃ f, (p.ln.getD k (0, [])).1 = f := ⟨_, rfl⟩
      rw [hf] at x0
      go_upto_region 8 with fail
      have hcl := cl_start HCK.out f (.slice a2 n2 c2)
      obtain ⟨m, hm2⟩ : ∃ m, wr.heap.size = m := ⟨_, rfl⟩
      obtain ⟨W1, hW1⟩ : ∃ W1, wr.alloc (.cells #[.int .i64 f, .slice a2 n2 c2] 43) = W1 := ⟨_, rfl⟩
      rw [hm2, hW1] at hcl
      simp only [hm2, hW1]
      have HL : Hid (CL q g m w nm v0 v1 (.slice (some ⟨b, o, none⟩) n cl) x f (.slice a2 n2 c2) W1) := hcl
      have hmem : p.ln.getD k (0, []) ∈ p.ln := by
        have : k < p.ln.length := by rw [HN.out]; exact hlt
        simp [List.getD, this]
      have hsp := HSP.out _ hmem
      obtain ⟨ts, hts⟩ : ∃ ts, (p.ln.getD k (0, [])).2 = ts := ⟨_, rfl⟩
      have hrn := HRN.out.1
      have hn2 := HRN.out.2
      rw [hts] at hrn hn2 hsp
      rw [hf] at hsp
      have hta := hrn.at
      rw [hq] at hta
      have hdr := drop_getD p.ln k (by rw [HN.out]; exact hlt)
      rw [show p.ln.getD k (0, []) = (f, ts) from Prod.ext hf hts] at hdr
      obtain ⟨s, hs2, hsf⟩ : ∃ s : Nat, s < 2 ∧ f = (s : Int) := by rcases hsp.1 with h | h; exact ⟨0, by omega, h⟩; exact ⟨1, by omega, h⟩
      have HTA : Hid (n2 = ts.length ∧ n2 ≤ 140737488355328 ∧ ∀ j, j < n2 → ∃ b o, a2 = some ⟨b, o, none⟩ ∧ ∀ W, Below q w W → W.cell? ⟨b, o + j, none⟩ = some (.int .i64 (ts.getD j 0))) := hta
      have HTS : Hid (∀ t ∈ ts, 1 ≤ t ∧ t ≤ 7) := hsp.2
      have HS2 : Hid (s < 2) := hs2
      have HDR : Hid (p.ln.drop k = (f, ts) :: p.ln.drop (k + 1)) := hdr
      clear hcl hm2 hW1 x0 x1 hmem hsp hts hrn hn2 hta hdr hs2 c3 hf HRN
      subst hsf
      go_wp2
      go_loopw [6] (fun v6 wy => ∃ (j : Nat) (y : Sn), j ≤ n2 ∧ v6 = .int .i64 j ∧ y.length = 12 ∧ tks s x ts = tks s y (ts.drop j) ∧ CL q g m w nm v0 v1 (.slice (some ⟨b, o, none⟩) n cl) y (s : Int) (.slice a2 n2 c2) wy) (fun v _ => n2 - (intOf v).toNat)
      case atStart => exact ⟨0, x, Nat.zero_le _, rfl, HLN.out.2, rfl, HL.out⟩
      case round =>
        obtain ⟨j, y, hj, rfl, hy, htk, hcl⟩ := hrel
        have c0 := hcl.c0
        have c1 := hcl.c1
        by_cases hjl : j < n2
        · have b4 : (j : Int) < (n2 : Int) := by omega
          obtain ⟨b', o', rfl, hcj⟩ := HTA.out.2.2 j hjl
          have hjs : j < ts.length := by have := HTA.out.1; omega
          obtain ⟨t, ht⟩ : ∃ t, ts.getD j 0 = t := ⟨_, rfl⟩
          have ht7 : 1 ≤ t ∧ t ≤ 7 := by
            rw [← ht]
            exact HTS.out _ (by simp [List.getD, hjs])
          rw [ht] at hcj
          have hstep : tks s y (ts.drop j) = (if (tk y s t).2 = 0 then tks s (tk y s t).1 (ts.drop (j + 1)) else tk y s t) := by
            rw [List.drop_eq_getElem_cons hjs, show ts[j] = t from by rw [← ht]; simp [List.getD, hjs]]
            rfl
          have HST : Hid (tks s x ts = (if (tk y s t).2 = 0 then tks s (tk y s t).1 (ts.drop (j + 1)) else tk y s t)) := htk.trans hstep
          have HY : Hid (y.length = 12) := hy
          have HCLY : Hid (CL q g m w nm v0 v1 (.slice (some ⟨b, o, none⟩) n cl) y (s : Int) (.slice (some ⟨b', o', none⟩) n2 c2) wr) := hcl
          have HCJ : Hid (∀ W, Below q w W → W.cell? ⟨b', o' + j, none⟩ = some (.int .i64 t)) := hcj
          have HT7 : Hid (1 ≤ t ∧ t ≤ 7) := ht7
          have HJ : Hid (j < n2 ∧ n2 ≤ 140737488355328) := ⟨hjl, HTA.out.2.1⟩
          clear htk hstep hy hcl hcj ht7 ht hj
          go_upto_region 11 with fail
          refine wp_as (c' := rgC11) (by kernel_rfl) ?_
          refine C11 HY.out HS2.out HT7.out HJ.out.1 HCLY.out HCJ.out rfl rfl rfl rfl (fun _ _ d _ _ h => by cases d <;> exact h) ?_
          intro g7 Y hg7 hz hb
          have hcy := HCLY.out.below hb
          have hly : (tk y s t).1.length = 12 := by rw [tk_length]; exact HY.out
          obtain ⟨y2, hy2⟩ : ∃ y2, (tk y s t).1 = y2 := ⟨_, rfl⟩
          obtain ⟨e, he⟩ : ∃ e, (tk y s t).2 = e := ⟨_, rfl⟩
          rw [hy2] at hz hly
          rw [he, hy2] at HST
          simp only [hy2, he]
          have HZ : Hid (Y.heap[g7]? = some (.cells (BV y2) 90)) := hz
          have HCY : Hid (CL q g m w nm v0 v1 (.slice (some ⟨b, o, none⟩) n cl) y (s : Int) (.slice (some ⟨b', o', none⟩) n2 c2) Y) := hcy
          have HLY : Hid (y2.length = 12) := hly
          have HTK : Hid (tk y s t = (y2, e)) := Prod.ext hy2 he
          clear hz hcy hly hy2 he hb hg7 c0 c1
          by_cases he0 : e = 0
          · subst he0
            rw [if_pos rfl] at HST
            go_wp2_with (with_reducible refine at_list ?_; first | (refine wpList_load_row rfl 90 (.tmp 7) rfl g7 rfl 90 (BV y2) (0, 0) _ HZ.out Tryd.underlying90 rfl (infoS HLY.out) ?_) | (refine wpList_store_row rfl 90 (.tmp 3) (.tmp 48) rfl g (BV y2) rfl rfl 90 (BV y) HCY.out.ck.hx (infoS HLY.out) (by simp [HY.out, HLY.out]) (BV_one _) ?_))
            exact ⟨⟨j + 1, y2, HJ.out.1, congrArg (Value.int .i64) (wrapS HJ.out.1 HJ.out.2), HLY.out, HST.out, HCY.out.over y2⟩, measS HJ.out.1 HJ.out.2⟩
          · have heb : (e == 0) = false := by simpa using he0
            rw [if_neg he0] at HST
            have HR : Hid (chk p = e) := by
              show chk p = e
              have h1 : (lns (beg p) p.ln) = (y2, e) := by
                rw [HLN.out.1, HDR.out]
                show (if (tks (s : Int).toNat x ts).2 ≠ 0 then tks (s : Int).toNat x ts else _) = _
                rw [show ((s : Int)).toNat = s from by omega, HST.out, HTK.out, if_pos he0]
              simp [chk, HSD.out, h1, he0]
            go_wp2
            go_ret
            exact ⟨by rw [HR.out]; rfl, HCY.out.ck.pb.old⟩
        · have b4 : ¬ (j : Int) < (n2 : Int) := by omega
          have HST : Hid (tks s x ts = (y, 0)) := by
            show tks s x ts = (y, 0)
            rw [htk, List.drop_eq_nil_of_le (by have := HTA.out.1; omega)]
            rfl
          have HY : Hid (y.length = 12) := hy
          have HCLY : Hid (CL q g m w nm v0 v1 (.slice (some ⟨b, o, none⟩) n cl) y (s : Int) (.slice a2 n2 c2) wr) := hcl
          have HSF := fun W => safe_any y hy s HS2.out W
          have hlns : lns (beg p) p.ln = if sf y s then lns y (p.ln.drop (k + 1)) else (x, 12) := by
            rw [HLN.out.1, HDR.out]
            show (if (tks (s : Int).toNat x ts).2 ≠ 0 then tks (s : Int).toNat x ts else if sf (tks (s : Int).toNat x ts).1 (s : Int).toNat then lns (tks (s : Int).toNat x ts).1 (p.ln.drop (k + 1)) else (x, 12)) = _
            rw [show ((s : Int)).toNat = s from by omega, HST.out]
            simp
          simp only [SV] at HSF
          have HK : Hid (k < n ∧ n ≤ 140737488355328) := ⟨hlt, HM.out⟩
          clear htk hcl hy hj
          rcases hsf : sf y s with _ | _
          · rw [hsf] at HSF hlns
            have HR : Hid (chk p = 12) := by show chk p = 12; simp [chk, HSD.out, hlns]
            clear hlns hsf
            go_wp2_with (first | (go_at_call 51; refine (HSF _).mono ?_; rintro e w' ⟨rfl, hw⟩; have HW : Hid _ := HCLY.out.below hw; clear hw) | (with_reducible refine at_list ?_; refine wpList_load_row rfl 90 (.tmp 3) rfl g rfl 90 (BV y) (0, 0) _ HCLY.out.ck.hx Tryd.underlying90 rfl (infoS HY.out) ?_))
            go_ret
            exact ⟨by rw [HR.out]; rfl, HW.out.ck.pb.old⟩
          · rw [hsf] at HSF hlns
            have HL2 : Hid (lns (beg p) p.ln = lns y (p.ln.drop (k + 1))) := by show _ = _; rw [hlns]; simp
            clear hlns hsf
            go_wp2_with (first | (go_at_call 51; refine (HSF _).mono ?_; rintro e w' ⟨rfl, hw⟩; have HW : Hid _ := HCLY.out.below hw; clear hw) | (with_reducible refine at_list ?_; refine wpList_load_row rfl 90 (.tmp 3) rfl g rfl 90 (BV y) (0, 0) _ HCLY.out.ck.hx Tryd.underlying90 rfl (infoS HY.out) ?_))
            exact ⟨⟨k + 1, y, HK.out.1, congrArg (Value.int .i64) (wrapS HK.out.1 HK.out.2), HY.out, HL2.out, HW.out.ck⟩, measS HK.out.1 HK.out.2⟩
    · have b1 : ¬ (k : Int) < (n : Int) := by omega
      have hl2 : lns (beg p) p.ln = (x, 0) := by
        rw [hln, List.drop_eq_nil_of_le (by rw [HN.out]; omega)]
        rfl
      have HX : Hid (x.length = 12) := hx
      have HCK : Hid (CK q g w nm v0 v1 (.slice al n cl) x wr) := hck
      have HS0 : ∀ W, Calls Tryd.prog 51 #[.agg (BV x), .int .i64 0] W fun e w' => e = .returned (.bool (sf x 0)) ∧ Below W.heap.size W w' := fun W => safe_any x hx 0 (by decide) W
      have HS1 : ∀ W, Calls Tryd.prog 51 #[.agg (BV x), .int .i64 1] W fun e w' => e = .returned (.bool (sf x 1)) ∧ Below W.heap.size W w' := fun W => safe_any x hx 1 (by decide) W
      clear hck hx hln hk
      rcases e0 : sf x 0 with _ | _
      · rw [e0] at HS0
        have HR : Hid (chk p = 12) := by show chk p = 12; simp [chk, HSD.out, hl2, e0]
        clear hl2 e0 HS1
        go_wp2_with (first | (go_at_call 51; refine Calls.mono (HS0 _) ?_; rintro e w1 ⟨rfl, hw⟩; have HW1 : Hid (CK q g w nm v0 v1 (.slice al n cl) x w1) := HCK.out.below hw; clear hw; have d0 := HW1.out.pb.c0; have d1 := HW1.out.pb.c1; have d2 := HW1.out.pb.c2; have d3 := HW1.out.pb.c3) | (with_reducible refine at_list ?_; first | (refine load_row_w rfl 90 (.tmp 3) rfl g rfl 90 (BV x) (0, 0) _ HCK.out.hx Tryd.underlying90 rfl (infoS HX.out) ?_)))
        go_ret
        exact ⟨by rw [HR.out]; rfl, HW1.out.pb.old⟩
      rw [e0] at HS0
      rcases e2 : oneWay p with _ | _
      · rw [e2] at HOW
        rcases e1 : sf x 1 with _ | _
        · rw [e1] at HS1
          have HR : Hid (chk p = 12) := by show chk p = 12; simp [chk, HSD.out, hl2, e0, e1, e2]
          clear hl2 e0 e1 e2
          go_wp2_with (first | (go_at_call 51; have HQQ := HW2.out; refine Calls.mono (HS1 _) ?_; rintro e w3 ⟨rfl, hw⟩; have HW3 : Hid (CK q g w nm v0 v1 (.slice al n cl) x w3) := HW2.out.below hw; clear hw) | (go_at_call 51; refine Calls.mono (HS0 _) ?_; rintro e w1 ⟨rfl, hw⟩; have HW1 : Hid (CK q g w nm v0 v1 (.slice al n cl) x w1) := HCK.out.below hw; clear hw; have d0 := HW1.out.pb.c0; have d1 := HW1.out.pb.c1; have d2 := HW1.out.pb.c2; have d3 := HW1.out.pb.c3) | (go_at_call 52; refine (HOW.out _ HW1.out.pb.old).mono ?_; rintro e w2 ⟨rfl, hw⟩; have HW2 : Hid (CK q g w nm v0 v1 (.slice al n cl) x w2) := HW1.out.below hw; clear hw) | (with_reducible refine at_list ?_; first | (refine load_row_w rfl 90 (.tmp 3) rfl g rfl 90 (BV x) (0, 0) _ HCK.out.hx Tryd.underlying90 rfl (infoS HX.out) ?_) | (refine load_row_w (by kernel_rfl) 90 (.tmp 3) rfl g rfl 90 (BV x) (0, 0) _ HW2.out.hx Tryd.underlying90 rfl (infoS HX.out) ?_)))
          go_ret
          exact ⟨by rw [HR.out]; rfl, HW3.out.pb.old⟩
        · rw [e1] at HS1
          have HR : Hid (chk p = 0) := by show chk p = 0; simp [chk, HSD.out, hl2, e0, e1, e2]
          clear hl2 e0 e1 e2
          go_wp2_with (first | (go_at_call 51; have HQQ := HW2.out; refine Calls.mono (HS1 _) ?_; rintro e w3 ⟨rfl, hw⟩; have HW3 : Hid (CK q g w nm v0 v1 (.slice al n cl) x w3) := HW2.out.below hw; clear hw) | (go_at_call 51; refine Calls.mono (HS0 _) ?_; rintro e w1 ⟨rfl, hw⟩; have HW1 : Hid (CK q g w nm v0 v1 (.slice al n cl) x w1) := HCK.out.below hw; clear hw; have d0 := HW1.out.pb.c0; have d1 := HW1.out.pb.c1; have d2 := HW1.out.pb.c2; have d3 := HW1.out.pb.c3) | (go_at_call 52; refine (HOW.out _ HW1.out.pb.old).mono ?_; rintro e w2 ⟨rfl, hw⟩; have HW2 : Hid (CK q g w nm v0 v1 (.slice al n cl) x w2) := HW1.out.below hw; clear hw) | (with_reducible refine at_list ?_; first | (refine load_row_w rfl 90 (.tmp 3) rfl g rfl 90 (BV x) (0, 0) _ HCK.out.hx Tryd.underlying90 rfl (infoS HX.out) ?_) | (refine load_row_w (by kernel_rfl) 90 (.tmp 3) rfl g rfl 90 (BV x) (0, 0) _ HW2.out.hx Tryd.underlying90 rfl (infoS HX.out) ?_)))
          go_ret
          exact ⟨by rw [HR.out]; rfl, HW3.out.pb.old⟩
      · rw [e2] at HOW
        have HR : Hid (chk p = 0) := by show chk p = 0; simp [chk, HSD.out, hl2, e0, e2]
        clear hl2 e0 e2 HS1
        go_wp2_with (first | (go_at_call 51; refine Calls.mono (HS0 _) ?_; rintro e w1 ⟨rfl, hw⟩; have HW1 : Hid (CK q g w nm v0 v1 (.slice al n cl) x w1) := HCK.out.below hw; clear hw; have d0 := HW1.out.pb.c0; have d1 := HW1.out.pb.c1; have d2 := HW1.out.pb.c2; have d3 := HW1.out.pb.c3) | (go_at_call 52; refine (HOW.out _ HW1.out.pb.old).mono ?_; rintro e w2 ⟨rfl, hw⟩; have HW2 : Hid (CK q g w nm v0 v1 (.slice al n cl) x w2) := HW1.out.below hw; clear hw) | (with_reducible refine at_list ?_; first | (refine load_row_w rfl 90 (.tmp 3) rfl g rfl 90 (BV x) (0, 0) _ HCK.out.hx Tryd.underlying90 rfl (infoS HX.out) ?_)))
        go_ret
        exact ⟨by rw [HR.out]; rfl, HW2.out.pb.old⟩
end Go.Proofs.YtjhleocpipmklaaDoor
namespace Go.Proofs.YtjhleocpipmklaaDoor
set_option linter.unusedSimpArgs false
set_option linter.unusedVariables false
open Go.ChangeShapes Go.WideShapes Go.ChangeAt Go.RowKit Go.Pin Go.Pat Go.Deep
theorem add_spot {x : Addr} {w : World} {v : Value} (h : w.cell? (x.add 0) = some v) : ∃ b o, x = ⟨b, o, none⟩ := by
  obtain ⟨b, o, s⟩ := x
  cases s with
  | none => exact ⟨b, o, rfl⟩
  | some s =>
    exfalso
    simp only [World.cell?, Addr.add, if_true] at h
    split at h <;> simp_all
theorem weightsAll_mem {H : Type} {P : Program} {e : TypeId} : ∀ {ds : List (DataW H)} {d : DataW H} {k : Nat}, d ∈ ds → k ∈ d.weights P e → k ∈ DataW.weightsAll P e ds
  | [], _, _, h, _ => nomatch h
  | d' :: r, d, k, h, hk => by
    rw [DataW.weightsAll]
    rcases List.mem_cons.1 h with rfl | h
    · exact List.mem_append_left _ hk
    · exact List.mem_append_right _ (weightsAll_mem h hk)
theorem bytes_int : Tryd.prog.bytesOf 3 = 8 := by kernel_rfl
theorem bytes_line : Tryd.prog.bytesOf 43 = 32 := by kernel_rfl
/-- numbers that came in -/
theorem open_nums {H : Type} {enc : TypeId × Value → H} {W : World} {fuel : Nat} {cs : List Value} {x : DataW H × List MemPlace}
    (hf : DataW.trod enc Tryd.prog W 0 (fun _ => true) true fuel 22 cs = some x) (hs : ∀ k ∈ x.1.weights Tryd.prog 22, k ≤ reachBytes) : ∃ (v : Value) (C : List Int), cs = [v] ∧ RdN W v C := by
  rcases open_ints Tryd.underlying22 Tryd.underlying3 (by kernel_rfl) hf with ⟨hcs, _⟩ | ⟨y, l, c, zs, hcs, _, hl, hm, hz, hx, hcell, hwz⟩
  · exact ⟨_, [], hcs, none, 0, rfl, ⟨Nat.le_refl _, fun _ => rfl⟩, by simp, .inl rfl⟩
  · have hz' : zs.length = c := by simpa using hz
    have hl2 : (zs.take l).length = l := by rw [List.length_take]; omega
    have hb : l ≤ 140737488355328 := by
      have := hs ((l + (c - l)) * 8) (by
        rw [hx]
        simp only [DataW.weights, Tryd.underlying22]
        refine List.mem_cons.2 (.inl ?_)
        rw [bytes_int]
        simp [lits, hz', hl])
      unfold reachBytes at this
      omega
    refine ⟨_, zs.take l, hcs, some y, c, by rw [hl2], ⟨by rw [hl2]; exact hl, fun h => nomatch h⟩, by rw [hl2]; exact hb, ?_⟩
    by_cases e : l = 0
    · left; subst e; simp
    · right
      obtain ⟨b, o, rfl⟩ := add_spot (hcell 0 (by omega))
      refine ⟨b, o, rfl, fun j v hv => ?_⟩
      have hj : j < l := by have := (List.getElem?_eq_some_iff.1 hv).1; rw [List.length_map, hl2] at this; exact this
      have := hcell j (by omega)
      rw [add_mid] at this
      rw [this, ← hv]
      simp [List.getElem?_take_of_lt hj, show j < zs.length by omega]
theorem open_lines {H : Type} {enc : TypeId × Value → H} {W : World} {fuel : Nat} {cs : List Value} {x : DataW H × List MemPlace}
    (hf : DataW.trod enc Tryd.prog W 0 (fun _ => true) true fuel 24 cs = some x) (hs : ∀ k ∈ x.1.weights Tryd.prog 24, k ≤ reachBytes) : ∃ (v : Value) (L : List Ln), cs = [v] ∧ RdL W v L := by
  rcases open_slice Tryd.underlying24 hf with ⟨hcs, _⟩ | ⟨y, len, cap, m, n, D, Pl, hcs, _, hl, hm, hmm, hxe, hx⟩
  · exact ⟨_, [], hcs, none, 0, rfl, Nat.le_refl _, by simp, fun j hj => nomatch hj⟩
  · have hlm : len ≤ m := by rw [hmm]; split <;> omega
    have ce : Tryd.prog.cellsOf 43 = 2 := by kernel_rfl
    have ci : Tryd.prog.cellsOf 3 = 1 := by kernel_rfl
    have cn : Tryd.prog.cellsOf 22 = 1 := by kernel_rfl
    have he : Tryd.prog.underlying 43 = _ := Tryd.underlying43
    have hb : len ≤ 140737488355328 := by
      have := hs ((len + (m - len)) * 32) (by
        rw [hxe]
        simp only [DataW.weights, Tryd.underlying24]
        refine List.mem_cons.2 (.inl ?_)
        rw [bytes_line]
        simp)
      unfold reachBytes at this
      omega
    have each : ∀ i, i < len → ∃ q : Value × Ln, W.cell? (y.add (i * 2)) = some (.int .i64 q.2.1) ∧ W.cell? (y.add (i * 2 + 1)) = some q.1 ∧ RdN W q.1 q.2.2 := by
      intro i hi
      obtain ⟨cs', h1, h2⟩ := hx i (by omega)
      rw [ce] at h1
      obtain ⟨_, hlen, hcell⟩ := World.cells?_some h1
      obtain ⟨xs, k, hk, hxy, _, hxl, hf⟩ := DataW.trod_struct he h2
      match xs, hxl with
      | [y0, y1], _ =>
        have g0 := hf 0 _ rfl
        have g1 := hf 1 _ rfl
        simp only [List.getElem_toArray, List.getElem_cons_zero, List.getElem_cons_succ, ci, cn, List.getElem?_cons_zero, List.getElem?_cons_succ] at g0 g1
        obtain ⟨z0, hz0, _, _⟩ := DataW.trod_int Tryd.underlying3 g0
        have hw1 : ∀ k ∈ y1.1.weights Tryd.prog 22, k ≤ reachBytes := fun k hk => by
          refine hs k ?_
          rw [hxe]
          simp only [DataW.weights, Tryd.underlying24]
          refine List.mem_cons_of_mem _ (List.mem_append_left _ (weightsAll_mem (List.mem_map.2 ⟨i, List.mem_range.2 hi, rfl⟩) ?_))
          have hD : D i = .agg [y0.1, y1.1] := congrArg Prod.fst hxy
          rw [hD]
          simp only [DataW.weights, Tryd.underlying43]
          simp only [DataW.weightsEach, List.map_cons, List.map_nil]
          exact List.mem_append_right _ (List.mem_append_left _ hk)
        obtain ⟨v, C, hc, hr⟩ := open_nums g1 hw1
        have e0 : cs'[0]? = some (.int .i64 z0) := by
          have := congrArg (fun z => z[0]?) hz0
          simpa using this
        have e1 : cs'[1]? = some v := by
          have := congrArg (fun z => z[0]?) hc
          simpa using this
        refine ⟨(v, z0, C), ?_, ?_, hr⟩
        · have e := hcell 0 (by omega)
          rw [add_add, e0] at e
          exact e
        · have e := hcell 1 (by omega)
          rw [add_add, e1] at e
          exact e
    obtain ⟨q, hq⟩ := choose_lt each
    have hat : ∀ j, j < len → ((List.range len).map (fun i => (q i).2)).getD j (0, []) = (q j).2 := fun j hj => by simp [List.getD, hj]
    refine ⟨_, (List.range len).map (fun i => (q i).2), hcs, some y, cap, by simp, by simpa using hl, by simpa using hb, fun j hj => ?_⟩
    have hj' : j < len := by simpa using hj
    have h0 := (hq 0 (by omega)).1
    rw [Nat.zero_mul] at h0
    obtain ⟨b, o, rfl⟩ := add_spot h0
    have h1 := (hq j hj').1
    have h2 := (hq j hj').2.1
    rw [add_mid] at h1 h2
    refine ⟨b, o, (q j).1, rfl, ?_, by rw [Nat.add_assoc]; exact h2, ?_⟩
    · rw [hat j hj']; exact h1
    · rw [hat j hj']; exact (hq j hj').2.2
set_option maxRecDepth 100000 in
/-- a pattern that came in -/
theorem open_patternN {H : Type} {enc : TypeId × Value → H} {W : World} {v : Value} {d : DataW H} {ps : List MemPlace}
    (h : DataW.Trod enc Tryd.prog W 0 (fun _ => true) true 26 v d ps) (hs : ∀ k ∈ d.weights Tryd.prog 26, k ≤ reachBytes) : ∃ p : Pt, RdP W v p ∧ p.nm.size ≤ 140737488355328 := by
  obtain ⟨fuel, hf⟩ := h
  have c4 : Tryd.prog.cellsOf 26 = 4 := by kernel_rfl
  have cs1 : Tryd.prog.cellsOf 9 = 1 := by kernel_rfl
  have ca : Tryd.prog.cellsOf 23 = 2 := by kernel_rfl
  have cn : Tryd.prog.cellsOf 22 = 1 := by kernel_rfl
  have cl : Tryd.prog.cellsOf 24 = 1 := by kernel_rfl
  have he : Tryd.prog.underlying 26 = _ := Tryd.underlying26
  obtain ⟨y0, y1, y2, n, hx, hlen, g0, g1, g2⟩ := trod_struct3 he hf
  rw [c4] at hlen
  obtain ⟨e0, e1, e2, e3, rfl⟩ : ∃ e0 e1 e2 e3, v = .agg #[e0, e1, e2, e3] := by
    cases v with
    | agg cs =>
      obtain ⟨l⟩ := cs
      match l, hlen with
      | [e0, e1, e2, e3], _ => exact ⟨e0, e1, e2, e3, rfl⟩
    | _ => simp [Value.cells] at hlen
  simp only [cs1, ca, cl, Value.cells, List.drop_zero, List.take_succ_cons, List.take_zero, List.drop_succ_cons] at g0 g1 g2
  obtain ⟨nm, h0, hnx, _⟩ := DataW.trod_string Tryd.underlying9 g0
  obtain ⟨xs, m, _, hxa, _, hxl, hel⟩ := DataW.trod_array Tryd.underlying23 g1
  have hd : d = .agg [y0.1, y1.1, y2.1] := congrArg Prod.fst hx
  match xs, hxl with
  | [z0, z1], _ =>
    have k0 := hel 0 (by decide)
    have k1 := hel 1 (by decide)
    simp only [cn, Nat.zero_mul, Nat.one_mul, List.drop_zero, List.take_succ_cons, List.take_zero, List.drop_succ_cons, List.getElem?_cons_zero, List.getElem?_cons_succ] at k0 k1
    have hy1 : y1.1 = .agg [z0.1, z1.1] := congrArg Prod.fst hxa
    have hW : ∀ k, k ∈ y1.1.weights Tryd.prog 23 ∨ k ∈ y2.1.weights Tryd.prog 24 → k ≤ reachBytes := fun k hk => by
      refine hs k ?_
      rw [hd]
      simp only [DataW.weights, Tryd.underlying26, List.map_cons, List.map_nil, DataW.weightsEach]
      rcases hk with hk | hk
      · exact List.mem_append_right _ (List.mem_append_left _ hk)
      · exact List.mem_append_right _ (List.mem_append_right _ (List.mem_append_left _ hk))
    have hW0 : ∀ k ∈ z0.1.weights Tryd.prog 22, k ≤ reachBytes := fun k hk => hW k (.inl (by
      rw [hy1]; simp only [DataW.weights, Tryd.underlying23, DataW.weightsAll]
      exact List.mem_append_left _ hk))
    have hW1 : ∀ k ∈ z1.1.weights Tryd.prog 22, k ≤ reachBytes := fun k hk => hW k (.inl (by
      rw [hy1]; simp only [DataW.weights, Tryd.underlying23, DataW.weightsAll]
      exact List.mem_append_right _ (List.mem_append_left _ hk)))
    obtain ⟨w0, C0, q0, r0⟩ := open_nums k0 hW0
    obtain ⟨w1, C1, q1, r1⟩ := open_nums k1 hW1
    obtain ⟨w2, L, q2, r2⟩ := open_lines g2 (fun k hk => hW k (.inr hk))
    injection h0 with h0 _
    injection q0 with q0 _
    injection q1 with q1 _
    injection q2 with q2 _
    subst h0 q0 q1 q2
    refine ⟨⟨nm, C0, C1, L⟩, ⟨e1, e2, e3, rfl, r0, r1, r2⟩, ?_⟩
    have hy0 := congrArg Prod.fst hnx
    have := hs nm.data.toList.length (by
      rw [hd]
      simp only [DataW.weights, Tryd.underlying26, List.map_cons, List.map_nil, DataW.weightsEach]
      refine List.mem_append_left _ ?_
      rw [hy0]; simp [DataW.weights])
    unfold reachBytes at this
    have e : nm.data.toList.length = nm.size := by simp
    show nm.size ≤ _
    omega
theorem open_pattern {H : Type} {enc : TypeId × Value → H} {W : World} {v : Value} {d : DataW H} {ps : List MemPlace}
    (h : DataW.Trod enc Tryd.prog W 0 (fun _ => true) true 26 v d ps) (hs : ∀ k ∈ d.weights Tryd.prog 26, k ≤ reachBytes) : ∃ p : Pt, RdP W v p := by
  obtain ⟨p, h1, _⟩ := open_patternN h hs
  exact ⟨p, h1⟩
end Go.Proofs.YtjhleocpipmklaaDoor
/- a package-level table of literals (arrays, structs, numbers, bools, texts): its cells, one behind the other -/
namespace Go.Pin
mutual
def flt (P : Program) : Nat → TypeId → DataW Unit → Option (List Value)
  | 0, _, _ => none
  | f + 1, t, d => match P.underlying t, d with
    | some .bool, .lit (.bool b) => some [.bool b]
    | some (.int k), .lit (.int k' n) => if k' = k then some [.int k n] else none
    | some .string, .lit (.string l) => some [.string ⟨l.toArray⟩]
    | some (.struct fs), .agg ds => match fltF P f 0 fs.toList ds with
      | some c => if c.length = P.cellsOf t then some c else none
      | none => none
    | some (.array n e), .agg ds => if ds.length = n then match fltA P f e ds with
      | some c => if c.length = P.cellsOf t then some c else none
      | none => none
      else none
    | _, _ => none
def fltF (P : Program) : Nat → Nat → List Field → List (DataW Unit) → Option (List Value)
  | 0, _, _, _ => none
  | _ + 1, _, [], [] => some []
  | f + 1, o, x :: fs, d :: ds => if x.offset = o then match flt P f x.type d with
      | none => none
      | some c => if c.length = P.cellsOf x.type then (fltF P f (o + c.length) fs ds).map (c ++ ·) else none
    else none
  | _ + 1, _, _, _ => none
def fltA (P : Program) : Nat → TypeId → List (DataW Unit) → Option (List Value)
  | 0, _, _ => none
  | _ + 1, _, [] => some []
  | f + 1, e, d :: ds => match flt P f e d with
      | none => none
      | some c => if c.length = P.cellsOf e then (fltA P f e ds).map (c ++ ·) else none
end
theorem piece {cs c r : List Value} {o k : Nat} (_ : c.length = k) (h1 : (cs.drop o).take k = c) (h2 : cs.drop (o + k) = r) : cs.drop o = c ++ r := by
  rw [← List.take_append_drop k (cs.drop o), h1, List.drop_drop, h2]
variable {P : Program} {w : World} {base : Nat} {sp : Nat → Bool} {held : Bool} {enc : TypeId × Value → Unit}
/-- what is read as a table of literals is their cells -/
theorem flt_all (f : Nat) : (∀ (m : Nat) (t : TypeId) (d : DataW Unit) (cs c : List Value) (p : List MemPlace), flt P f t d = some c → DataW.trod enc P w base sp held m t cs = some (d, p) → cs = c) ∧
    (∀ (m o : Nat) (fs : List Field) (ds : List (DataW Unit)) (cs c : List Value) (xs : List (DataW Unit × List MemPlace)), fltF P f o fs ds = some c → (∀ (i : Nat) (x : Field), fs[i]? = some x → DataW.trod enc P w base sp held m x.type ((cs.drop x.offset).take (P.cellsOf x.type)) = xs[i]?) → xs.map (·.1) = ds → cs.length = o + c.length → cs.drop o = c) ∧
    (∀ (m o : Nat) (e : TypeId) (ds : List (DataW Unit)) (cs c : List Value) (xs : List (DataW Unit × List MemPlace)), fltA P f e ds = some c → (∀ (i : Nat), i < ds.length → DataW.trod enc P w base sp held m e ((cs.drop ((o + i) * P.cellsOf e)).take (P.cellsOf e)) = xs[i]?) → xs.map (·.1) = ds → cs.length = o * P.cellsOf e + c.length → cs.drop (o * P.cellsOf e) = c) := by
  induction f with
  | zero =>
    refine ⟨fun m t d cs c p h => ?_, fun m o fs ds cs c xs h => ?_, fun m o e ds cs c xs h => ?_⟩
    · simp [flt] at h
    · simp [fltF] at h
    · simp [fltA] at h
  | succ f ih =>
    obtain ⟨ih1, ih2, ih3⟩ := ih
    refine ⟨fun m t d cs c p h h' => ?_, fun m o fs ds cs c xs h h' hx hl => ?_, fun m o e ds cs c xs h h' hx hl => ?_⟩
    · unfold flt at h
      split at h
      · rename_i hu
        obtain ⟨b, rfl, e⟩ := DataW.trod_bool hu h'
        injection e with e
        injection e with e
        injection e with e
        injection h with h
        rw [← h, e]
      · rename_i hu
        obtain ⟨z, rfl, e, _⟩ := DataW.trod_int hu h'
        injection e with e
        injection e with e
        injection e with e1 e2
        split at h
        · injection h with h
          rw [← h, e2]
        · rename_i hne
          exact absurd e1 hne
      · rename_i hu
        obtain ⟨s, rfl, e, _⟩ := DataW.trod_string hu h'
        injection e with e
        injection e with e
        injection e with e
        injection h with h
        rw [← h, e]
      · rename_i fs ds hu
        obtain ⟨xs, n, rfl, e, hl, _, hx⟩ := DataW.trod_struct hu h'
        injection e with e _
        injection e with e
        split at h
        · rename_i c' hc
          split at h
          · rename_i hlc
            injection h with h
            subst h
            have := ih2 n 0 fs.toList ds cs c' xs hc (fun i x hi => hx i x (by simpa using hi)) e.symm (by omega)
            simpa using this
          · simp at h
        · simp at h
      · rename_i n e0 ds hu
        obtain ⟨xs, m', rfl, e, hl, hxl, hx⟩ := DataW.trod_array hu h'
        injection e with e _
        injection e with e
        split at h
        · rename_i hdn
          split at h
          · rename_i c' hc
            split at h
            · rename_i hlc
              injection h with h
              subst h
              have := ih3 m' 0 e0 ds cs c' xs hc (fun i hi => by rw [Nat.zero_add]; exact hx i (by omega)) e.symm (by omega)
              simpa using this
            · simp at h
          · simp at h
        · simp at h
      · simp at h
    · cases fs with
      | nil =>
        cases ds with
        | nil =>
          simp only [fltF, Option.some.injEq] at h
          subst h
          exact List.drop_eq_nil_of_le (by simp at hl; omega)
        | cons d ds => simp [fltF] at h
      | cons x fs =>
        cases ds with
        | nil => simp [fltF] at h
        | cons d ds =>
          simp only [fltF] at h
          split at h
          · rename_i ho
            cases hc : flt P f x.type d with
            | none => rw [hc] at h; simp at h
            | some c1 =>
              rw [hc] at h
              simp only at h
              split at h
              · rename_i hk
                simp only [Option.map_eq_some_iff] at h
                obtain ⟨c2, h2, rfl⟩ := h
                cases xs with
                | nil => simp at hx
                | cons y ys =>
                  obtain ⟨y1, y2⟩ := y
                  simp only [List.map_cons, List.cons.injEq] at hx
                  obtain ⟨hy1, hys⟩ := hx
                  have h0 := h' 0 x rfl
                  rw [List.getElem?_cons_zero, hy1] at h0
                  have e1 := ih1 m x.type d _ c1 y2 hc h0
                  rw [ho] at e1
                  have e2 := ih2 m (o + c1.length) fs ds cs c2 ys h2 (fun i z hi => by have := h' (i + 1) z (by simpa using hi); simpa using this) hys (by rw [List.length_append] at hl; omega)
                  exact piece hk e1 (by rw [← hk]; exact e2)
              · simp at h
          · simp at h
    · cases ds with
      | nil =>
        simp only [fltA, Option.some.injEq] at h
        subst h
        exact List.drop_eq_nil_of_le (by simp at hl; omega)
      | cons d ds =>
        simp only [fltA] at h
        cases hc : flt P f e d with
        | none => rw [hc] at h; simp at h
        | some c1 =>
          rw [hc] at h
          simp only at h
          split at h
          · rename_i hk
            simp only [Option.map_eq_some_iff] at h
            obtain ⟨c2, h2, rfl⟩ := h
            cases xs with
            | nil => simp at hx
            | cons y ys =>
              obtain ⟨y1, y2⟩ := y
              simp only [List.map_cons, List.cons.injEq] at hx
              obtain ⟨hy1, hys⟩ := hx
              have h0 := h' 0 (by simp)
              rw [List.getElem?_cons_zero, hy1, Nat.add_zero] at h0
              have e1 := ih1 m e d _ c1 y2 hc h0
              have e2 := ih3 m (o + 1) e ds cs c2 ys h2 (fun i hi => by have := h' (i + 1) (by simp; omega); rw [show o + (i + 1) = o + 1 + i by omega] at this; simpa using this) hys (by rw [List.length_append] at hl; rw [Nat.add_mul, Nat.one_mul]; omega)
              rw [Nat.add_mul, Nat.one_mul] at e2
              exact piece hk e1 e2
          · simp at h
theorem cells_of_flt {f m : Nat} {t : TypeId} {d : DataW Unit} {cs c : List Value} {p : List MemPlace} (h : flt P f t d = some c) (h' : DataW.trod enc P w base sp held m t cs = some (d, p)) : cs = c := (flt_all f).1 m t d cs c p h h'
end Go.Pin
