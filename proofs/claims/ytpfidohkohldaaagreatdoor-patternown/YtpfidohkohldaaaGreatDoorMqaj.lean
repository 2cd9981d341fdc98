import Derived.Test.YtpfidohkohldaaaGreatDoorMqai
namespace Go.Proofs.YtpfidohkohldaaaGreatDoor
set_option linter.unusedSimpArgs false
set_option linter.unusedVariables false
set_option maxRecDepth 100000
open Go.ChangeShapes Go.WideShapes Go.ChangeAt Go.RowKit Go.Pin Go.Pat Go.Deep
set_option maxRecDepth 100000 in
theorem inOrder_any (v : Value) (C : List Int) (w : World) (h : RdN w v C) :
    Calls Tryz.prog 52 #[v] w fun e w' => e = .returned (.bool (ahd C)) ∧ w' = w := by
  obtain ⟨a, cap, rfl, _, hm, _⟩ := id h
  have hat := h.at.2.2
  match C, h, hm, hat with
  | [], _, _, _ =>
    clear hm hat h
    go_enter Tryz.func52, Tryz.ntmps52
    go_wp2
    go_ret
    exact ⟨rfl, rfl⟩
  | [x], _, _, hat =>
    obtain ⟨b, o, rfl, h0⟩ := hat 0 (by simp)
    have c0 := h0 w (Below.refl _ _)
    simp only [List.getD_cons_zero, Nat.add_zero] at c0
    clear hm hat h h0
    go_enter Tryz.func52, Tryz.ntmps52
    go_wp2
    all_goals
      go_ret
      exact ⟨by simp_all [ahd], rfl⟩
  | [x, y], _, _, hat =>
    obtain ⟨b, o, rfl, h0⟩ := hat 0 (by simp)
    obtain ⟨b', o', e, h1⟩ := hat 1 (by simp)
    injection e with e
    injection e with e1 e2
    subst e1 e2
    have c0 := h0 w (Below.refl _ _)
    have c1 := h1 w (Below.refl _ _)
    simp only [List.getD_cons_zero, List.getD_cons_succ, Nat.add_zero] at c0 c1
    clear hm hat h h0 h1
    go_enter Tryz.func52, Tryz.ntmps52
    go_wp2
    all_goals
      go_ret
      exact ⟨by simp_all [ahd], rfl⟩
  | x :: y :: z :: r, _, _, _ =>
    have b0 : ¬ ((r.length + 1 + 1 + 1 : Nat) : Int) = 0 := by omega
    have b1 : ¬ ((r.length + 1 + 1 + 1 : Nat) : Int) = 1 := by omega
    have b2 : ¬ ((r.length + 1 + 1 + 1 : Nat) : Int) = 2 := by omega
    simp only [List.length_cons]
    generalize r.length + 1 + 1 + 1 = n at *
    clear hm hat h
    go_enter Tryz.func52, Tryz.ntmps52
    go_wp2
    go_ret
    exact ⟨by simp_all [ahd], rfl⟩
set_option maxRecDepth 100000 in
theorem powOne_any (v : Value) (p : Pt) (w : World) (h : RdP w v p) :
    Calls Tryz.prog 39 #[v] w fun e w' => e = .returned (.bool (oneWay p)) ∧ Below w.heap.size w w' := by
  obtain ⟨v0, v1, vl, rfl, _, _, hl⟩ := h
  obtain ⟨al, cl, rfl, _, hm, _⟩ := id hl
  obtain ⟨nm, b0, b1, L⟩ := p
  have hat := fun j (hj : j < L.length) => hl.at hj
  simp only at hl hm hat ⊢
  match L, hm, hat with
  | [], _, _ =>
    clear hl hat hm
    go_enter Tryz.func39, Tryz.ntmps39
    go_wp2
    go_ret
    exact ⟨rfl, (Below.refl _ _).alloc (Nat.le_refl _) _⟩
  | [(f, ts)], _, hat =>
    obtain ⟨b, o, a2, n2, c2, rfl, hc, _, _⟩ := hat 0 (by simp)
    have c0 := (hc (w.alloc (.cells #[.string nm, v0, v1, .slice (some ⟨b, o, none⟩) 1 cl] 26)) ((Below.refl _ _).alloc (Nat.le_refl _) _)).1
    simp only [List.getD_cons_zero, Nat.zero_mul, Nat.add_zero] at c0
    clear hl hat hm hc
    go_enter Tryz.func39, Tryz.ntmps39
    go_wp2
    all_goals
      go_ret
      exact ⟨by simp_all [oneWay], (Below.refl _ _).alloc (Nat.le_refl _) _⟩
  | x :: y :: r, _, _ =>
    have b1 : ¬ ((r.length + 1 + 1 : Nat) : Int) = 1 := by omega
    simp only [List.length_cons]
    generalize r.length + 1 + 1 = n at *
    clear hl hat hm
    go_enter Tryz.func39, Tryz.ntmps39
    go_wp2
    go_ret
    exact ⟨by simp_all [oneWay], (Below.refl _ _).alloc (Nat.le_refl _) _⟩
/-- a message's shape, by itself -/
def slB (f : Int) (ts : List Int) : Bool := decide (f = 0 ∨ f = 1) && (ts.all isTok && !ts.isEmpty)
set_option maxHeartbeats 4000000 in
theorem shapedLine_any (f : Int) (u : Value) (ts : List Int) (w : World) (hu : RdN w u ts) :
    Calls Tryz.prog 62 #[.agg #[.int .i64 f, u]] w fun e w' => e = .returned (.bool (slB f ts)) ∧ Below w.heap.size w w' := by
  obtain ⟨a, cap, rfl, _, hm, _⟩ := id hu
  have hat := hu.at.2.2
  obtain ⟨n, hn⟩ : ∃ n, w.heap.size = n := ⟨_, rfl⟩
  obtain ⟨L, hL⟩ : ∃ L, ts.length = L := ⟨_, rfl⟩
  rw [hL] at hm hat
  rw [hn] at hat
  rw [hL]
  have HAT : Hid (∀ j, j < L → _) := hat
  have HM : Hid (L ≤ 140737488355328 ∧ ts.length = L) := ⟨hm, hL⟩
  have HB : Hid (Below n w (w.alloc (.cells #[.int .i64 f, .slice a L cap] 43))) := by
    show Below n w _
    rw [← hn]
    exact (Below.refl _ _).alloc (Nat.le_refl _) _
  clear hat hm hL hu
  by_cases h01 : f = 0 ∨ f = 1
  · have HF : Hid (slB f ts = (ts.all isTok && !ts.isEmpty)) := by show slB f ts = _; simp [slB, h01]
    rcases h01 with rfl | rfl
    all_goals
      go_enter Tryz.func62, Tryz.ntmps62
      go_wp2
      go_loopw [16] (fun v16 wr => ∃ i : Nat, i ≤ L ∧ v16 = .int .i64 i ∧ (ts.take i).all isTok = true ∧ wr = w.alloc (.cells #[.int .i64 _, .slice a L cap] 43)) (fun v _ => L - (intOf v).toNat)
      case atStart => exact ⟨0, Nat.zero_le _, rfl, rfl, rfl⟩
      case round =>
        obtain ⟨i, hi, rfl, hall, rfl⟩ := hrel
        by_cases hlt : i < L
        · have b1 : (i : Int) < (L : Int) := by omega
          have bL : (L : Int) ≤ 140737488355328 := by have := HM.out.1; omega
          obtain ⟨b, o, rfl, hc⟩ := HAT.out i hlt
          have cT := hc _ HB.out
          obtain ⟨t, htt⟩ : ∃ t, ts.getD i 0 = t := ⟨_, rfl⟩
          rw [htt] at cT
          have hsp : ts.take (i + 1) = ts.take i ++ [t] := by
            have hi' : i < ts.length := by rw [HM.out.2]; exact hlt
            rw [List.take_succ_eq_append_getElem hi', ← htt, getD_at hi']
          have hmem : t ∈ ts := by
            have hi' : i < ts.length := by rw [HM.out.2]; exact hlt
            rw [← htt, getD_at hi']
            exact List.getElem_mem _
          by_cases ht1 : t < 1
          · have HR : Hid (ts.all isTok = false) := by
              show ts.all isTok = false
              rw [List.all_eq_false]
              exact ⟨t, hmem, by simp [isTok]; omega⟩
            clear hall hsp hmem hc hi htt
            go_wp2
            go_ret
            exact ⟨by rw [HF.out, HR.out]; rfl, by first | exact HB.out | (rw [hn]; exact HB.out)⟩
          · by_cases ht7 : 7 < t
            · have HR : Hid (ts.all isTok = false) := by
                show ts.all isTok = false
                rw [List.all_eq_false]
                exact ⟨t, hmem, by simp [isTok]; omega⟩
              clear hall hsp hmem hc hi htt
              go_wp2
              go_ret
              exact ⟨by rw [HF.out, HR.out]; rfl, by first | exact HB.out | (rw [hn]; exact HB.out)⟩
            · have HR : Hid ((ts.take (i + 1)).all isTok = true) := by
                show (ts.take (i + 1)).all isTok = true
                rw [hsp, List.all_append, hall]
                simp [isTok]
                omega
              clear hall hsp hmem hc hi htt
              go_wp2
              exact ⟨⟨i + 1, hlt, congrArg (Value.int .i64) (by omega), HR.out, trivial⟩, by show L - ((i : Int) + 1).toNat < L - ((i : Int)).toNat; omega⟩
        · have b1 : ¬ (i : Int) < (L : Int) := by omega
          have HR : Hid (ts.all isTok = true) := by
            show ts.all isTok = true
            rw [List.take_of_length_le (by rw [HM.out.2]; omega)] at hall
            exact hall
          clear hall hi
          by_cases h0 : L = 0
          · have g0 : ¬ (0 : Int) < (L : Int) := by omega
            have HE : Hid (ts.isEmpty = true) := by show ts.isEmpty = true; rw [List.isEmpty_iff]; exact List.length_eq_zero_iff.1 (by rw [HM.out.2, h0])
            clear h0
            go_wp2
            go_ret
            exact ⟨by rw [HF.out, HR.out, HE.out]; simp; omega, by first | exact HB.out | (rw [hn]; exact HB.out)⟩
          · have g0 : (0 : Int) < (L : Int) := by omega
            have HE : Hid (ts.isEmpty = false) := by
              show ts.isEmpty = false
              rw [List.isEmpty_eq_false_iff]
              intro e
              rw [e] at HM
              have := HM.out.2
              simp at this
              omega
            clear h0
            go_wp2
            go_ret
            exact ⟨by rw [HF.out, HR.out, HE.out]; simp; omega, by first | exact HB.out | (rw [hn]; exact HB.out)⟩
  · have g0 : ¬ f = 0 := by omega
    have g1 : ¬ f = 1 := by omega
    have HF : Hid (slB f ts = false) := by show slB f ts = _; simp [slB, h01]
    have g0n : (f != 0) = true := by simpa using g0
    have g1n : (f != 1) = true := by simpa using g1
    clear h01
    go_enter Tryz.func62, Tryz.ntmps62
    go_wp2
    go_ret
    exact ⟨by rw [HF.out]; rfl, by first | exact HB.out | (rw [hn]; exact HB.out)⟩
end Go.Proofs.YtpfidohkohldaaaGreatDoor
namespace Go.Proofs.YtpfidohkohldaaaGreatDoor
set_option linter.unusedSimpArgs false
set_option linter.unusedVariables false
set_option maxRecDepth 100000
open Go.ChangeShapes Go.WideShapes Go.ChangeAt Go.RowKit Go.Pin Go.Pat Go.Deep
theorem LB.below {q m : Nat} {w wr w' : World} {nm : ByteArray} {v0 v1 vl : Value} {f : Int} {vt : Value} (h : LB q m w nm v0 v1 vl f vt wr) (hb : Below wr.heap.size wr w') : LB q m w nm v0 v1 vl f vt w' :=
  ⟨h.pb.below hb, h.ne, Nat.lt_of_lt_of_le h.lt hb.size, (hb.block _ h.lt).trans h.row⟩
theorem shp_all_ne : ∀ (L : List Ln) (o : Option Int) (n : Nat), shp o n L = true → L ≠ [] → n < n + (L.map (fun l => l.2.length)).sum
  | [], _, _, _, h => absurd rfl h
  | (f, ts) :: r, o, n, h, _ => by
    rw [shp_split] at h
    simp only [Bool.and_eq_true, decide_eq_true_eq] at h
    have h1 : ts ≠ [] := by simpa using h.1.1.1.2
    have := List.length_pos_iff.2 h1
    simp
    omega
set_option maxHeartbeats 4000000 in
theorem pshaped_any (v : Value) (p : Pt) (w : World) (h : RdP w v p) :
    Calls Tryz.prog 35 #[v] w fun e w' => e = .returned (.bool (shaped p)) ∧ Below w.heap.size w w' := by
  obtain ⟨v0, v1, vl, rfl, h0, h1, hl⟩ := h
  obtain ⟨al, cl, rfl, _, hm, _⟩ := id hl
  obtain ⟨nm, b0, b1, L⟩ := p
  have hst := pb_start w nm v0 v1 (.slice al L.length cl)
  have hb0 := hst.old
  have H0 := fun (W : World) (hW : Below w.heap.size w W) => inOrder_any v0 b0 W (h0.below hW)
  have H1 := fun (W : World) (hW : Below w.heap.size w W) => inOrder_any v1 b1 W (h1.below hW)
  obtain ⟨q, hq⟩ : ∃ q, w.heap.size = q := ⟨_, rfl⟩
  obtain ⟨W, hW⟩ : ∃ W, w.alloc (.cells #[.string nm, v0, v1, .slice al L.length cl] 26) = W := ⟨_, rfl⟩
  have hat := fun j (hj : j < L.length) => hl.at hj
  obtain ⟨n, hn⟩ : ∃ n, L.length = n := ⟨_, rfl⟩
  simp only [hn, hq] at hst hb0 hat hm hW H0 H1 ⊢
  rw [hW] at hst hb0
  have c1 := hst.c1
  have c2 := hst.c2
  have c3 := hst.c3
  have HP : Hid (PB q w nm v0 v1 (.slice al n cl) W) := hst
  have HAT : Hid (∀ j, j < n → _) := hat
  have HN : Hid (L.length = n) := hn
  have HM : Hid (n ≤ 140737488355328) := hm
  have A0 := H0 W hb0
  have A1 := H1 W hb0
  rcases e0 : ahd b0 with _ | _
  · rw [e0] at A0
    have HR : Hid (shaped ⟨nm, b0, b1, L⟩ = false) := by
      show shaped _ = false
      simp [shaped, e0]
    clear hst hat hm h0 h1 hl H0 H1 A1 hb0
    go_enter Tryz.func35, Tryz.ntmps35
    go_wp2_with (go_at_call 52; refine A0.mono ?_; rintro e w' ⟨rfl, rfl⟩)
    go_ret
    exact ⟨by rw [HR.out]; rfl, HP.out.old⟩
  rcases e1 : ahd b1 with _ | _
  · rw [e0] at A0
    rw [e1] at A1
    have HR : Hid (shaped ⟨nm, b0, b1, L⟩ = false) := by
      show shaped _ = false
      simp [shaped, e1]
    clear hst hat hm h0 h1 hl H0 H1 hb0
    go_enter Tryz.func35, Tryz.ntmps35
    go_wp2_with (go_at_call 52; first | (with_reducible refine A0.mono ?_; rintro e w' ⟨rfl, rfl⟩) | (with_reducible refine A1.mono ?_; rintro e w' ⟨rfl, rfl⟩))
    go_ret
    exact ⟨by rw [HR.out]; rfl, HP.out.old⟩
  rw [e0] at A0
  rw [e1] at A1
  have HR : Hid (shaped ⟨nm, b0, b1, L⟩ = (!L.isEmpty && shp none 0 L)) := by
    show shaped _ = _
    simp [shaped, e0, e1]
  clear hst hat hm h0 h1 hl H0 H1 hb0 e0 e1
  go_enter Tryz.func35, Tryz.ntmps35
  go_wp2_with (go_at_call 52; first | (with_reducible refine A0.mono ?_; rintro e w' ⟨rfl, rfl⟩) | (with_reducible refine A1.mono ?_; rintro e w' ⟨rfl, rfl⟩))
  clear A0 A1 c1 c2 c3
  go_loopw [3, 21] (fun vn vi w' => ∃ k : Nat, k ≤ n ∧ vi = .int .i64 k ∧ vn = .int .i64 ((tl L k : Nat) : Int) ∧ tl L k ≤ 24 ∧ shp none 0 L = shp (pv L k) (tl L k) (L.drop k) ∧ (0 < k → 0 < tl L k) ∧ PB q w nm v0 v1 (.slice al n cl) w') (fun _ v _ => n - (intOf v).toNat)
  case atStart => exact ⟨0, Nat.zero_le _, rfl, rfl, by simp [tl], rfl, fun h => absurd h (by decide), HP.out⟩
  case round =>
    obtain ⟨k, hk, rfl, rfl, ht, hs, hpos, hp⟩ := hrel
    have c3 := hp.c3
    by_cases hlt : k < n
    · have b1 : (k : Int) < (n : Int) := by omega
      have bn : (n : Int) ≤ 140737488355328 := by have := HM.out; omega
      obtain ⟨b, o, a2, n2, c2, rfl, hc, hrn, hn2⟩ := HAT.out k hlt
      have x0 := (hc wr hp.old).1
      have x1 := (hc wr hp.old).2
      obtain ⟨f, hf⟩ : ∃ f, (L.getD k (0, [])).1 = f := ⟨_, rfl⟩
      obtain ⟨TS, hTS⟩ : ∃ T, (L.getD k (0, [])).2 = T := ⟨_, rfl⟩
      rw [hf] at x0
      rw [hTS] at hrn hn2
      have hsa := shp_at L k (by rw [HN.out]; exact hlt)
      rw [hf, hTS] at hsa
      have htl := tl_succ L k (by rw [HN.out]; exact hlt)
      rw [hTS, ← hn2] at htl
      have hn2b := hrn.at.2.1
      have HPW : Hid (PB q w nm v0 v1 (.slice (some ⟨b, o, none⟩) n cl) wr) := hp
      have HSA : Hid (shp none 0 L = _) := hs.trans hsa
      have HTL : Hid (tl L (k + 1) = tl L k + n2) := htl
      have HTS : Hid (RdN w (.slice a2 n2 c2) TS ∧ n2 = TS.length) := ⟨hrn, hn2⟩
      obtain ⟨tk0, htk0⟩ : ∃ t, tl L k = t := ⟨_, rfl⟩
      rw [htk0] at ht
      have HTK : Hid (tl L k = tk0) := htk0
      rw [htk0] at HTL
      simp only [htk0]
      have bt : (tk0 : Int) ≤ 24 := by omega
      have bn2 : (n2 : Int) ≤ 140737488355328 := by omega
      clear hp hs hrn hn2 hsa htl hn2b hf hTS hpos ht htk0 hk
      go_upto_region 7 with fail
      have hlb := lb_start HPW.out f (.slice a2 n2 c2)
      obtain ⟨m, hm2⟩ : ∃ m, wr.heap.size = m := ⟨_, rfl⟩
      obtain ⟨V, hV⟩ : ∃ V, wr.alloc (.cells #[.int .i64 f, .slice a2 n2 c2] 43) = V := ⟨_, rfl⟩
      rw [hm2, hV] at hlb
      simp only [hm2, hV]
      have HLB : Hid (LB q m w nm v0 v1 (.slice (some ⟨b, o, none⟩) n cl) f (.slice a2 n2 c2) V) := hlb
      have z1 := hlb.c1
      have HQ : Hid (w.heap.size = q) := hq
      have CL0 : ∀ y, Below V.heap.size V y → Calls Tryz.prog 62 #[.agg #[.int .i64 f, .slice a2 n2 c2]] y fun e w' => e = .returned (.bool (slB f TS)) ∧ Below y.heap.size y w' := fun y hy =>
        shapedLine_any f _ TS y (HTS.out.1.below (by rw [hq]; exact (HLB.out.pb.below hy).old))
      clear hlb hm2 hV x0 x1
      go_upto_region 8 with fail
      clear z1 c3
      by_cases h24 : 24 < tk0 + n2
      · have g24 : (24 : Int) < (tk0 : Int) + (n2 : Int) := by omega
        have HBAD : Hid (shp none 0 L = false) := by
          show shp none 0 L = false
          rw [HSA.out, HTL.out]
          have : ¬ tk0 + n2 ≤ 24 := by omega
          simp [this]
        clear CL0
        refine Go.Pin.wp_region_cls (fun y => Below V.heap.size V y) (by kernel_rfl) (by kernel_rfl) ((Below.refl _ _).drew) ?_
        intro Sq fq hNq hRq hSq
        have y0 := fun x => ((HLB.out.below (hRq x)).c0)
        have y1 := fun x => ((HLB.out.below (hRq x)).c1)
        have y3 := fun x => ((HLB.out.below (hRq x)).pb.c3)
        repeat (go_big_quiet_step (fail))
        refine wpQuiet_nil ?_
        intro _ hw'
        obtain ⟨xq, hw''⟩ := hw'
        subst hw''
        have HYq := hRq xq
        generalize fq xq = y at HYq ⊢
        have HYB : Hid (PB q w nm v0 v1 (.slice (some ⟨b, o, none⟩) n cl) y) := HLB.out.pb.below HYq
        clear hRq hSq hNq xq fq Sq y0 y1 y3 HYq
        go_wp2
        go_ret
        exact ⟨by rw [HR.out, HBAD.out]; simp, HYB.out.old⟩
      · have g24 : ¬ (24 : Int) < (tk0 : Int) + (n2 : Int) := by omega
        have HT24 : Hid (tk0 + n2 ≤ 24) := by show tk0 + n2 ≤ 24; omega
        clear h24
        by_cases hk0 : k = 0
        · have gk : ¬ (0 : Int) < (k : Int) := by omega
          have gk' : ¬ 0 < k := by omega
          have HGD : Hid (pv L k ≠ some f) := by show pv L k ≠ some f; rw [hk0]; simp [pv]
          clear hk0
          cases hsl : slB f TS with
          | false =>
            have HBAD : Hid (shp none 0 L = false) := by
              show shp none 0 L = false
              rw [HSA.out]
              simp only [slB] at hsl
              cases h1 : decide (f = 0 ∨ f = 1) <;> cases h2 : TS.all isTok <;> cases h3 : TS.isEmpty <;> simp_all
            rw [hsl] at CL0
            have HCL : Hid _ := CL0
            clear CL0 hsl
            refine Go.Pin.wp_region_cls (fun y => Below V.heap.size V y) (by kernel_rfl) (by kernel_rfl) ((Below.refl _ _).drew) ?_
            intro Sq fq hNq hRq hSq
            have y0 := fun x => ((HLB.out.below (hRq x)).c0)
            have y1 := fun x => ((HLB.out.below (hRq x)).c1)
            have y3 := fun x => ((HLB.out.below (hRq x)).pb.c3)
            have CF := fun x => HCL.out (fq x) (hRq x)
            repeat (go_big_quiet_step (exact (CF _).mono (fun e w' h => ⟨h.1, hSq _ ((hRq _).trans (h.2.mono (hRq _).size))⟩)))
            refine wpQuiet_nil ?_
            intro _ hw'
            obtain ⟨xq, hw''⟩ := hw'
            subst hw''
            have HYq := hRq xq
            generalize fq xq = y at HYq ⊢
            have HYB : Hid (PB q w nm v0 v1 (.slice (some ⟨b, o, none⟩) n cl) y) := HLB.out.pb.below HYq
            clear hRq hSq hNq xq fq Sq y0 y1 y3 HYq CF
            go_wp2
            go_ret
            exact ⟨by rw [HR.out, HBAD.out]; simp, HYB.out.old⟩
          | true =>
            have HON : Hid (shp none 0 L = shp (pv L (k + 1)) (tl L (k + 1)) (L.drop (k + 1)) ∧ 0 < n2) := by
              simp only [slB, Bool.and_eq_true, decide_eq_true_eq] at hsl
              refine ⟨?_, ?_⟩
              · have ha : decide (f = 0 ∨ f = 1) = true := decide_eq_true hsl.1
                have hb : decide (pv L k ≠ some f) = true := decide_eq_true HGD.out
                have hd : decide (tl L (k + 1) ≤ 24) = true := decide_eq_true (by rw [HTL.out]; exact HT24.out)
                rw [HSA.out, ha, hb, hsl.2.2, hd, hsl.2.1]
                rfl
              · rw [HTS.out.2]
                exact List.length_pos_iff.2 (by simpa using hsl.2.2)
            rw [hsl] at CL0
            have HCL : Hid _ := CL0
            clear CL0 hsl
            refine Go.Pin.wp_region_cls (fun y => Below V.heap.size V y) (by kernel_rfl) (by kernel_rfl) ((Below.refl _ _).drew) ?_
            intro Sq fq hNq hRq hSq
            have y0 := fun x => ((HLB.out.below (hRq x)).c0)
            have y1 := fun x => ((HLB.out.below (hRq x)).c1)
            have y3 := fun x => ((HLB.out.below (hRq x)).pb.c3)
            have CF := fun x => HCL.out (fq x) (hRq x)
            repeat (go_big_quiet_step (exact (CF _).mono (fun e w' h => ⟨h.1, hSq _ ((hRq _).trans (h.2.mono (hRq _).size))⟩)))
            refine wpQuiet_nil ?_
            intro _ hw'
            obtain ⟨xq, hw''⟩ := hw'
            subst hw''
            have HYq := hRq xq
            generalize fq xq = y at HYq ⊢
            have HYB : Hid (PB q w nm v0 v1 (.slice (some ⟨b, o, none⟩) n cl) y) := HLB.out.pb.below HYq
            clear hRq hSq hNq xq fq Sq y0 y1 y3 HYq CF
            go_wp2
            exact ⟨⟨k + 1, hlt, congrArg (Value.int .i64) (by omega), congrArg (Value.int .i64) (by rw [HTL.out]; omega), by rw [HTL.out]; have := HT24.out; omega, HON.out.1, fun _ => by rw [HTL.out]; have := HON.out.2; omega, HYB.out⟩, by show n - ((k : Int) + 1).toNat < n - ((k : Int)).toNat; omega⟩
        · obtain ⟨k', hk'⟩ : ∃ k', k = k' + 1 := ⟨k - 1, by omega⟩
          obtain ⟨b', o', a3, n3, c3, e, hc', _, _⟩ := HAT.out k' (by omega)
          injection e with e
          injection e with e1 e2
          subst e1 e2
          obtain ⟨f', hf'⟩ : ∃ f', (L.getD k' (0, [])).1 = f' := ⟨_, rfl⟩
          have HZ : Hid (∀ y, Below V.heap.size V y → y.cell? ⟨b, o + k' * 2, none⟩ = some (.int .i64 f')) := fun y hy => by
            rw [← hf']
            exact (hc' y (HLB.out.pb.below hy).old).1
          have HPV : Hid (pv L k = some f') := by show pv L k = some f'; rw [hk']; simp [pv, ← hf']
          have gk : (0 : Int) < (k : Int) := by omega
          have gk' : 0 < k := by omega
          have bw : IntKind.i64.wrap ((k : Int) - 1) = (k' : Int) := by rw [IntWalk.i64_in _ ⟨by omega, by omega⟩]; omega
          have bw' : wrap64 ((k : Int) - 1) = (k' : Int) := by rw [IntWalk.wrap64_in _ ⟨by omega, by omega⟩]; omega
          have bkn : (k' : Int) < (n : Int) := by omega
          clear hk0 hk' hc' hf'
          by_cases hff : f = f'
          · have HBAD : Hid (shp none 0 L = false) := by
              show shp none 0 L = false
              rw [HSA.out, HPV.out, hff]
              simp
            subst hff
            clear CL0
            refine Go.Pin.wp_region_cls (fun y => Below V.heap.size V y) (by kernel_rfl) (by kernel_rfl) ((Below.refl _ _).drew) ?_
            intro Sq fq hNq hRq hSq
            have y0 := fun x => ((HLB.out.below (hRq x)).c0)
            have y1 := fun x => ((HLB.out.below (hRq x)).c1)
            have y3 := fun x => ((HLB.out.below (hRq x)).pb.c3)
            have y4 := fun x => HZ.out (fq x) (hRq x)
            repeat (go_big_quiet_step (fail))
            refine wpQuiet_nil ?_
            intro _ hw'
            obtain ⟨xq, hw''⟩ := hw'
            subst hw''
            have HYq := hRq xq
            generalize fq xq = y at HYq ⊢
            have HYB : Hid (PB q w nm v0 v1 (.slice (some ⟨b, o, none⟩) n cl) y) := HLB.out.pb.below HYq
            clear hRq hSq hNq xq fq Sq y0 y1 y3 y4 HYq
            go_wp2
            go_ret
            exact ⟨by rw [HR.out, HBAD.out]; simp, HYB.out.old⟩
          · have hfb : (f == f') = false := by simpa using hff
            have hfd : decide (f = f') = false := by simpa using hff
            have HGD : Hid (pv L k ≠ some f) := by show pv L k ≠ some f; rw [HPV.out]; simp; exact fun e => hff e.symm
            clear hff
            cases hsl : slB f TS with
            | false =>
              have HBAD : Hid (shp none 0 L = false) := by
                show shp none 0 L = false
                rw [HSA.out]
                simp only [slB] at hsl
                cases h1 : decide (f = 0 ∨ f = 1) <;> cases h2 : TS.all isTok <;> cases h3 : TS.isEmpty <;> simp_all
              rw [hsl] at CL0
              have HCL : Hid _ := CL0
              clear CL0 hsl
              refine Go.Pin.wp_region_cls (fun y => Below V.heap.size V y) (by kernel_rfl) (by kernel_rfl) ((Below.refl _ _).drew) ?_
              intro Sq fq hNq hRq hSq
              have y0 := fun x => ((HLB.out.below (hRq x)).c0)
              have y1 := fun x => ((HLB.out.below (hRq x)).c1)
              have y3 := fun x => ((HLB.out.below (hRq x)).pb.c3)
              have y4 := fun x => HZ.out (fq x) (hRq x)
              have CF := fun x => HCL.out (fq x) (hRq x)
              repeat (go_big_quiet_step (exact (CF _).mono (fun e w' h => ⟨h.1, hSq _ ((hRq _).trans (h.2.mono (hRq _).size))⟩)))
              refine wpQuiet_nil ?_
              intro _ hw'
              obtain ⟨xq, hw''⟩ := hw'
              subst hw''
              have HYq := hRq xq
              generalize fq xq = y at HYq ⊢
              have HYB : Hid (PB q w nm v0 v1 (.slice (some ⟨b, o, none⟩) n cl) y) := HLB.out.pb.below HYq
              clear hRq hSq hNq xq fq Sq y0 y1 y3 y4 HYq CF
              go_wp2
              go_ret
              exact ⟨by rw [HR.out, HBAD.out]; simp, HYB.out.old⟩
            | true =>
              have HON : Hid (shp none 0 L = shp (pv L (k + 1)) (tl L (k + 1)) (L.drop (k + 1)) ∧ 0 < n2) := by
                simp only [slB, Bool.and_eq_true, decide_eq_true_eq] at hsl
                refine ⟨?_, ?_⟩
                · have ha : decide (f = 0 ∨ f = 1) = true := decide_eq_true hsl.1
                  have hb : decide (pv L k ≠ some f) = true := decide_eq_true HGD.out
                  have hd : decide (tl L (k + 1) ≤ 24) = true := decide_eq_true (by rw [HTL.out]; exact HT24.out)
                  rw [HSA.out, ha, hb, hsl.2.2, hd, hsl.2.1]
                  rfl
                · rw [HTS.out.2]
                  exact List.length_pos_iff.2 (by simpa using hsl.2.2)
              rw [hsl] at CL0
              have HCL : Hid _ := CL0
              clear CL0 hsl
              refine Go.Pin.wp_region_cls (fun y => Below V.heap.size V y) (by kernel_rfl) (by kernel_rfl) ((Below.refl _ _).drew) ?_
              intro Sq fq hNq hRq hSq
              have y0 := fun x => ((HLB.out.below (hRq x)).c0)
              have y1 := fun x => ((HLB.out.below (hRq x)).c1)
              have y3 := fun x => ((HLB.out.below (hRq x)).pb.c3)
              have y4 := fun x => HZ.out (fq x) (hRq x)
              have CF := fun x => HCL.out (fq x) (hRq x)
              repeat (go_big_quiet_step (exact (CF _).mono (fun e w' h => ⟨h.1, hSq _ ((hRq _).trans (h.2.mono (hRq _).size))⟩)))
              refine wpQuiet_nil ?_
              intro _ hw'
              obtain ⟨xq, hw''⟩ := hw'
              subst hw''
              have HYq := hRq xq
              generalize fq xq = y at HYq ⊢
              have HYB : Hid (PB q w nm v0 v1 (.slice (some ⟨b, o, none⟩) n cl) y) := HLB.out.pb.below HYq
              clear hRq hSq hNq xq fq Sq y0 y1 y3 y4 HYq CF
              go_wp2
              exact ⟨⟨k + 1, hlt, congrArg (Value.int .i64) (by omega), congrArg (Value.int .i64) (by rw [HTL.out]; omega), by rw [HTL.out]; have := HT24.out; omega, HON.out.1, fun _ => by rw [HTL.out]; have := HON.out.2; omega, HYB.out⟩, by show n - ((k : Int) + 1).toNat < n - ((k : Int)).toNat; omega⟩
    · have b1 : ¬ (k : Int) < (n : Int) := by omega
      have HPW : Hid (PB q w nm v0 v1 (.slice al n cl) wr) := hp
      have hsh : shp none 0 L = true := by
        rw [hs, List.drop_eq_nil_of_le (by rw [HN.out]; omega)]
        rfl
      by_cases h0 : tl L k = 0
      · have g0 : ¬ (0 : Int) < ((tl L k : Nat) : Int) := by omega
        have HE : Hid (L.isEmpty = true) := by
          show L.isEmpty = true
          rw [List.isEmpty_iff]
          have : k = 0 := by omega
          exact List.length_eq_zero_iff.1 (by rw [HN.out]; omega)
        clear h0 hpos hsh hs ht hp hk
        go_wp2
        go_ret
        exact ⟨by rw [HR.out, HE.out]; simp; omega, HPW.out.old⟩
      · have g0 : (0 : Int) < ((tl L k : Nat) : Int) := by omega
        have HE : Hid (L.isEmpty = false ∧ shp none 0 L = true) := by
          refine ⟨?_, hsh⟩
          rw [List.isEmpty_eq_false_iff]
          rintro rfl
          apply h0
          simp [tl]
        clear h0 hpos hsh hs ht hp hk
        go_wp2
        go_ret
        exact ⟨by rw [HR.out, HE.out.1, HE.out.2]; simp; omega, HPW.out.old⟩
end Go.Proofs.YtpfidohkohldaaaGreatDoor
