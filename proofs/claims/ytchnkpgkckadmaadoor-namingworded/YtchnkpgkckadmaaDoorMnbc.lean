import Derived.Test.YtchnkpgkckadmaaDoorMnaj
import Derived.Test.YtchnkpgkckadmaaDoorMnai
import Derived.Test.YtchnkpgkckadmaaDoorMnag
import Derived.Test.YtchnkpgkckadmaaDoorMnbb
import Derived.Test.YtchnkpgkckadmaaDoorMnao
import Derived.Test.YtchnkpgkckadmaaDoorMnaf
namespace Go.Proofs.YtchnkpgkckadmaaDoor
set_option linter.unusedSimpArgs false
set_option linter.unusedVariables false
open Go.ChangeShapes Go.WideShapes Go.ChangeAt Go.RowKit Go.Pin Go.Pat
set_option maxRecDepth 100000 in
set_option maxHeartbeats 2000000 in
theorem nints_true {W : World} {u v : Value} {C : List Int} (hu : RdN W u C) (hv : RdN W v C) :
    Calls Tryd.prog 14 #[u, v] W fun e w' => e = .returned (.bool true) ∧ Below W.heap.size W w' := by
  obtain ⟨a, ca, rfl, -, -, -⟩ := id hu
  obtain ⟨b, cb, rfl, -, -, -⟩ := id hv
  obtain ⟨-, hal, hua⟩ := hu.at
  obtain ⟨-, hbl, hvb⟩ := hv.at
  obtain ⟨q, hq⟩ : ∃ q, W.heap.size = q := ⟨_, rfl⟩
  obtain ⟨n, hnl⟩ : ∃ n, C.length = n := ⟨_, rfl⟩
  rw [hnl] at hua hvb hal
  rw [hnl]
  have HN : Hid (n ≤ 140737488355328) := hal
  have HA : Hid _ := hua
  have HB : Hid _ := hvb
  rw [hq]
  clear hu hv hua hvb hbl hal hnl
  go_enter Tryd.func14, Tryd.ntmps14
  go_wp2
  go_loopw [5] (fun v5 wr => ∃ i : Nat, i ≤ n ∧ v5 = .int .i64 i ∧ Below q W wr) (fun v _ => n - (intOf v).toNat)
  case atStart => exact ⟨0, Nat.zero_le _, rfl, Below.refl _ _⟩
  case round =>
    obtain ⟨i, hi, rfl, hp⟩ := hrel
    have HP : Hid (Below q W wr) := hp
    by_cases hlt : i < n
    · have b1 : (i : Int) < (n : Int) := by omega
      obtain ⟨g, o, rfl, h1⟩ := HA.out i hlt
      obtain ⟨g', o', rfl, h2⟩ := HB.out i hlt
      have c := h1 wr (by rw [hq]; exact hp)
      have d := h2 wr (by rw [hq]; exact hp)
      generalize C.getD i 0 = x at *
      clear h1 h2 hp
      go_wp2
      go_quiet (fail)
      go_wp2
      exact ⟨⟨i + 1, hlt, congrArg (Value.int .i64) (wrapS hlt HN.out), drewN_below HP.out _⟩, measS hlt HN.out⟩
    · have b1 : ¬ (i : Int) < (n : Int) := by omega
      clear hp
      go_wp2
      go_ret
      exact ⟨rfl, HP.out⟩
theorem npb2 {q : Nat} {w wr : World} {nm nm' : ByteArray} {v0 v1 vl v0' v1' vl' : Value} (h : PB q w nm v0 v1 vl wr) : PB q w nm v0 v1 vl (wr.alloc (.cells #[.string nm', v0', v1', vl'] 27)) := h.below ((Below.refl _ _).alloc (Nat.le_refl _) _)
set_option maxRecDepth 100000 in
set_option maxHeartbeats 4000000 in
theorem alike_true {W : World} {u v : Value} {p : Pt} (hu : RdP W u p) (hv : RdP W v p) :
    Calls Tryd.prog 9 #[u, v] W fun e w' => e = .returned (.bool true) ∧ Below W.heap.size W w' := by
  obtain ⟨v0, v1, vl, rfl, h0, h1, hl⟩ := hu
  obtain ⟨u0, u1, ul, rfl, g0, g1, gl⟩ := hv
  obtain ⟨a0, p0, rfl, -, -, -⟩ := id h0
  obtain ⟨a1, p1, rfl, -, -, -⟩ := id h1
  obtain ⟨al, cl, rfl, -, hll, -⟩ := id hl
  obtain ⟨e0, k0, rfl, -, -, -⟩ := id g0
  obtain ⟨e1, k1, rfl, -, -, -⟩ := id g1
  obtain ⟨el, kl, rfl, -, -, -⟩ := id gl
  have hst := pb_start W p.nm (.slice a0 p.b0.length p0) (.slice a1 p.b1.length p1) (.slice al p.ln.length cl)
  have hb1 : Below W.heap.size W (W.alloc (.cells #[.string p.nm, .slice a0 p.b0.length p0, .slice a1 p.b1.length p1, .slice al p.ln.length cl] 27)) := hst.old
  have hs2 := pb_start (W.alloc (.cells #[.string p.nm, .slice a0 p.b0.length p0, .slice a1 p.b1.length p1, .slice al p.ln.length cl] 27)) p.nm (.slice e0 p.b0.length k0) (.slice e1 p.b1.length k1) (.slice el p.ln.length kl)
  have hst2 := hst.below hs2.old
  have hb2 := hb1.trans (hs2.old.mono hb1.size)
  have hH0 := fun Y (hY : Below W.heap.size W Y) => nints_true (h0.below hY) (g0.below hY)
  have hH1 := fun Y (hY : Below W.heap.size W Y) => nints_true (h1.below hY) (g1.below hY)
  have hHL := fun Y (hY : Below W.heap.size W Y) => hl.below hY
  have hGL := fun Y (hY : Below W.heap.size W Y) => gl.below hY
  obtain ⟨q, hq⟩ : ∃ q, W.heap.size = q := ⟨_, rfl⟩
  obtain ⟨nm, hnm⟩ : ∃ nm, p.nm = nm := ⟨_, rfl⟩
  obtain ⟨x0, hx0⟩ : ∃ x0, Value.slice a0 p.b0.length p0 = x0 := ⟨_, rfl⟩
  obtain ⟨x1, hx1⟩ : ∃ x1, Value.slice a1 p.b1.length p1 = x1 := ⟨_, rfl⟩
  obtain ⟨y0, hy0⟩ : ∃ y0, Value.slice e0 p.b0.length k0 = y0 := ⟨_, rfl⟩
  obtain ⟨y1, hy1⟩ : ∃ y1, Value.slice e1 p.b1.length k1 = y1 := ⟨_, rfl⟩
  obtain ⟨L, hLn⟩ : ∃ L, p.ln.length = L := ⟨_, rfl⟩
  have hsz : (W.alloc (.cells #[.string p.nm, .slice a0 p.b0.length p0, .slice a1 p.b1.length p1, .slice al p.ln.length cl] 27)).heap.size = q + 1 := by rw [size_alloc, hq]
  rw [hsz] at hs2
  simp only [hq, hnm, hx0, hx1, hy0, hy1, hLn] at hst2 hs2 hb2 hH0 hH1 hHL hGL hll ⊢
  obtain ⟨W1, hW1⟩ : ∃ W1, W.alloc (.cells #[.string nm, x0, x1, .slice al L cl] 27) = W1 := ⟨_, rfl⟩
  simp only [hW1] at hst2 hs2 hb2
  obtain ⟨W2, hW2⟩ : ∃ W2, W1.alloc (.cells #[.string nm, y0, y1, .slice el L kl] 27) = W2 := ⟨_, rfl⟩
  simp only [hW2] at hst2 hs2 hb2
  have hz1 : W1.heap.size = q + 1 := by rw [← hW1, size_alloc, hq]
  have HI0 : Hid _ := hH0
  have HI1 : Hid _ := hH1
  have HHL : Hid _ := hHL
  have HGL : Hid _ := hGL
  have HP : Hid (PB q W nm x0 x1 (.slice al L cl) W2) := hst2
  have HQ : Hid (PB (q + 1) W1 nm y0 y1 (.slice el L kl) W2) := hs2
  have HB : Hid (Below q W W2) := hb2
  have HL : Hid (L ≤ 140737488355328 ∧ p.ln.length = L) := ⟨hll, hLn⟩
  have c0 := hst2.c0
  have c1 := hst2.c1
  have c2 := hst2.c2
  have c3 := hst2.c3
  have d0 := hs2.c0
  have d1 := hs2.c1
  have d2 := hs2.c2
  have d3 := hs2.c3
  have CI0 := HI0.out W2 HB.out
  clear hst hst2 hs2 hb1 hb2 hH0 hH1 hHL hGL hll h0 h1 hl g0 g1 gl hx0 hx1 hy0 hy1 hLn hnm hsz
  go_enter Tryd.func9, Tryd.ntmps9
  go_upto_region 3 with (first
    | (go_at_call 14; refine Calls.mono CI0 ?_; rintro e w1 ⟨rfl, hb⟩; have HP1 : Hid (PB q W nm x0 x1 (.slice al L cl) w1) := HP.out.below hb; have HQ1 : Hid (PB (q + 1) W1 nm y0 y1 (.slice el L kl) w1) := HQ.out.below hb; have HB1 : Hid (Below q W w1) := HP1.out.old; clear hb c0 c1 c2 c3 d0 d1 d2 d3 CI0; have c0 := HP1.out.c0; have c1 := HP1.out.c1; have c2 := HP1.out.c2; have c3 := HP1.out.c3; have d0 := HQ1.out.c0; have d1 := HQ1.out.c1; have d2 := HQ1.out.c2; have d3 := HQ1.out.c3; have CI1 := HI1.out w1 HB1.out)
    | (go_at_call 14; refine Calls.mono CI1 ?_; rintro e w2 ⟨rfl, hb⟩; have HP2 : Hid (PB q W nm x0 x1 (.slice al L cl) w2) := HP1.out.below hb; have HQ2 : Hid (PB (q + 1) W1 nm y0 y1 (.slice el L kl) w2) := HQ1.out.below hb; clear hb c0 c1 c2 c3 d0 d1 d2 d3 CI1; have c3 := HP2.out.c3; have d3 := HQ2.out.c3))
  clear c3 d3
  go_wp2
  go_loopw [5] (fun v5 wr => ∃ i : Nat, i ≤ L ∧ v5 = .int .i64 i ∧ PB q W nm x0 x1 (.slice al L cl) wr ∧ PB (q + 1) W1 nm y0 y1 (.slice el L kl) wr) (fun v _ => L - (intOf v).toNat)
  case atStart => exact ⟨0, Nat.zero_le _, rfl, HP2.out, HQ2.out⟩
  case round =>
    obtain ⟨i, hi, rfl, hp, hqq⟩ := hrel
    have HPR : Hid (PB q W nm x0 x1 (.slice al L cl) wr) := hp
    have HQR : Hid (PB (q + 1) W1 nm y0 y1 (.slice el L kl) wr) := hqq
    have c3 := hp.c3
    have d3 := hqq.c3
    by_cases hlt : i < L
    · have b1 : (i : Int) < (L : Int) := by omega
      obtain ⟨b, o, a2, n2, c2, rfl, hc, hn, hn2⟩ := (HHL.out wr hp.old).at hlt
      obtain ⟨b', o', a2', n2', c2', rfl, hc', hn', hn2'⟩ := (HGL.out wr hp.old).at hlt
      have en : n2' = n2 := by rw [hn2, hn2']
      subst en
      have HII : Hid (∀ Y, Below wr.heap.size wr Y → _) := fun Y hY => nints_true (hn.below hY) (hn'.below hY)
      have HC : Hid _ := hc
      have HC' : Hid _ := hc'
      generalize (p.ln.getD i (0, [])).1 = f at *
      clear hc hc' hn hn' hp hqq hn2 hn2'
      go_wp2
      refine Go.Pin.wp_region_cls (fun Y => Below wr.heap.size wr Y) (by kernel_rfl) (by kernel_rfl) ((Below.refl _ _).drew) ?_
      intro Sq fq hNq hRq hSq
      have z0 := fun x => (HPR.out.below (hRq x)).c3
      have z1 := fun x => (HQR.out.below (hRq x)).c3
      have k0 := fun x => (HC.out _ (hRq x)).1
      have k1 := fun x => (HC.out _ (hRq x)).2
      have l0 := fun x => (HC'.out _ (hRq x)).1
      have l1 := fun x => (HC'.out _ (hRq x)).2
      have CF := fun x => HII.out (fq x) (hRq x)
      repeat (go_big_quiet_step (exact (CF _).mono (fun e w' h => ⟨h.1, hSq _ ((hRq _).trans (h.2.mono (hRq _).size))⟩)))
      refine wpQuiet_nil ?_
      intro _ hw'
      obtain ⟨xq, hw''⟩ := hw'
      subst hw''
      have HYq := hRq xq
      generalize fq xq = Y at HYq ⊢
      clear hRq hSq hNq xq fq Sq z0 z1 k0 k1 l0 l1 CF c3 d3
      have HY : Hid (Below wr.heap.size wr Y) := HYq
      clear HYq
      go_wp2
      exact ⟨⟨i + 1, hlt, congrArg (Value.int .i64) (wrapS hlt HL.out.1), HPR.out.below HY.out, HQR.out.below HY.out⟩, measS hlt HL.out.1⟩
    · have b1 : ¬ (i : Int) < (L : Int) := by omega
      clear hp hqq
      go_wp2
      go_ret
      exact ⟨rfl, HPR.out.old⟩
end Go.Proofs.YtchnkpgkckadmaaDoor
namespace Go.Proofs.YtchnkpgkckadmaaDoor
set_option linter.unusedSimpArgs false
set_option linter.unusedVariables false
set_option maxRecDepth 100000
open Go.ChangeShapes Go.WideShapes Go.ChangeAt Go.RowKit Go.Pin Go.Pat Go.Deep
theorem cat_eq (f : ByteArray) : (⟨#[78, 111, 105, 115, 101, 95]⟩ : ByteArray) ++ f ++ ⟨#[95, 50, 53, 53, 49, 57, 95, 67, 104, 97, 67, 104, 97, 80, 111, 108, 121, 95, 66, 76, 65, 75, 69, 50, 115]⟩ = hdN ++ f ++ tlN := rfl
theorem cat_size (f : ByteArray) : (hdN ++ f ++ tlN).size = f.size + 31 := by rw [ByteArray.size_append, ByteArray.size_append]; show 6 + f.size + 25 = _; omega
theorem cat_toL (f : ByteArray) : toL (hdN ++ f ++ tlN) = toL hdN ++ (toL f ++ toL tlN) := by rw [toL_app, toL_app, List.append_assoc]
theorem back_nm {f : ByteArray} (h : (nprs (hdN ++ f ++ tlN)).2 = 0) : (nprs (hdN ++ f ++ tlN)).1.nm = f ∧ chk (nprs (hdN ++ f ++ tlN)).1 = 0 := by
  obtain ⟨h1, h2, _⟩ := nprs_back h
  refine ⟨?_, h2⟩
  rw [cat_toL] at h1
  exact (toL_inj (List.append_cancel_right (List.append_cancel_left h1))).symm
set_option maxHeartbeats 8000000 in
theorem back16_walk {ea : Int → Addr} (f : ByteArray) (W : World) (hE : Errs ea W) (hf : f.size ≤ 140737488355328) :
    Calls Tryd.prog 3 #[.string f] W fun e w' => e = .returned (.bool true) ∧ Below W.heap.size W w' := by
  obtain ⟨n, hn⟩ : ∃ n, f.size = n := ⟨_, rfl⟩
  by_cases hz : 1000 < n
  · have CW := awake_any W hE
    have t0 : (n : Int) > 1000 := by omega
    have t1 : (1000 : Int) < (n : Int) := by omega
    obtain ⟨q, hq⟩ : ∃ q, W.heap.size = q := ⟨_, rfl⟩
    rw [hq] at CW ⊢
    clear hE hz
    go_enter Tryd.func3, Tryd.ntmps3
    go_wp2_with (go_at_call 6; refine CW.mono ?_; rintro e w6 ⟨rfl, hb⟩; have H6 : Hid (Below q W w6) := hb; clear hb CW)
    go_ret
    exact ⟨rfl, H6.out⟩
  have t0 : ¬ (n : Int) > 1000 := by omega
  have t1 : ¬ (1000 : Int) < (n : Int) := by omega
  have hap := cat_eq f
  have hcs : (hdN ++ f ++ tlN).size ≤ 140737488355328 := by rw [cat_size]; omega
  have hbk := back_nm (f := f)
  have h2 := prn_two f
  obtain ⟨t, ht⟩ : ∃ t, hdN ++ f ++ tlN = t := ⟨_, rfl⟩
  rw [ht] at hap hcs hbk h2
  obtain ⟨q, hq⟩ : ∃ q, W.heap.size = q := ⟨_, rfl⟩
  have HQ : Hid (W.heap.size = q) := hq
  have HE : Hid (∀ Y, Below q W Y → Errs ea Y) := fun Y hY => hE.below (by rw [hq]; exact hY)
  have HCP : Hid (∀ Y, Below q W Y → Calls Tryd.prog 7 #[.string t] Y (NpP ea t Y)) := fun Y hY => nparse_any t Y (HE.out Y hY) (by omega)
  have HCR : Hid (∀ Y, Below q W Y → Calls Tryd.prog 8 #[.string f] Y _) := fun Y hY => nprint_any f Y (HE.out Y hY) (by omega)
  unfold NpP at HCP
  rw [hq]
  have CP := HCP.out W (Below.refl _ _)
  rw [HQ.out] at CP
  clear hE hcs hz hf ht
  rcases h2 with ⟨h3, h4⟩ | ⟨h3, h4⟩
  · obtain ⟨hnm, hck⟩ := hbk h3
    obtain ⟨md, hmd⟩ : ∃ md, nprs t = md := ⟨_, rfl⟩
    rw [hmd] at CP HCP h3 hnm hck
    rw [h4] at HCR
    obtain ⟨P, c⟩ := md
    simp only at CP HCP h3 hnm hck
    subst h3
    simp only [EV_0] at CP HCP HCR
    rw [hnm] at CP HCP
    have HCK : Hid (chk P = 0) := hck
    have HNM : Hid (P.nm = f) := hnm
    clear hbk h4 hmd hnm hck
    go_enter Tryd.func3, Tryd.ntmps3
    go_upto_region 4 with (go_at_call 7; refine CP.mono ?_; rintro e w1 ⟨hb, v0, v1, vl, rfl, hft, -⟩; have hrd := hft.rd; obtain ⟨d0, m0, n0, rfl⟩ := hft.1.sl3; obtain ⟨d1, m1, n1, rfl⟩ := hft.2.1.sl3; obtain ⟨d2, m2, n2, rfl⟩ := hft.2.2.sl3; have H1 : Hid (Below q W w1 ∧ RdP w1 (.agg #[.string P.nm, .slice d0 m0 n0, .slice d1 m1 n1, .slice d2 m2 n2]) P) := ⟨hb, hrd⟩; clear hb hft hrd CP)
    have hbx := bx_new w1 H1.out.2
    have ha : Below w1.heap.size w1 (w1.alloc (.cells #[.string P.nm, .slice d0 m0 n0, .slice d1 m1 n1, .slice d2 m2 n2] 27)) := (Below.refl _ _).alloc (Nat.le_refl _) _
    have hB := sub_le' H1.out.1 ha (by have := H1.out.1.size; have := HQ.out; omega)
    obtain ⟨g1, hg1⟩ : ∃ g, w1.heap.size = g := ⟨_, rfl⟩
    obtain ⟨W2, hW2⟩ : ∃ W2, w1.alloc (.cells #[.string f, .slice d0 m0 n0, .slice d1 m1 n1, .slice d2 m2 n2] 27) = W2 := ⟨_, rfl⟩
    simp only [HNM.out, hg1, hW2] at hbx hB ⊢
    have H2 : Hid (Below q W W2 ∧ BX g1 (.slice d0 m0 n0) (.slice d1 m1 n1) (.slice d2 m2 n2) P W2) := ⟨hB, hbx⟩
    have CR := HCR.out W2 hB
    clear hbx ha hB hg1 hW2 H1
    go_upto_region 7 with (go_at_call 8; refine CR.mono ?_; rintro e w3 ⟨rfl, hb⟩; have H3 : Hid (Below q W w3 ∧ BX g1 (.slice d0 m0 n0) (.slice d1 m1 n1) (.slice d2 m2 n2) P w3) := ⟨sub_le' H2.out.1 hb (by have := H2.out.1.size; have := HQ.out; omega), H2.out.2.below hb⟩; clear hb CR)
    have CP2 := HCP.out w3 H3.out.1
    go_upto_region 8 with (go_at_call 7; refine CP2.mono ?_; rintro e w4 ⟨hb, v0, v1, vl, rfl, hft, -⟩; have hrd := hft.rd; obtain ⟨e0, i0, j0, rfl⟩ := hft.1.sl3; obtain ⟨e1, i1, j1, rfl⟩ := hft.2.1.sl3; obtain ⟨e2, i2, j2, rfl⟩ := hft.2.2.sl3; have H4 : Hid (Below q W w4 ∧ BX g1 (.slice d0 m0 n0) (.slice d1 m1 n1) (.slice d2 m2 n2) P w4 ∧ RdP w4 (.agg #[.string P.nm, .slice e0 i0 j0, .slice e1 i1 j1, .slice e2 i2 j2]) P) := ⟨sub_le' H3.out.1 hb (by have := H3.out.1.size; have := HQ.out; omega), H3.out.2.below hb, hrd⟩; clear hb hft hrd CP2)
    have hbx := bx_new w4 H4.out.2.2
    have ha : Below w4.heap.size w4 (w4.alloc (.cells #[.string P.nm, .slice e0 i0 j0, .slice e1 i1 j1, .slice e2 i2 j2] 27)) := (Below.refl _ _).alloc (Nat.le_refl _) _
    have hB := sub_le' H4.out.1 ha (by have := H4.out.1.size; have := HQ.out; omega)
    have hx := H4.out.2.1.below ha
    obtain ⟨g4, hg4⟩ : ∃ g, w4.heap.size = g := ⟨_, rfl⟩
    obtain ⟨W5, hW5⟩ : ∃ W5, w4.alloc (.cells #[.string f, .slice e0 i0 j0, .slice e1 i1 j1, .slice e2 i2 j2] 27) = W5 := ⟨_, rfl⟩
    simp only [HNM.out, hg4, hW5] at hbx hB hx ⊢
    have H5 : Hid (Below q W W5 ∧ BX g1 (.slice d0 m0 n0) (.slice d1 m1 n1) (.slice d2 m2 n2) P W5) := ⟨hB, hx⟩
    have CA := alike_true hx.rd hbx.rd
    have x0 := hx.c0
    have x1 := hx.c1
    have x2 := hx.c2
    have x3 := hx.c3
    have y0 := hbx.c0
    have y1 := hbx.c1
    have y2 := hbx.c2
    have y3 := hbx.c3
    rw [HNM.out] at CA x0 y0
    have htt : (t.toList == t.toList) = true := by simp
    have hff : (f.toList == f.toList) = true := by simp
    clear hbx ha hB hg4 hW5 hx H4 H3 H2
    go_wp2_with (first
      | (go_at_call 9; refine CA.mono ?_; rintro e w6 ⟨rfl, hb⟩; have H6 : Hid (Below q W w6 ∧ BX g1 (.slice d0 m0 n0) (.slice d1 m1 n1) (.slice d2 m2 n2) P w6) := ⟨sub_le' H5.out.1 hb (by have := H5.out.1.size; have := HQ.out; omega), H5.out.2.below hb⟩; clear hb CA x0 x1 x2 x3 y0 y1 y2 y3; have x0 := H6.out.2.c0; have x1 := H6.out.2.c1; have x2 := H6.out.2.c2; have x3 := H6.out.2.c3; have CK := pcheck_any (ea := ea) _ P w6 (HE.out w6 H6.out.1) H6.out.2.rd; rw [HCK.out, EV_0] at CK; rw [HNM.out] at x0 CK)
      | (go_at_call 10; refine CK.mono ?_; rintro e w7 ⟨rfl, hb⟩; have H7 : Hid (Below q W w7) := sub_le' H6.out.1 hb (by have := H6.out.1.size; have := HQ.out; omega); have CW := awake_any w7 (HE.out w7 H7.out); clear hb CK x0 x1 x2 x3)
      | (go_at_call 6; refine CW.mono ?_; rintro e w8 ⟨rfl, hb⟩; have H8 : Hid (Below q W w8) := sub_le' H7.out hb (by have := H7.out.size; have := HQ.out; omega); clear hb CW))
    go_ret
    exact ⟨rfl, H8.out⟩
  · rw [h3] at CP
    rw [h4] at HCR
    simp only [EV_ne (show (13 : Int) ≠ 0 by decide)] at CP HCR
    clear hbk h3 h4 HCP
    go_enter Tryd.func3, Tryd.ntmps3
    go_upto_region 4 with (go_at_call 7; refine CP.mono ?_; rintro e w1 ⟨hb, v0, v1, vl, rfl, hft, -⟩; have hrd := hft.rd; obtain ⟨d0, n0, d1, n1, d2, n2, rfl, rfl, rfl⟩ := ft_sl hft; have H1 : Hid (Below q W w1 ∧ RdP w1 (.agg #[.string zPt.nm, .slice d0 0 n0, .slice d1 0 n1, .slice d2 0 n2]) zPt) := ⟨hb, hrd⟩; clear hb hft hrd CP)
    have hbx := bx_new w1 H1.out.2
    have ha : Below w1.heap.size w1 (w1.alloc (.cells #[.string zPt.nm, .slice d0 0 n0, .slice d1 0 n1, .slice d2 0 n2] 27)) := (Below.refl _ _).alloc (Nat.le_refl _) _
    have hB := sub_le' H1.out.1 ha (by have := H1.out.1.size; have := HQ.out; omega)
    obtain ⟨g1, hg1⟩ : ∃ g, w1.heap.size = g := ⟨_, rfl⟩
    obtain ⟨W2, hW2⟩ : ∃ W2, w1.alloc (.cells #[.string zPt.nm, .slice d0 0 n0, .slice d1 0 n1, .slice d2 0 n2] 27) = W2 := ⟨_, rfl⟩
    have hl0 : zPt.b0.length = 0 := rfl
    have hl1 : zPt.b1.length = 0 := rfl
    have hl2 : zPt.ln.length = 0 := rfl
    simp only [hg1, hW2] at hbx hB
    simp only [hl0, hl1, hl2, hg1, hW2]
    have H2 : Hid (Below q W W2 ∧ BX g1 (.slice d0 0 n0) (.slice d1 0 n1) (.slice d2 0 n2) zPt W2) := ⟨hB, hbx⟩
    have CR := HCR.out W2 hB
    clear hbx ha hB hg1 hW2 H1
    go_upto_region 6 with (go_at_call 8; refine CR.mono ?_; rintro e w3 ⟨rfl, hb⟩; have H3 : Hid (Below q W w3 ∧ BX g1 (.slice d0 0 n0) (.slice d1 0 n1) (.slice d2 0 n2) zPt w3) := ⟨sub_le' H2.out.1 hb (by have := H2.out.1.size; have := HQ.out; omega), H2.out.2.below hb⟩; clear hb CR)
    have hE1 := HE.out w3 H3.out.1
    have k13 := (hE1.1 13 (by decide)).1
    simp only [eblk] at k13
    have q1 := eq_err hE1 (c := 13) (d := 13) (by decide) (by decide)
    have CW := awake_any w3 hE1
    have x3 := H3.out.2.c3
    have hse : ((⟨#[]⟩ : ByteArray).toList == []) = true := by simp
    clear hE1
    go_wp2_with (go_at_call 6; refine CW.mono ?_; rintro e w6 ⟨rfl, hb⟩; have H6 : Hid (Below q W w6) := sub_le' H3.out.1 hb (by have := H3.out.1.size; have := HQ.out; omega); clear hb CW)
    go_ret
    exact ⟨rfl, H6.out⟩
end Go.Proofs.YtchnkpgkckadmaaDoor
namespace Go.Proofs.YtchnkpgkckadmaaDoor
set_option linter.unusedSimpArgs false
set_option linter.unusedVariables false
set_option maxRecDepth 100000
open Go.ChangeShapes Go.WideShapes Go.ChangeAt Go.RowKit Go.Pin Go.Pat Go.Deep
theorem plain_prs {f : ByteArray} (hz : f.size ≤ 60) (hu : ∀ j, j < f.size → upB (byt f j) = true) : nprs (hdN ++ f ++ tlN) = match tbI f with | none => (zPt, 13) | some p => (p, 0) := by
  have hF : FormB (hdN ++ f ++ tlN) f [] := by
    refine ⟨?_, fun x hx => ?_, fun w hw => nomatch hw⟩
    · rw [cat_toL]; rfl
    · obtain ⟨j, hj, rfl⟩ := List.getElem_of_mem hx
      have := hu j (by rw [toL_len] at hj; exact hj)
      rw [bytD, Go.Pat.getD_at _ _ hj] at this
      exact this
  rw [nprs_form hF (by rw [cat_size]; omega)]
  unfold nmd
  cases h : tbI f with
  | none => rfl
  | some p =>
    simp only
    rw [mdf_nil (tab_f (tbI_mem h).1).ck]
    rfl
set_option maxHeartbeats 8000000 in
theorem plain16_walk {ea : Int → Addr} (f : ByteArray) (W : World) (hE : Errs ea W) (hf : f.size ≤ 140737488355328) :
    Calls Tryd.prog 4 #[.string f] W fun e w' => e = .returned (.bool true) ∧ Below W.heap.size W w' := by
  obtain ⟨n, hn⟩ : ∃ n, f.size = n := ⟨_, rfl⟩
  by_cases hz : 60 < n
  · have CW := awake_any W hE
    have t0 : (n : Int) > 60 := by omega
    have t1 : (60 : Int) < (n : Int) := by omega
    obtain ⟨q, hq⟩ : ∃ q, W.heap.size = q := ⟨_, rfl⟩
    rw [hq] at CW ⊢
    clear hE hz
    go_enter Tryd.func4, Tryd.ntmps4
    go_wp2_with (go_at_call 6; refine CW.mono ?_; rintro e w6 ⟨rfl, hb⟩; have H6 : Hid (Below q W w6) := hb; clear hb CW)
    go_ret
    exact ⟨rfl, H6.out⟩
  have t0 : ¬ (n : Int) > 60 := by omega
  have t1 : ¬ (60 : Int) < (n : Int) := by omega
  have hap := cat_eq f
  have hcs : (hdN ++ f ++ tlN).size ≤ 140737488355328 := by rw [cat_size]; omega
  have HPL : Hid ((∀ j, j < n → upB (byt f j) = true) → nprs (hdN ++ f ++ tlN) = match tbI f with | none => (zPt, 13) | some p => (p, 0)) := fun h => plain_prs (by omega) (by rw [hn]; exact h)
  obtain ⟨t, ht⟩ : ∃ t, hdN ++ f ++ tlN = t := ⟨_, rfl⟩
  rw [ht] at hap hcs HPL
  obtain ⟨q, hq⟩ : ∃ q, W.heap.size = q := ⟨_, rfl⟩
  have HQ : Hid (W.heap.size = q) := hq
  have HE : Hid (∀ Y, Below q W Y → Errs ea Y) := fun Y hY => hE.below (by rw [hq]; exact hY)
  have CP := nparse_any (ea := ea) t W hE (by omega)
  unfold NpP at CP
  have CW := awake_any W hE
  rw [hq] at CP CW ⊢
  have HFN : Hid (∀ Y, Below q W Y → Calls Tryd.prog 11 #[.string f] Y (FnP f Y)) := fun Y hY => find_any' f Y (HE.out Y hY)
  unfold FnP at HFN
  have bn : (n : Int) ≤ 60 := by omega
  clear hE hcs hz hf ht
  go_enter Tryd.func4, Tryd.ntmps4
  go_upto_region 4 with (fail)
  go_loopw [3] (fun v3 wr => ∃ i : Nat, i ≤ n ∧ v3 = .int .i64 i ∧ (∀ j, j < i → upB (byt f j) = true) ∧ wr = W) (fun v _ => n - (intOf v).toNat)
  case atStart => exact ⟨0, Nat.zero_le _, rfl, fun j hj => absurd hj (Nat.not_lt_zero _), rfl⟩
  case round =>
    obtain ⟨i, hi, rfl, hup, hwr⟩ := hrel
    obtain rfl : W = wr := hwr.symm
    by_cases hlt : i < n
    · have hil : i < f.size := by omega
      have hgi := byt_at f i hil
      have b1 : (i : Int) < (n : Int) := by omega
      have b0 : (0 : Int) ≤ (i : Int) := by omega
      by_cases hc : upB (byt f i) = true
      · have HU : Hid (∀ j, j < i + 1 → upB (byt f j) = true) := fun j hj => by
          by_cases e : j = i
          · rw [e]; exact hc
          · exact hup j (by omega)
        have HLT : Hid (i < n) := hlt
        rw [hgi] at hc
        have hcc : (65 ≤ f[i].toNat ∧ f[i].toNat ≤ 90) ∨ (48 ≤ f[i].toNat ∧ f[i].toNat ≤ 57) := by unfold upB at hc; simpa using hc
        clear hup hc hlt hgi hi CP CW
        rcases hcc with hcc | hcc
        · have p1 : ¬ (f[i].toNat : Int) < 65 := by omega
          have p2 : ¬ (f[i].toNat : Int) > 90 := by omega
          have p3 : ¬ (90 : Int) < (f[i].toNat : Int) := by omega
          clear hcc
          go_wp2
          exact ⟨⟨i + 1, HLT.out, congrArg (Value.int .i64) (Int.natCast_succ i).symm, HU.out, trivial⟩, by have := HLT.out; show n - ((i : Int) + 1).toNat < n - ((i : Int)).toNat; omega⟩
        · have p1 : (f[i].toNat : Int) < 65 := by omega
          have p2 : ¬ (f[i].toNat : Int) < 48 := by omega
          have p3 : ¬ (f[i].toNat : Int) > 57 := by omega
          have p4 : ¬ (57 : Int) < (f[i].toNat : Int) := by omega
          clear hcc
          go_wp2
          exact ⟨⟨i + 1, HLT.out, congrArg (Value.int .i64) (Int.natCast_succ i).symm, HU.out, trivial⟩, by have := HLT.out; show n - ((i : Int) + 1).toNat < n - ((i : Int)).toNat; omega⟩
      · rw [hgi] at hc
        have hcc : f[i].toNat < 48 ∨ (57 < f[i].toNat ∧ f[i].toNat < 65) ∨ 90 < f[i].toNat := by unfold upB at hc; simp at hc; omega
        clear hup hc hlt hgi hi CP
        rcases hcc with hcc | hcc | hcc
        · have p0 : (f[i].toNat : Int) < 65 := by omega
          have p1 : (f[i].toNat : Int) < 48 := by omega
          clear hcc
          go_wp2_with (go_at_call 6; refine CW.mono ?_; rintro e w6 ⟨rfl, hb⟩; have H6 : Hid (Below q W w6) := hb; clear hb CW)
          go_ret
          exact ⟨rfl, H6.out⟩
        · have p0 : (f[i].toNat : Int) < 65 := by omega
          have p1 : ¬ (f[i].toNat : Int) < 48 := by omega
          have p2 : (f[i].toNat : Int) > 57 := by omega
          have p3 : (57 : Int) < (f[i].toNat : Int) := by omega
          clear hcc
          go_wp2_with (go_at_call 6; refine CW.mono ?_; rintro e w6 ⟨rfl, hb⟩; have H6 : Hid (Below q W w6) := hb; clear hb CW)
          go_ret
          exact ⟨rfl, H6.out⟩
        · have p0 : ¬ (f[i].toNat : Int) < 65 := by omega
          have p1 : (f[i].toNat : Int) > 90 := by omega
          have p2 : (90 : Int) < (f[i].toNat : Int) := by omega
          have p3 : ¬ (f[i].toNat : Int) < 48 := by omega
          have p4 : (f[i].toNat : Int) > 57 := by omega
          have p5 : (57 : Int) < (f[i].toNat : Int) := by omega
          clear hcc
          go_wp2_with (go_at_call 6; refine CW.mono ?_; rintro e w6 ⟨rfl, hb⟩; have H6 : Hid (Below q W w6) := hb; clear hb CW)
          go_ret
          exact ⟨rfl, H6.out⟩
    · have b1 : ¬ (i : Int) < (n : Int) := by omega
      have hpl := HPL.out (fun j hj => hup j (by omega))
      rw [hpl] at CP
      clear hup hlt hpl CW HPL
      cases hp : tbI f with
      | none =>
        rw [hp] at CP HFN
        simp only [EV_ne (show (13 : Int) ≠ 0 by decide), Option.getD_none, Option.isSome_none] at CP HFN
        go_upto_region 9 with (go_at_call 7; refine CP.mono ?_; rintro e w1 ⟨hb, v0, v1, vl, rfl, hft, -⟩; obtain ⟨d0, m0, n0, rfl⟩ := hft.1.sl3; obtain ⟨d1, m1, n1, rfl⟩ := hft.2.1.sl3; obtain ⟨d2, m2, n2, rfl⟩ := hft.2.2.sl3; have H1 : Hid (Below q W w1) := hb; clear hb hft CP)
        have hB := sub_le' H1.out ((Below.refl w1.heap.size w1).alloc (Nat.le_refl _) (.cells #[.string zPt.nm, .slice d0 m0 n0, .slice d1 m1 n1, .slice d2 m2 n2] 27)) (by have := H1.out.size; have := HQ.out; omega)
        obtain ⟨W2, hW2⟩ : ∃ W2, w1.alloc (.cells #[.string zPt.nm, .slice d0 m0 n0, .slice d1 m1 n1, .slice d2 m2 n2] 27) = W2 := ⟨_, rfl⟩
        simp only [hW2] at hB ⊢
        have H2 : Hid (Below q W W2) := hB
        have CF := HFN.out W2 hB
        clear hB hW2
        go_upto_region 10 with (go_at_call 11; refine CF.mono ?_; rintro e w3 ⟨hb, v0, v1, vl, rfl, hft⟩; obtain ⟨e0, i0, j0, rfl⟩ := hft.1.sl3; obtain ⟨e1, i1, j1, rfl⟩ := hft.2.1.sl3; obtain ⟨e2, i2, j2, rfl⟩ := hft.2.2.sl3; have H3 : Hid (Below q W w3) := sub_le' H2.out hb (by have := H2.out.size; have := HQ.out; omega); clear hb hft CF)
        have hB := sub_le' H3.out ((Below.refl w3.heap.size w3).alloc (Nat.le_refl _) (.cells #[.string zPt.nm, .slice e0 i0 j0, .slice e1 i1 j1, .slice e2 i2 j2] 27)) (by have := H3.out.size; have := HQ.out; omega)
        obtain ⟨W4, hW4⟩ : ∃ W4, w3.alloc (.cells #[.string zPt.nm, .slice e0 i0 j0, .slice e1 i1 j1, .slice e2 i2 j2] 27) = W4 := ⟨_, rfl⟩
        simp only [hW4] at hB ⊢
        have H4 : Hid (Below q W W4) := hB
        have hE1 := HE.out W4 hB
        have k13 := (hE1.1 13 (by decide)).1
        simp only [eblk] at k13
        have q1 := eq_err hE1 (c := 13) (d := 13) (by decide) (by decide)
        have CW := awake_any W4 hE1
        clear hE1 hB hW4
        go_wp2_with (go_at_call 6; refine CW.mono ?_; rintro e w6 ⟨rfl, hb⟩; have H6 : Hid (Below q W w6) := sub_le' H4.out hb (by have := H4.out.size; have := HQ.out; omega); clear hb CW)
        go_ret
        exact ⟨rfl, H6.out⟩
      | some p =>
        rw [hp] at CP HFN
        simp only [EV_0, Option.getD_some, Option.isSome_some] at CP HFN
        go_upto_region 9 with (go_at_call 7; refine CP.mono ?_; rintro e w1 ⟨hb, v0, v1, vl, rfl, hft, -⟩; have hrd := hft.rd; obtain ⟨d0, m0, n0, rfl⟩ := hft.1.sl3; obtain ⟨d1, m1, n1, rfl⟩ := hft.2.1.sl3; obtain ⟨d2, m2, n2, rfl⟩ := hft.2.2.sl3; have H1 : Hid (Below q W w1 ∧ RdP w1 (.agg #[.string p.nm, .slice d0 m0 n0, .slice d1 m1 n1, .slice d2 m2 n2]) p) := ⟨hb, hrd⟩; clear hb hft hrd CP)
        have hbx := bx_new w1 H1.out.2
        have ha : Below w1.heap.size w1 (w1.alloc (.cells #[.string p.nm, .slice d0 m0 n0, .slice d1 m1 n1, .slice d2 m2 n2] 27)) := (Below.refl _ _).alloc (Nat.le_refl _) _
        have hB := sub_le' H1.out.1 ha (by have := H1.out.1.size; have := HQ.out; omega)
        obtain ⟨g1, hg1⟩ : ∃ g, w1.heap.size = g := ⟨_, rfl⟩
        obtain ⟨W2, hW2⟩ : ∃ W2, w1.alloc (.cells #[.string p.nm, .slice d0 m0 n0, .slice d1 m1 n1, .slice d2 m2 n2] 27) = W2 := ⟨_, rfl⟩
        simp only [hg1, hW2] at hbx hB ⊢
        have H2 : Hid (Below q W W2 ∧ BX g1 (.slice d0 m0 n0) (.slice d1 m1 n1) (.slice d2 m2 n2) p W2) := ⟨hB, hbx⟩
        have CF := HFN.out W2 hB
        clear hbx ha hB hg1 hW2 H1
        go_upto_region 10 with (go_at_call 11; refine CF.mono ?_; rintro e w3 ⟨hb, v0, v1, vl, rfl, hft⟩; have hrd := hft.rd; obtain ⟨e0, i0, j0, rfl⟩ := hft.1.sl3; obtain ⟨e1, i1, j1, rfl⟩ := hft.2.1.sl3; obtain ⟨e2, i2, j2, rfl⟩ := hft.2.2.sl3; have H3 : Hid (Below q W w3 ∧ BX g1 (.slice d0 m0 n0) (.slice d1 m1 n1) (.slice d2 m2 n2) p w3 ∧ RdP w3 (.agg #[.string p.nm, .slice e0 i0 j0, .slice e1 i1 j1, .slice e2 i2 j2]) p) := ⟨sub_le' H2.out.1 hb (by have := H2.out.1.size; have := HQ.out; omega), H2.out.2.below hb, hrd⟩; clear hb hft hrd CF)
        have hbx := bx_new w3 H3.out.2.2
        have ha : Below w3.heap.size w3 (w3.alloc (.cells #[.string p.nm, .slice e0 i0 j0, .slice e1 i1 j1, .slice e2 i2 j2] 27)) := (Below.refl _ _).alloc (Nat.le_refl _) _
        have hB := sub_le' H3.out.1 ha (by have := H3.out.1.size; have := HQ.out; omega)
        have hx := H3.out.2.1.below ha
        obtain ⟨g3, hg3⟩ : ∃ g, w3.heap.size = g := ⟨_, rfl⟩
        obtain ⟨W4, hW4⟩ : ∃ W4, w3.alloc (.cells #[.string p.nm, .slice e0 i0 j0, .slice e1 i1 j1, .slice e2 i2 j2] 27) = W4 := ⟨_, rfl⟩
        simp only [hg3, hW4] at hbx hB hx ⊢
        have H4 : Hid (Below q W W4) := hB
        have CA := alike_true hx.rd hbx.rd
        have x0 := hx.c0
        have x1 := hx.c1
        have x2 := hx.c2
        have x3 := hx.c3
        have y0 := hbx.c0
        have y1 := hbx.c1
        have y2 := hbx.c2
        have y3 := hbx.c3
        clear hbx ha hB hg3 hW4 hx H3 H2
        go_wp2_with (first
          | (go_at_call 9; refine CA.mono ?_; rintro e w5 ⟨rfl, hb⟩; have H5 : Hid (Below q W w5) := sub_le' H4.out hb (by have := H4.out.size; have := HQ.out; omega); have CW := awake_any w5 (HE.out w5 H5.out); clear hb CA x0 x1 x2 x3 y0 y1 y2 y3)
          | (go_at_call 6; refine CW.mono ?_; rintro e w6 ⟨rfl, hb⟩; have H6 : Hid (Below q W w6) := sub_le' H5.out hb (by have := H5.out.size; have := HQ.out; omega); clear hb CW))
        go_ret
        exact ⟨rfl, H6.out⟩
end Go.Proofs.YtchnkpgkckadmaaDoor
namespace Go.Proofs.YtchnkpgkckadmaaDoor
set_option linter.unusedSimpArgs false
set_option linter.unusedVariables false
open Go.ChangeShapes Go.WideShapes Go.ChangeAt Go.RowKit Go.Pin Go.Pat Go.Deep
/-- a text that came in -/
theorem open_text {H : Type} {enc : TypeId × Value → H} {W : World} {v : Value} {d : DataW H} {ps : List MemPlace} (hval : ∃ s, v = .string s)
    (h : DataW.Trod enc Tryd.prog W 0 (fun _ => true) true 9 v d ps) (hs : ∀ k ∈ d.weights Tryd.prog 9, k ≤ reachBytes) : ∃ s : ByteArray, v = .string s ∧ s.size ≤ 140737488355328 := by
  obtain ⟨s, rfl⟩ := hval
  obtain ⟨fuel, hf⟩ := h
  obtain ⟨s', h1, h2, _⟩ := DataW.trod_string Tryd.underlying9 hf
  simp only [Value.cells, List.cons.injEq, and_true, Value.string.injEq] at h1
  subst h1
  simp only [Prod.mk.injEq] at h2
  refine ⟨s, rfl, ?_⟩
  have := hs s.data.toList.length (by rw [h2.1]; simp [DataW.weights])
  unfold reachBytes at this
  have e : s.data.toList.length = s.size := by simp
  omega
theorem bytes_string : Tryd.prog.bytesOf 9 = 16 := by kernel_rfl
/-- words that came in -/
theorem open_words {H : Type} {enc : TypeId × Value → H} {W : World} {v : Value} {d : DataW H} {ps : List MemPlace} (hv : ∃ a n c, v = .slice a n c)
    (h : DataW.Trod enc Tryd.prog W 0 (fun _ => true) true 39 v d ps) (hs : ∀ k ∈ d.weights Tryd.prog 39, k ≤ reachBytes) :
    ∃ ws : List ByteArray, RdS W v ws ∧ (∀ x ∈ ws, x.size ≤ 140737488355328) ∧ (∀ a n c, v = .slice a n c → n ≤ c) ∧ ws.length ≤ 140737488355328 := by
  obtain ⟨a, n, c, rfl⟩ := hv
  obtain ⟨fuel, hf⟩ := h
  rcases open_strs Tryd.underlying39 Tryd.underlying9 (by kernel_rfl) hf with ⟨hcs, _⟩ | ⟨y, len, cap, m, Sx, hcs, _, hl, hm, hmm, hx, hc⟩
  · simp only [Value.cells, List.cons.injEq, and_true, Value.slice.injEq] at hcs
    obtain ⟨rfl, rfl, rfl⟩ := hcs
    exact ⟨[], ⟨none, 0, rfl, fun j hj => nomatch hj⟩, (fun x hx => nomatch hx), fun a n c h => by injection h with h1 h2 h3; omega, by simp⟩
  · simp only [Value.cells, List.cons.injEq, and_true, Value.slice.injEq] at hcs
    obtain ⟨rfl, rfl, rfl⟩ := hcs
    simp only [Prod.mk.injEq] at hx
    have hlm : n ≤ m := by rw [hmm]; split <;> omega
    refine ⟨(List.range n).map Sx, ⟨some y, c, by simp, fun j hj => ?_⟩, fun x hx' => ?_, fun a n c h => by injection h with h1 h2 h3; omega, ?_⟩
    · have hj' : j < n := by simpa using hj
      have h0 := (hc 0 (by omega)).1
      obtain ⟨b, o, rfl⟩ := add_spot h0
      have h1 := (hc j (by omega)).1
      rw [add_mid] at h1
      refine ⟨b, o, rfl, ?_⟩
      rw [h1]
      simp [List.getD, hj']
    · obtain ⟨i, hi, rfl⟩ := List.mem_map.1 hx'
      have := hs (Sx i).data.toList.length (by
        rw [hx.1]
        simp only [DataW.weights, Tryd.underlying39]
        exact List.mem_cons_of_mem _ (List.mem_append_left _ (weightsAll_mem (List.mem_map.2 ⟨i, hi, rfl⟩) (by simp [DataW.weights]))))
      unfold reachBytes at this
      have e : (Sx i).data.toList.length = (Sx i).size := by simp
      omega
    · have := hs ((n + (m - n)) * 16) (by
        rw [hx.1]
        simp only [DataW.weights, Tryd.underlying39]
        refine List.mem_cons.2 (.inl ?_)
        rw [bytes_string]
        simp)
      unfold reachBytes at this
      simp
      omega
end Go.Proofs.YtchnkpgkckadmaaDoor
